/-
 Layer 6 (parse): the chapter's examples hold in the program.
-/
import Derived.Test.YtaiihnniblibaaaGreatDoorJpJ
import Derived.Test.YtaiihnniblibaaaGreatDoorJpA
import Derived.Lib.SmallJoins
namespace Go.Proofs.YtaiihnniblibaaaGreatDoor.Parse
open Go.ChangeShapes Go.WideShapes Go.ChangeAt Go.RowKit Utf MemT Mem Tree
set_option linter.unusedVariables false

def isBad (p : Nat) (e : Int) : Rd Nd → Bool
 | .ok _ _ => false
 | .bad q f => decide (q = p) && decide (f = e)
theorem isBad_is {p : Nat} {e : Int} {R : Rd Nd} (h : isBad p e R = true) : R = .bad p e := by
 cases R with
 | ok a r => cases h
 | bad q f =>
  simp only [isBad, Bool.and_eq_true, decide_eq_true_eq] at h
  rw [h.1, h.2]
def k61 : List Int := [112, 97, 99, 107, 97, 103, 101, 32, 112, 10, 99, 111, 110, 115, 116, 32, 97, 32, 61, 32, 40, 98, 32, 45, 32, 99, 41, 32, 42, 32, 50, 32, 47, 47, 32, 100]
def k62 : List Int := [112, 97, 99, 107, 97, 103, 101, 32, 112, 10, 120, 32, 58, 61, 32, 49]
def isK1 : Rd Nd → Bool
 | .ok ⟨_, _, _, .cons _ _ _ _ (.cons _ _ y (.cons _ x _ _ .nil) .nil)⟩ _ => y.toList == [47, 47, 32, 100] && x.toList == [42]
 | _ => false
theorem isK1_is {R : Rd Nd} (h : isK1 R = true) : ∃ k x y k0 x0 y0 c0 k1 x1 k2 y2 c2 r, R = .ok ⟨k, x, y, .cons k0 x0 y0 c0 (.cons k1 x1 ⟨#[47, 47, 32, 100]⟩ (.cons k2 ⟨#[42]⟩ y2 c2 .nil) .nil)⟩ r := by
 unfold isK1 at h
 split at h
 ·rename_i y1 k2 x2 y2 c2 r
  simp only [Bool.and_eq_true, beq_iff_eq] at h
  have e1 : y1 = ⟨#[47, 47, 32, 100]⟩ := ba_toList (by rw [h.1, ByteArray.toList_eq])
  have e2 : x2 = ⟨#[42]⟩ := ba_toList (by rw [h.2, ByteArray.toList_eq])
  subst e1; subst e2
  exact ⟨_, _, _, _, _, _, _, _, _, _, _, _, _, rfl⟩
 ·cases h
theorem k61_is : isK1 (parseR k61) = true := by decide +kernel
theorem k62_is : isBad 10 5 (parseR k62) = true := by decide +kernel
theorem k63_is : isBad 0 5 (parseR []) = true := by decide +kernel
theorem parse_lit (K : List Int) (hb : K.all (fun x => decide (0 ≤ x ∧ x < 256)) = true) (n : Nat) (hn : K.length = n) (hs : n ≤ 1000) (w : World) (hT : Lex.Tab w) (fr : Nat × Nat) (g : Nat) (hg : g = w.heap.size) :
  Calls Tryz.prog 9 #[.slice (some ⟨g, 0, none⟩) n n] (w.alloc (.cells (K.map (Value.int .u8)).toArray 5 fr)) (ParsePost K (w.alloc (.cells (K.map (Value.int .u8)).toArray 5 fr))) := by
 subst hg; subst hn
 have hbel : Below w.heap.size w (w.alloc (.cells (K.map (Value.int .u8)).toArray 5 fr)) := (Below.refl _ _).alloc (Nat.le_refl _) _
 exact parse_any _ _ _ K _ _ (Lex.rb_mark w K 5 fr (fun x hx => by simpa using List.all_eq_true.1 hb x hx)) (by simp) rfl (Nat.le_refl _) (by unfold maxLen; omega) (by omega) (hT.below hbel hT.pos)

set_option maxRecDepth 100000 in
set_option maxHeartbeats 4000000 in
theorem known_any (w : World) (hT : Lex.Tab w) :
  Calls Tryz.prog 8 #[] w fun e w' => e = .returned (.bool true) ∧ Below w.heap.size w w' := by
 have kc1 : (convert 30 30 (.slice (some ⟨w.heap.size, 0, none⟩) 36 36)).run Tryz.prog (w.alloc (.cells #[.int .u8 112, .int .u8 97, .int .u8 99, .int .u8 107, .int .u8 97, .int .u8 103, .int .u8 101, .int .u8 32, .int .u8 112, .int .u8 10, .int .u8 99, .int .u8 111, .int .u8 110, .int .u8 115, .int .u8 116, .int .u8 32, .int .u8 97, .int .u8 32, .int .u8 61, .int .u8 32, .int .u8 40, .int .u8 98, .int .u8 32, .int .u8 45, .int .u8 32, .int .u8 99, .int .u8 41, .int .u8 32, .int .u8 42, .int .u8 32, .int .u8 50, .int .u8 32, .int .u8 47, .int .u8 47, .int .u8 32, .int .u8 100] 5)) = .ok (.slice (some ⟨w.heap.size, 0, none⟩) 36 36) (w.alloc (.cells #[.int .u8 112, .int .u8 97, .int .u8 99, .int .u8 107, .int .u8 97, .int .u8 103, .int .u8 101, .int .u8 32, .int .u8 112, .int .u8 10, .int .u8 99, .int .u8 111, .int .u8 110, .int .u8 115, .int .u8 116, .int .u8 32, .int .u8 97, .int .u8 32, .int .u8 61, .int .u8 32, .int .u8 40, .int .u8 98, .int .u8 32, .int .u8 45, .int .u8 32, .int .u8 99, .int .u8 41, .int .u8 32, .int .u8 42, .int .u8 32, .int .u8 50, .int .u8 32, .int .u8 47, .int .u8 47, .int .u8 32, .int .u8 100] 5 (36, 37))) :=
  Lib.run_convert_bytes_const (P := Tryz.prog) w 30 5 _ 36 36 Tryz.underlying30 Tryz.underlying5
 have H1 := Lib.hid (parse_lit k61 (by decide) 36 rfl (by omega) w hT (36, 37) _ rfl)
 have HT := Lib.hid hT
 clear hT
 go_enter Tryz.func8, Tryz.ntmps8
 go_wp2_with fail
 refine H1.out.mono ?_
 rintro e w1 ⟨hb1, h1⟩
 obtain ⟨nk, nx, ny, nk0, x0, y0, c0, q1, x1, q2, y2, c2, r, hR⟩ := isK1_is k61_is
 rw [hR] at h1
 simp only [F.len, Nat.zero_add, Nat.reduceAdd] at h1
 obtain ⟨A1, C1, rfl, hf1⟩ := h1
 have HB1 := Lib.hid (((Below.refl _ _).alloc (Nat.le_refl _) (.cells #[.int .u8 112, .int .u8 97, .int .u8 99, .int .u8 107, .int .u8 97, .int .u8 103, .int .u8 101, .int .u8 32, .int .u8 112, .int .u8 10, .int .u8 99, .int .u8 111, .int .u8 110, .int .u8 115, .int .u8 116, .int .u8 32, .int .u8 97, .int .u8 32, .int .u8 61, .int .u8 32, .int .u8 40, .int .u8 98, .int .u8 32, .int .u8 45, .int .u8 32, .int .u8 99, .int .u8 41, .int .u8 32, .int .u8 42, .int .u8 32, .int .u8 50, .int .u8 32, .int .u8 47, .int .u8 47, .int .u8 32, .int .u8 100] 5 (36, 37))).trans (hb1.mono (by simp)))
 have HF1 := Lib.hid hf1
 clear hb1 hf1 kc1 H1 hR
 have hbx : Below w1.heap.size w1 (w1.alloc (.cells #[.int .i64 nk, .string nx, .string ny, .slice A1 2 C1] 24)) := (Below.refl _ _).alloc (Nat.le_refl _) _
 have HBX := Lib.hid hbx
 have HBB : Hid (Boxed (w1.alloc (.cells #[.int .i64 nk, .string nx, .string ny, .slice A1 2 C1] 24)) w1.heap.size nk nx ny (.slice A1 2 C1)) := heap_alloc_new w1 _
 have HT1 := Lib.hid ((HT.out.below HB1.out HT.out.pos).below hbx (HT.out.below HB1.out HT.out.pos).pos)
 clear hbx
 have kc2 : (convert 30 30 (.slice (some ⟨w1.heap.size + 1, 0, none⟩) 16 16)).run Tryz.prog ((w1.alloc (.cells #[.int .i64 nk, .string nx, .string ny, .slice A1 2 C1] 24)).alloc (.cells #[.int .u8 112, .int .u8 97, .int .u8 99, .int .u8 107, .int .u8 97, .int .u8 103, .int .u8 101, .int .u8 32, .int .u8 112, .int .u8 10, .int .u8 120, .int .u8 32, .int .u8 58, .int .u8 61, .int .u8 32, .int .u8 49] 5)) = .ok (.slice (some ⟨w1.heap.size + 1, 0, none⟩) 16 16) ((w1.alloc (.cells #[.int .i64 nk, .string nx, .string ny, .slice A1 2 C1] 24)).alloc (.cells #[.int .u8 112, .int .u8 97, .int .u8 99, .int .u8 107, .int .u8 97, .int .u8 103, .int .u8 101, .int .u8 32, .int .u8 112, .int .u8 10, .int .u8 120, .int .u8 32, .int .u8 58, .int .u8 61, .int .u8 32, .int .u8 49] 5 (16, 17))) :=
  Joins.run_convert_bytes_const_at (P := Tryz.prog) (w1.alloc (.cells #[.int .i64 nk, .string nx, .string ny, .slice A1 2 C1] 24)) 30 5 _ 16 16 _ (by simp) Tryz.underlying30 Tryz.underlying5
 have H2 := Lib.hid (parse_lit k62 (by decide) 16 rfl (by omega) _ HT1.out (16, 17) (w1.heap.size + 1) (by simp))
 go_wp2_with fail
 refine H2.out.mono ?_
 rintro e w2 ⟨hb2, h2⟩
 rw [isBad_is k62_is] at h2
 have h2 : e = _ := h2
 subst h2
 have hb2' : Below (w1.heap.size + 1) (w1.alloc (.cells #[.int .i64 nk, .string nx, .string ny, .slice A1 2 C1] 24)) w2 := ((Below.refl _ _).alloc (by simp) (.cells #[.int .u8 112, .int .u8 97, .int .u8 99, .int .u8 107, .int .u8 97, .int .u8 103, .int .u8 101, .int .u8 32, .int .u8 112, .int .u8 10, .int .u8 120, .int .u8 32, .int .u8 58, .int .u8 61, .int .u8 32, .int .u8 49] 5 (16, 17))).trans (hb2.mono (by simp))
 have HT2 := Lib.hid (HT1.out.below hb2' (Nat.lt_of_lt_of_le HT1.out.pos (by simp)))
 have HBB2 := Lib.hid (HBB.out.below hb2' (Nat.lt_succ_self _))
 have HB2 := Lib.hid (HBX.out.trans (hb2'.mono (Nat.le_succ _)))
 clear hb2 hb2' kc2 H2 HBB HBX
 have hby : Below w2.heap.size w2 (w2.alloc (.cells #[.int .i64 0, .string ⟨#[]⟩, .string ⟨#[]⟩, .slice none 0 0] 24)) := (Below.refl _ _).alloc (Nat.le_refl _) _
 have HBY := Lib.hid hby
 have H3 := Lib.hid (parse_any none 0 0 [] _ _ ⟨Byt.nil, .inl rfl⟩ (Nat.le_refl _) rfl (Nat.le_refl _) (by decide) (by decide) (HT2.out.below hby HT2.out.pos))
 clear hby
 go_wp2_with fail
 refine H3.out.mono ?_
 rintro e w3 ⟨hb3', h3⟩
 have hb3 := (HBY.out.trans (hb3'.mono (by simp))).trans (((Below.refl _ _).alloc (Nat.le_refl _) (.cells #[.int .i64 0, .string ⟨#[]⟩, .string ⟨#[]⟩, .slice none 0 0] 24)).mono (Nat.le_trans (by simp : w2.heap.size ≤ (w2.alloc (.cells #[.int .i64 0, .string ⟨#[]⟩, .string ⟨#[]⟩, .slice none 0 0] 24)).heap.size) hb3'.size))
 clear hb3' HBY
 rw [isBad_is k63_is] at h3
 have h3 : e = _ := h3
 subst h3
 have hf3 := mi_later (mi_later HF1.out HB2.out (Nat.le_refl _)) hb3 HB2.out.size
 have HBE := Lib.hid (HB1.out.trans ((HB2.out.mono HB1.out.size).trans (hb3.mono (Nat.le_trans HB1.out.size HB2.out.size))))
 obtain ⟨p0, p1, p2, p3⟩ := (HBB2.out.below hb3 HBB2.out.lt).cells
 obtain ⟨b, off, s, rfl, _, _, ha⟩ := hf3.at_ (i := 1) rfl
 obtain ⟨A4, C4, rfl, _, _⟩ := ha.kids.slice
 obtain ⟨b4, off4, s4, rfl, _, _, ha4⟩ := ha.kids.at_ (i := 0) rfl
 obtain ⟨d0, d1, d2, d3⟩ := And.intro ha.c0 (And.intro ha.c1 (And.intro ha.c2 ha.c3))
 obtain ⟨g0, g1, g2, g3⟩ := And.intro ha4.c0 (And.intro ha4.c1 (And.intro ha4.c2 ha4.c3))
 simp only [Nat.one_mul, Nat.zero_mul, Nat.add_zero, F.len, Nat.zero_add] at d0 d1 d2 d3 g0 g1 g2 g3
 clear hf3 ha ha4 hb3 H3 HT2 HT1 HT HB1 HB2 HF1 HBB2
 go_wp2_with fail
 go_ret
 exact ⟨rfl, HBE.out⟩
end Go.Proofs.YtaiihnniblibaaaGreatDoor.Parse
