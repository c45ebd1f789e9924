/-
 Layer 6 (parse): the walk of ParseNotes: a remark ahead of a program is its first item, one behind it its last.
-/
import Derived.Test.YtaiihnniblibaaaDoorParseNotesMem
import Derived.Test.YtaiihnniblibaaaDoorJpK
import Derived.Lib.AppendStr
namespace Go.Proofs.YtaiihnniblibaaaDoor.Parse
open Go.ChangeShapes Go.WideShapes Go.ChangeAt Go.RowKit Tree MemT Mem Utf
set_option linter.unusedVariables false

def AnsB (b : Bool) (w : World) (e : Ending) (w' : World) : Prop := e = .returned (.bool b) ∧ Below w.heap.size w w'
theorem own_empty (w : World) (base : Nat) (hb : base ≤ w.heap.size) : (w.alloc (.cells #[] 5)).ownsRow base 5 1 (.slice (some ⟨w.heap.size, 0, none⟩) 0 0) 0 [] :=
 ⟨rfl, .inr ⟨w.heap.size, 0, #[], rfl, hb, heap_alloc_new w _, Nat.le_refl _, by unfold maxLen; omega, rfl, rfl⟩⟩
abbrev nbx (k : Int) (x y : ByteArray) (A : Option Addr) (n C : Nat) : Obj := .cells #[.int .i64 k, .string x, .string y, .slice A n C] 26
theorem nbx_below (w : World) (k : Int) (x y : ByteArray) (A : Option Addr) (n C : Nat) : Below w.heap.size w (w.alloc (nbx k x y A n C)) := (Below.refl _ _).alloc (Nat.le_refl _) _
theorem nbx_new (w : World) (k : Int) (x y : ByteArray) (A : Option Addr) (n C : Nat) : Boxed (w.alloc (nbx k x y A n C)) w.heap.size k x y (.slice A n C) := heap_alloc_new w _
theorem parse_nz {xs : List Int} {p : Nat} {er : Int} (h : parseR xs = .bad p er) : er ≠ 0 := by
 unfold parseR at h
 split at h
 ·unfold fileN at h
  exact Nz.bind0 nz_fileR (fun _ _ => Nz.ok) p er h
 ·rename_i h0
  injection h with _ h
  rw [← h]; exact h0
/-- What Parse tells, in one form. -/
theorem parse_form {xs : List Int} {w w' : World} {e : Ending} (h : ParsePost xs w e w') : ∃ k x y A C c, ∃ (p : Nat) (er : Int), e = .returned (.tuple #[.agg #[.int .i64 k, .string x, .string y, .slice A c.len C], .int .i64 (p : Int), .int .i64 er]) ∧ Below w.heap.size w w' ∧
  Fs w' (Lo w'.heap.size) (.slice A c.len C) c ∧ ((er = 0 ∧ ∃ r, parseR xs = .ok ⟨k, x, y, c⟩ r) ∨ (er ≠ 0 ∧ parseR xs = .bad p er)) := by
 obtain ⟨hb, h⟩ := h
 cases hR : parseR xs with
 | ok n r =>
  rw [hR] at h
  obtain ⟨A, C, rfl, hf⟩ := h
  obtain ⟨k, x, y, c⟩ := n
  exact ⟨k, x, y, A, C, c, 0, 0, rfl, hb, hf.more fun b hb => hb.2, .inl ⟨rfl, r, rfl⟩⟩
 | bad p er =>
  rw [hR] at h
  have h : e = _ := h
  subst h
  exact ⟨0, ⟨#[]⟩, ⟨#[]⟩, none, 0, .nil, p, er, rfl, hb, ⟨none, 0, rfl, Nat.zero_le _⟩, .inr ⟨parse_nz hR, rfl⟩⟩
set_option maxRecDepth 100000 in
theorem fewB_any (A : Option Addr) (n cap : Nat) (w : World) (hcap : n ≤ cap) (hcap' : cap ≤ 9223372036854775807) :
  Calls Tryd.prog 4 #[.slice A n cap] w fun e w' => e = .returned (.slice A (min n 4000) cap) ∧ w' = w := by
 by_cases hl : n ≤ 4000
 ·have hl' : decide ((4000 : Int) < (n : Int)) = false := by rw [decide_eq_false_iff_not]; omega
  go_enter Tryd.func4, Tryd.ntmps4
  go_wp2
  go_ret
  exact ⟨by rw [Nat.min_eq_left hl]; rfl, rfl⟩
 ·have hl' : (4000 : Int) < (n : Int) := by omega
  have hcl : (4000 : Int) ≤ (cap : Int) := by omega
  go_enter Tryd.func4, Tryd.ntmps4
  go_wp2
  go_ret
  exact ⟨by rw [Nat.min_eq_right (by omega)]; rfl, rfl⟩

theorem appF_len : ∀ f g : F, (appF f g).len = f.len + g.len
 | .nil, g => by simp [appF, F.len]
 | .cons k x y c r, g => by simp only [appF, F.len, appF_len r g]; omega
/-- The front of a row. -/
theorem fs_front {w : World} {S : Nat → Prop} : ∀ (c d : F) {A : Option Addr} {n C : Nat}, Fs w S (.slice A n C) (appF c d) → Fs w S (.slice A c.len C) c
 | .nil, d, A, n, C, h => by
  obtain ⟨A', C', e, h1, h2⟩ := h.slice
  simp only [Value.slice.injEq] at e
  exact ⟨A, C, rfl, by omega⟩
 | .cons k x y c r, d, A, n, C, ⟨b, off, n', C', s, e, h1, h2, h3, hS, c0, c1, c2, c3, hk, hr⟩ => by
  simp only [Value.slice.injEq] at e
  obtain ⟨rfl, rfl, rfl⟩ := e
  have hl := appF_len r d
  refine ⟨b, off, r.len, C', s, rfl, rfl, by omega, h3, hS, c0, c1, c2, c3, hk, fun A' hA => ?_⟩
  rcases hA with rfl | rfl
  ·exact ⟨A', C', rfl, by omega⟩
  ·exact fs_front r d (hr _ (.inr rfl))
theorem tail_slice (b off n C : Nat) (hn : 1 ≤ n) (hC : n ≤ C) : ∃ A' n' C', (∀ W, (Instr.slice 24 (.slice (some ⟨b, off, none⟩) n C) (some (.int .i64 1)) none none).run Tryd.prog W = .ok (.slice A' n' C') W) ∧ n' = n - 1 ∧ C' = C - 1 ∧ (n - 1 = 0 ∨ A' = some ⟨b, off + 4, none⟩) := by
 have h2 : (1 : Int) ≤ (n : Int) := by omega
 refine ⟨if C = 1 then some ⟨b, off, none⟩ else some ⟨b, off + 4, none⟩, n - 1, C - 1, fun W => ?_, rfl, rfl, ?_⟩
 ·rw [run_slice_l (P := Tryd.prog) W 24 _ n C (by kernel_rfl) .i64 1 (by omega) h2]
  have hs : (sizeOf (Tryd.prog.elem 24)).run Tryd.prog W = .ok 4 W := by kernel_rfl
  rw [hs]
  simp only [Result.andThen_ok, sliced, Addr.add]
  by_cases hc : C = 1 <;> simp [hc]
 ·by_cases hc : C = 1
  ·left; omega
  ·right; rw [if_neg hc]

theorem drop_app : ∀ f g : F, (appF f g).drop f.len = g
 | .nil, g => rfl
 | .cons k x y c r, g => drop_app r g
set_option maxRecDepth 100000 in
set_option maxHeartbeats 8000000 in
theorem parseNotes_walk (A : Option Addr) (n0 cap : Nat) (xs0 : List Int) (w : World) (h0 : RB w w.heap.size A xs0) (hn0 : xs0.length = n0) (hcap0 : n0 ≤ cap) (hcap' : cap ≤ maxLen) (hT : Lex.Tab w) :
  Calls Tryd.prog 3 #[.slice A n0 cap] w (AnsB true w) := by
 have HT := Lib.hid hT
 have HX : Hid (∃ xs, xs.length = min n0 4000 ∧ RB w w.heap.size A xs) := ⟨xs0.take (min n0 4000), by rw [List.length_take, hn0]; omega, h0.take _⟩
 have HFEW := Lib.hid (fewB_any A n0 cap w hcap0 (by unfold maxLen at hcap'; exact hcap'))
 have HC := Lib.hid hcap'
 have hm : min n0 4000 ≤ cap := by omega
 have hm2 : min n0 4000 ≤ 4000 := by omega
 clear hT h0 hn0 hcap0 hcap'
 generalize min n0 4000 = m at *
 go_enter Tryd.func3, Tryd.ntmps3
 go_wp2_with fail
 refine HFEW.out.mono ?_
 rintro e w' ⟨rfl, rfl⟩
 obtain ⟨xs, hxn, hrx⟩ := HX.out
 have HP := Lib.hid (parse_any A m cap xs w' _ hrx (Nat.le_refl _) hxn hm HC.out (by omega) HT.out)
 have HRX := Lib.hid hrx; have HXN := Lib.hid hxn
 clear hrx hxn HX HFEW
 go_wp2_with fail
 refine HP.out.mono ?_
 intro e w1 h1
 obtain ⟨k1, x1, y1, A1, C1, c1, p1, er1, rfl, hb1, hf1, hr1⟩ := parse_form h1
 obtain ⟨n1, hn1⟩ : ∃ n, c1.len = n := ⟨_, rfl⟩
 rw [hn1] at hf1 ⊢
 have HN1 := Lib.hid hn1
 have HB1 := Lib.hid hb1; have HF1 := Lib.hid hf1; have HR1 := Lib.hid hr1
 have HT1 := Lib.hid (HT.out.below hb1 HT.out.pos)
 clear h1 hb1 hf1 hr1 HP hn1
 have hx1 := nbx_below w1 k1 x1 y1 A1 n1 C1
 have HX1 := Lib.hid (nbx_new w1 k1 x1 y1 A1 n1 C1)
 have HT1b := Lib.hid (HT1.out.below hx1 HT1.out.pos)
 have HF1b := Lib.hid (HF1.out.later hx1)
 have HB1b := Lib.hid (HB1.out.trans (hx1.mono HB1.out.size))
 have hs1 : (w1.alloc (nbx k1 x1 y1 A1 n1 C1)).heap.size = w1.heap.size + 1 := by simp
 have HS1 : Hid (w'.heap.size ≤ w1.heap.size) := HB1.out.size
 generalize hg1 : w1.alloc (nbx k1 x1 y1 A1 n1 C1) = v1 at *
 -- append([]byte("// one\n"), b...)
 have kc1 : (convert 22 22 (.slice (some ⟨w1.heap.size + 1, 0, none⟩) 7 7)).run Tryd.prog ((w1.alloc (nbx k1 x1 y1 A1 n1 C1)).alloc (.cells #[.int .u8 47, .int .u8 47, .int .u8 32, .int .u8 111, .int .u8 110, .int .u8 101, .int .u8 10] 5)) = .ok (.slice (some ⟨w1.heap.size + 1, 0, none⟩) 7 7) ((w1.alloc (nbx k1 x1 y1 A1 n1 C1)).alloc (.cells #[.int .u8 47, .int .u8 47, .int .u8 32, .int .u8 111, .int .u8 110, .int .u8 101, .int .u8 10] 5 (7, 8))) :=
  Joins.run_convert_bytes_const_at (P := Tryd.prog) _ 22 5 _ 7 7 _ (by simp) Tryd.underlying22 Tryd.underlying5
 have hA1 : Below v1.heap.size v1 (v1.alloc (.cells ((rem1 ++ [10]).map (Value.int .u8)).toArray 5 (7, 8))) := (Below.refl _ _).alloc (Nat.le_refl _) _
 have hLT := Lex.rb_mark v1 (rem1 ++ [10]) 5 (7, 8) (by unfold Byt; decide)
 rw [hs1] at hLT
 have HAL := Lib.hid hA1
 have HLT := Lib.hid hLT
 have HRX1 := Lib.hid (HRX.out.below (HB1b.out.trans (hA1.mono HB1b.out.size)) (Nat.le_refl _))
 have hlt1 : w1.heap.size + 1 < (v1.alloc (.cells ((rem1 ++ [10]).map (Value.int .u8)).toArray 5 (7, 8))).heap.size := by simp [hs1]
 have HLT1 := Lib.hid hlt1
 have hv1 : (.cells ((rem1 ++ [10]).map (Value.int .u8)).toArray 5 (7, 8) : Obj) = .cells #[.int .u8 47, .int .u8 47, .int .u8 32, .int .u8 111, .int .u8 110, .int .u8 101, .int .u8 10] 5 (7, 8) := rfl
 clear hA1 hLT hx1 hlt1
 subst hg1
 go_wp2_with (at_builtin; refine app_lit _ rfl _ _ rfl (w1.heap.size + 1) 7 (rem1 ++ [10]) rfl HLT.out rfl HLT1.out (by omega) w'.heap.size A m cap xs rfl HRX1.out HXN.out (by omega) ?_)
 intro A2 c2 w2 hc2 hc2' hrb2 hb2
 have hb2' : Below (w1.heap.size + 1) (w1.alloc (nbx k1 x1 y1 A1 n1 C1)) w2 := by
  rw [← hs1]; exact HAL.out.trans (hb2.mono (by simp))
 have HT2 := Lib.hid (HT1b.out.below hb2' (by rw [← hs1]; exact HT1b.out.pos))
 have HX2 := Lib.hid (HX1.out.below hb2' (Nat.lt_succ_self _))
 have HB2 := Lib.hid (HB1b.out.trans (hb2'.mono (Nat.le_succ_of_le HS1.out)))
 have HF2 : Hid (Fs w2 (Lo w2.heap.size) (.slice A1 n1 C1) c1) := by
  rw [← hs1] at hb2'; exact HF1b.out.later hb2'
 have HP2 := Lib.hid (parse_any A2 (7 + m) c2 (rem1 ++ [10] ++ xs) w2 _ hrb2 (Nat.le_refl _) (by simp [HXN.out, rem1]; omega) hc2 hc2' (by omega) HT2.out)
 clear hc2 hc2' hrb2 hb2 hb2' HRX1 HLT HAL HLT1 kc1 HT1 HF1 HF1b HT1b HB1b HX1 hs1 hv1
 go_wp2_with fail
 refine HP2.out.mono ?_
 intro e w3 h3
 obtain ⟨k3, x3, y3, A3, C3, c3, p3, er3, rfl, hb3, hf3, hr3⟩ := parse_form h3
 obtain ⟨n3, hn3⟩ : ∃ n, c3.len = n := ⟨_, rfl⟩
 rw [hn3] at hf3 ⊢
 have HN3 := Lib.hid hn3
 have hx3 := nbx_below w3 k3 x3 y3 A3 n3 C3
 have hB3 := HB2.out.trans (hb3.mono HB2.out.size)
 have HB3 := Lib.hid (hB3.trans (hx3.mono hB3.size)); have HR3 := Lib.hid hr3
 have HF3 := Lib.hid (hf3.later hx3)
 have HT3 := Lib.hid ((HT2.out.below hb3 HT2.out.pos).below hx3 (HT2.out.below hb3 HT2.out.pos).pos)
 have HF13 := Lib.hid ((HF2.out.later hb3).later hx3)
 have hX13 := HX2.out.below hb3 HX2.out.lt
 have HX13 := Lib.hid (hX13.below hx3 hX13.lt)
 have HX3 := Lib.hid (nbx_new w3 k3 x3 y3 A3 n3 C3)
 have HS3 : Hid ((w3.alloc (nbx k3 x3 y3 A3 n3 C3)).heap.size = w3.heap.size + 1) := by show _ = _; simp
 clear h3 hb3 hf3 hr3 HP2 hn3 HF2 HT2 HB2 HX2 hx3 hB3 hX13
 have hA2 : Below (w3.alloc (nbx k3 x3 y3 A3 n3 C3)).heap.size (w3.alloc (nbx k3 x3 y3 A3 n3 C3)) ((w3.alloc (nbx k3 x3 y3 A3 n3 C3)).alloc (.cells #[] 5)) := (Below.refl _ _).alloc (Nat.le_refl _) _
 have HA2 := Lib.hid hA2
 have hrx := HRX.out.below (HB3.out.trans (hA2.mono HB3.out.size)) (Nat.le_refl _)
 have hsm : 0 + m ≤ 140737488355328 := by omega
 have hoe := own_empty (w3.alloc (nbx k3 x3 y3 A3 n3 C3)) (w3.heap.size + 1) (by rw [HS3.out]; exact Nat.le_refl _)
 rw [HS3.out] at hoe
 have HOE := Lib.hid hoe
 clear hoe hA2
 go_wp2_with (at_builtin; refine app_rb _ rfl _ _ rfl (w3.heap.size + 1) _ 0 [] rfl HOE.out w'.heap.size A m cap xs rfl hrx HXN.out hsm (by simp) ?_)
 intro v4 w4 hown4 hg4 _
 have hb4 : Below (w3.heap.size + 1) (w3.alloc (nbx k3 x3 y3 A3 n3 C3)) w4 := by
  have := HA2.out.grown hg4 (by simp) (by simp [Value.ownBlock])
  rw [HS3.out] at this; exact this
 obtain ⟨i0, hi0, hz0, hz1, hz2⟩ := info_parts u8_info
 obtain ⟨a4, c4, rfl, hc4, hc4'⟩ := own_slice hown4
 have HO4 := Lib.hid hown4; have HB4 := Lib.hid hb4
 clear hown4 hg4 hb4 hrx hc4 hc4' HOE HA2
 go_wp2_with (at_builtin; refine Lib.wpList_append_own_string w4 rfl _ _ _ _ rfl (w3.heap.size + 1) 5 i0 Tryd.underlying22 Tryd.underlying9 hi0 hz0 hz1 hz2 _ _ _ rfl HO4.out ⟨#[10, 47, 47, 32, 116, 119, 111, 10]⟩ rfl (by unfold maxLen; simp [ByteArray.size]; omega) (by simp [ByteArray.size]; omega) (by have := HB4.out.size; rw [HS3.out] at this; exact this) ?_)
 intro v5 w5 hown5 hg5 _
 have hb5 : Below (w3.heap.size + 1) w4 w5 := (Below.refl _ _).grown hg5 (by have := HB4.out.size; rw [HS3.out] at this; exact this) (fun k hk => (HO4.out.lt k hk).1)
 obtain ⟨a5, c5, rfl, hc5, hc5'⟩ := own_slice hown5
 have hrb5 : RB w5 w5.heap.size a5 (xs ++ 10 :: (rem2 ++ [10])) := by
  refine own_rb (base := w3.heap.size + 1) (n := m + 8) (c := c5) ?_ (HRX.out.1.append (by unfold Byt; decide))
  rw [List.map_append]; exact hown5
 have hB5 := HB4.out.trans hb5
 have HB5 := Lib.hid (HB3.out.trans (hB5.mono (Nat.le_trans HB3.out.size (by rw [HS3.out]; exact Nat.le_refl _))))
 have HT5 := Lib.hid (HT3.out.below hB5 (by rw [← HS3.out]; exact HT3.out.pos))
 have HX15 := Lib.hid (HX13.out.below hB5 (by rw [← HS3.out]; exact HX13.out.lt))
 have HX35 := Lib.hid (HX3.out.below hB5 (Nat.lt_succ_self _))
 have hB5' : Below (w3.alloc (nbx k3 x3 y3 A3 n3 C3)).heap.size (w3.alloc (nbx k3 x3 y3 A3 n3 C3)) w5 := by rw [HS3.out]; exact hB5
 have HF15 := Lib.hid (HF13.out.later hB5')
 have HF35 := Lib.hid (HF3.out.later hB5')
 have HP3 := Lib.hid (parse_any a5 (m + 8) c5 (xs ++ 10 :: (rem2 ++ [10])) w5 _ hrb5 (Nat.le_refl _) (by simp [HXN.out, rem2]) hc5 hc5' (by omega) HT5.out)
 clear hown5 hg5 hb5 hc5 hc5' hrb5 hB5 hB5' HO4 HB4 HX13 HX3 HF13 HF3 HT3 HB3 hsm
 go_wp2_with fail
 refine HP3.out.mono ?_
 intro e w6 h6
 obtain ⟨k6, x6, y6, A6, C6, c6, p6, er6, rfl, hb6, hf6, hr6⟩ := parse_form h6
 obtain ⟨n6, hn6⟩ : ∃ n, c6.len = n := ⟨_, rfl⟩
 rw [hn6] at hf6 ⊢
 have HN6 := Lib.hid hn6
 have hx6 := nbx_below w6 k6 x6 y6 A6 n6 C6
 have hB6 := HB5.out.trans (hb6.mono HB5.out.size)
 have HB6 := Lib.hid (hB6.trans (hx6.mono hB6.size)); have HR6 := Lib.hid hr6
 have HF6 := Lib.hid (hf6.later hx6)
 have HT6 := Lib.hid ((HT5.out.below hb6 HT5.out.pos).below hx6 (HT5.out.below hb6 HT5.out.pos).pos)
 have HF16 := Lib.hid ((HF15.out.later hb6).later hx6)
 have HF36 := Lib.hid ((HF35.out.later hb6).later hx6)
 have hX16 := HX15.out.below hb6 HX15.out.lt
 have HX16 := Lib.hid (hX16.below hx6 hX16.lt)
 have hX36 := HX35.out.below hb6 HX35.out.lt
 have HX36 := Lib.hid (hX36.below hx6 hX36.lt)
 have HX6 := Lib.hid (nbx_new w6 k6 x6 y6 A6 n6 C6)
 have HKN := Lib.hid (known_any (w6.alloc (nbx k6 x6 y6 A6 n6 C6)) HT6.out)
 clear h6 hb6 hf6 hr6 HP3 hn6 HF15 HF35 HT5 HB5 HX15 HX35 hx6 hB6 hX16 hX36 hz0 hz1 hz2 hi0
 go_wp2_with fail
 refine HKN.out.mono ?_
 rintro e w7 ⟨rfl, hb7⟩
 rcases HR1.out with ⟨he1, r1, hok⟩ | ⟨hne, _⟩
 case inr =>
  have hbb : (er1 != 0) = true := bne_iff_ne.2 hne
  have HT7 := HT6.out.below hb7 HT6.out.pos
  have HK2 := Lib.hid (known_any w7 HT7)
  have HB7 := Lib.hid (HB6.out.trans (hb7.mono HB6.out.size))
  clear hb7 HT7 HKN HR1 HR3 HR6 HF6 HF16 HF36 HX16 HX36 HX6 hne
  go_wp2_with fail
  refine HK2.out.mono ?_
  rintro e w8 ⟨rfl, hb8⟩
  have HB8 := Lib.hid (HB7.out.trans (hb8.mono HB7.out.size))
  clear hb8
  go_wp2
  go_ret
  exact ⟨rfl, HB8.out⟩
 subst he1
 obtain ⟨f, hf, hfr⟩ := parse_front HRX.out.1 hok
 obtain ⟨f', hf', hbk⟩ := parse_back HRX.out.1 hok
 have hf : (⟨k1, x1, y1, c1⟩ : Nd) = ⟨1, ⟨#[]⟩, ⟨#[]⟩, f⟩ := hf
 have hf' : (⟨k1, x1, y1, c1⟩ : Nd) = ⟨1, ⟨#[]⟩, ⟨#[]⟩, f'⟩ := hf'
 simp only [Nd.mk.injEq] at hf hf'
 obtain ⟨rfl, rfl, rfl, rfl⟩ := hf
 obtain ⟨_, _, _, rfl⟩ := hf'
 have hu : er3 = 0 ∧ (⟨k3, x3, y3, c3⟩ : Nd) = mkFile (oneF (noteT rem1) c1) := by
  rcases HR3.out with ⟨h, r, hr⟩ | ⟨_, hr⟩
  ·rw [show rem1 ++ [10] ++ xs = rem1 ++ 10 :: xs by simp, hfr] at hr
   simp only [Rd.ok.injEq] at hr
   exact ⟨h, hr.1.symm⟩
  ·rw [show rem1 ++ [10] ++ xs = rem1 ++ 10 :: xs by simp, hfr] at hr
   cases hr
 have hv : er6 = 0 ∧ (⟨k6, x6, y6, c6⟩ : Nd) = mkFile (appF c1 (one (noteT rem2))) := by
  rcases HR6.out with ⟨h, r, hr⟩ | ⟨_, hr⟩
  ·rw [hbk] at hr
   simp only [Rd.ok.injEq] at hr
   exact ⟨h, hr.1.symm⟩
  ·rw [hbk] at hr
   cases hr
 obtain ⟨rfl, hu⟩ := hu
 obtain ⟨rfl, hv⟩ := hv
 have hu : (⟨k3, x3, y3, c3⟩ : Nd) = ⟨1, ⟨#[]⟩, ⟨#[]⟩, oneF (noteT rem1) c1⟩ := hu
 have hv : (⟨k6, x6, y6, c6⟩ : Nd) = ⟨1, ⟨#[]⟩, ⟨#[]⟩, appF c1 (one (noteT rem2))⟩ := hv
 simp only [Nd.mk.injEq] at hu hv
 obtain ⟨rfl, rfl, rfl, rfl⟩ := hu
 obtain ⟨rfl, rfl, rfl, rfl⟩ := hv
 have h3n : n3 = n1 + 1 := by rw [← HN3.out, ← HN1.out]; rfl
 have h6n : n6 = n3 := by rw [h3n, ← HN6.out, ← HN1.out, appF_len]; rfl
 subst h6n
 have H3N := Lib.hid h3n
 clear h3n
 clear HR1 HR3 HR6 hok hfr hbk HN3 HN6
 have HB7 := Lib.hid (HB6.out.trans (hb7.mono HB6.out.size))
 have HF7 := Lib.hid (HF16.out.later hb7); have HU7 := Lib.hid (HF36.out.later hb7); have HV7 := Lib.hid (HF6.out.later hb7)
 have HX17 := Lib.hid (HX16.out.below hb7 HX16.out.lt); have HX37 := Lib.hid (HX36.out.below hb7 HX36.out.lt); have HX67 := Lib.hid (HX6.out.below hb7 HX6.out.lt)
 clear hb7 HF16 HF36 HF6 HX16 HX36 HX6 HB6 HT6 HKN
 obtain ⟨p0, p1', p2, p3'⟩ := HX17.out.cells
 obtain ⟨q0, q1, q2, q3⟩ := HX37.out.cells
 obtain ⟨r0, r1', r2, r3⟩ := HX67.out.cells
 obtain ⟨b3, o3, s3, rfl, hS3, _, hat3⟩ := HU7.out.at_ (i := 0) rfl
 obtain ⟨b6, o6, s6, rfl, hS6, _, hat6⟩ := HV7.out.at_ (i := n1) (k := 8) (x := strOfNums rem2) (y := e0) (c := .nil) (r := .nil) (by rw [← HN1.out, drop_app]; rfl)
 obtain ⟨B3, D3, rfl, _, hD3⟩ := hat3.kids.slice
 obtain ⟨B6, D6, rfl, _, hD6⟩ := hat6.kids.slice
 have hbnd : n6 ≤ 9223372036854775807 := by
  obtain ⟨_, _, ev, h1, h2⟩ := HU7.out.slice
  simp only [Value.slice.injEq] at ev
  omega
 have hnb : (n1 : Int) + 1 ≤ 9223372036854775807 := by have := H3N.out; omega
 have hn0 : (0 : Int) ≤ (n1 : Int) := by omega
 have hlt0 : (0 : Int) < (n6 : Int) := by have := H3N.out; omega
 have hlt1 : (n1 : Int) < (n6 : Int) := by have := H3N.out; omega
 have hne1 : ((n6 : Int) != (n6 : Int)) = false := by simp
 have hwr : IntKind.i64.wrap ((n1 : Int) + 1) = (n6 : Int) := by have := H3N.out; rw [IntKind.wrap_i64]; omega
 obtain ⟨d0, d1, d2, d3⟩ := And.intro hat3.c0 (And.intro hat3.c1 (And.intro hat3.c2 hat3.c3))
 obtain ⟨g0, g1, g2, g3⟩ := And.intro hat6.c0 (And.intro hat6.c1 (And.intro hat6.c2 hat6.c3))
 simp only [Nat.zero_mul, Nat.add_zero, F.len] at d0 d1 d2 d3 g0 g1 g2 g3
 have HK3 := Lib.hid hat3.kids; have HK6 := Lib.hid hat6.kids
 have hS1 : Hid (strOfNums rem1 = ⟨#[47, 47, 32, 111, 110, 101]⟩) := by show _ = _; decide +kernel
 have hS2 : Hid (strOfNums rem2 = ⟨#[47, 47, 32, 116, 119, 111]⟩) := by show _ = _; decide +kernel
 have HNT1 := Lib.hid (note_any w7 8 (strOfNums rem1) ⟨#[]⟩ B3 0 D3 .nil ⟨#[47, 47, 32, 111, 110, 101]⟩ hat3.kids)
 replace d0 : w7.cell? ⟨b3, o3, none⟩ = some (.int .i64 8) := d0
 replace d3 : w7.cell? ⟨b3, o3 + 3, none⟩ = some (.slice B3 0 D3) := d3
 replace d1 : w7.cell? ⟨b3, o3 + 1, none⟩ = some (.string (strOfNums rem1)) := d1
 replace d2 : w7.cell? ⟨b3, o3 + 2, none⟩ = some (.string ⟨#[]⟩) := d2
 replace g2 : w7.cell? ⟨b6, o6 + n1 * 4 + 2, none⟩ = some (.string ⟨#[]⟩) := g2
 generalize strOfNums rem1 = S1 at *
 generalize strOfNums rem2 = S2 at *
 clear hat3 hat6 hD3 hD6 hS3 hS6 hbnd
 clear hnb
 have HK6b : Hid (Fs w7 (Lo w7.heap.size) (.slice B6 0 D6) .nil) := HK6.out
 have ht1 : sameT 8 S1 ⟨#[]⟩ .nil 8 ⟨#[47, 47, 32, 111, 110, 101]⟩ ⟨#[]⟩ .nil = true := by rw [hS1.out]; simp [sameT, same]
 have ht2 : sameT 8 S2 ⟨#[]⟩ .nil 8 ⟨#[47, 47, 32, 116, 119, 111]⟩ ⟨#[]⟩ .nil = true := by rw [hS2.out]; simp [sameT, same]
 rw [ht1] at HNT1
 have HT2 := Lib.hid ht2
 clear ht1 ht2
 go_wp2_with fail
 refine HNT1.out.mono ?_
 rintro e w8 ⟨rfl, hb8⟩
 have HNT2 := Lib.hid (note_any w8 8 S2 ⟨#[]⟩ B6 0 D6 .nil ⟨#[47, 47, 32, 116, 119, 111]⟩ (HK6b.out.later hb8))
 rw [HT2.out] at HNT2
 have HB8 := Lib.hid (HB7.out.trans (hb8.mono HB7.out.size))
 have HF8 := Lib.hid (HF7.out.later hb8); have HU8 := Lib.hid (HU7.out.later hb8); have HV8 := Lib.hid (HV7.out.later hb8)
 have HX18 := Lib.hid (HX17.out.below hb8 HX17.out.lt); have HX38 := Lib.hid (HX37.out.below hb8 HX37.out.lt); have HX68 := Lib.hid (HX67.out.below hb8 HX67.out.lt)
 have hl6 : b6 < w7.heap.size := by
  have := HX67.out.lt
  rcases Nat.lt_or_ge b6 w7.heap.size with h | h
  ·exact h
  ·exfalso; simp [World.cell?, Array.getElem?_eq_none h] at g0
 replace g0 := (hb8.cell (p := ⟨b6, o6 + n1 * 4, none⟩) hl6).trans g0
 replace g1 := (hb8.cell (p := ⟨b6, o6 + n1 * 4 + 1, none⟩) hl6).trans g1
 replace g2 := (hb8.cell (p := ⟨b6, o6 + n1 * 4 + 2, none⟩) hl6).trans g2
 replace g3 := (hb8.cell (p := ⟨b6, o6 + n1 * 4 + 3, none⟩) hl6).trans g3
 clear hb8 HF7 HU7 HV7 HX17 HX37 HX67 HB7 p0 p1' p2 p3' q0 q1 q2 q3 r0 r1' r2 r3 d0 d1 d2 d3
 obtain ⟨p0, p1', p2, p3'⟩ := HX18.out.cells
 obtain ⟨q0, q1, q2, q3⟩ := HX38.out.cells
 obtain ⟨r0, r1', r2, r3⟩ := HX68.out.cells
 go_wp2_with fail
 refine HNT2.out.mono ?_
 rintro e w9 ⟨rfl, hb9⟩
 have HB9 := Lib.hid (HB8.out.trans (hb9.mono HB8.out.size))
 have hF9 := HF8.out.later hb9; have hU9 := HU8.out.later hb9; have hV9 := HV8.out.later hb9
 have HX19 := Lib.hid (HX18.out.below hb9 HX18.out.lt); have HX39 := Lib.hid (HX38.out.below hb9 HX38.out.lt); have HX69 := Lib.hid (HX68.out.below hb9 HX68.out.lt)
 obtain ⟨_, _, ev, hC3, hC3m⟩ := hU9.slice
 obtain ⟨_, _, ev6, hC6, hC6m⟩ := hV9.slice
 simp only [Value.slice.injEq] at ev ev6
 have hC3' : n6 ≤ C3 := by omega
 have hC6' : n6 ≤ C6 := by omega
 obtain ⟨At, nt, Ct, hsl, ent, eCt, hAt⟩ := tail_slice b3 o3 n6 C3 (by have := H3N.out; omega) hC3'
 have hnt : nt = n1 := by have := H3N.out; omega
 have hUt : Fs w9 (Lo w9.heap.size) (.slice At nt Ct) c1 := by
  have := Fs.drop (n := n6) (C := C3) 1 hU9 (by have := H3N.out; omega) At (by
   rcases hAt with h | h
   ·exact .inl (by have := H3N.out; omega)
   ·exact .inr h)
  rw [show n6 - 1 = nt by have := H3N.out; omega, show C3 - 1 = Ct from eCt.symm] at this
  exact this
 have hVt := fs_front c1 _ hV9
 rw [HN1.out] at hVt
 have hlC6 : (n1 : Int) ≤ (C6 : Int) := by have := H3N.out; omega
 have HS9 := Lib.hid hsl
 have HSAME : Hid (∀ W, Below w9.heap.size w9 W → (Calls Tryd.prog 8 #[.agg #[.int .i64 1, .string ⟨#[]⟩, .string ⟨#[]⟩, .slice A1 n1 C1], .agg #[.int .i64 1, .string ⟨#[]⟩, .string ⟨#[]⟩, .slice At nt Ct]] W fun e w' => SamePost true W e w') ∧
   (Calls Tryd.prog 8 #[.agg #[.int .i64 1, .string ⟨#[]⟩, .string ⟨#[]⟩, .slice A1 n1 C1], .agg #[.int .i64 1, .string ⟨#[]⟩, .string ⟨#[]⟩, .slice (some ⟨b6, o6, none⟩) n1 C6]] W fun e w' => SamePost true W e w')) := fun W hW => by
  have hs : sameT 1 ⟨#[]⟩ ⟨#[]⟩ c1 1 ⟨#[]⟩ ⟨#[]⟩ c1 = true := by simp [sameT, same_refl]
  have k1 := rsame_any c1.size 1 ⟨#[]⟩ ⟨#[]⟩ A1 n1 C1 c1 1 ⟨#[]⟩ ⟨#[]⟩ At nt Ct c1 W (Nat.le_refl _) (hF9.later hW) (hUt.later hW)
  have k2 := rsame_any c1.size 1 ⟨#[]⟩ ⟨#[]⟩ A1 n1 C1 c1 1 ⟨#[]⟩ ⟨#[]⟩ (some ⟨b6, o6, none⟩) n1 C6 c1 W (Nat.le_refl _) (hF9.later hW) (hVt.later hW)
  rw [hs] at k1 k2
  exact ⟨k1, k2⟩
 have HXX : Hid (∀ W, Below w9.heap.size w9 W → Boxed W w1.heap.size 1 ⟨#[]⟩ ⟨#[]⟩ (.slice A1 n1 C1) ∧ Boxed W w3.heap.size 1 ⟨#[]⟩ ⟨#[]⟩ (.slice (some ⟨b3, o3, none⟩) n6 C3) ∧ Boxed W w6.heap.size 1 ⟨#[]⟩ ⟨#[]⟩ (.slice (some ⟨b6, o6, none⟩) n6 C6)) := fun W hW =>
  ⟨HX19.out.below hW HX19.out.lt, HX39.out.below hW HX39.out.lt, HX69.out.below hW HX69.out.lt⟩
 clear hb9 hF9 hU9 hV9 hUt hVt HF8 HU8 HV8 HX18 HX38 HX68 HB8 p0 p1' p2 p3' q0 q1 q2 q3 r0 r1' r2 r3 ev ev6 hC3 hC6 hC3m hC6m g0 g1 g2 g3 HK3 HK6 HK6b HNT1 HNT2 hl6 hC3' hC6' ent eCt hAt hnt HX19 HX39 HX69 hsl
 go_wp2_with fail
 -- THE REGION
 refine region_rel (fun W W' => Below W.heap.size W W') [Cd.is (Value.agg #[.int .i64 1, .string ⟨#[]⟩, .string ⟨#[]⟩, .slice A1 n1 C1]), Cd.is (Value.pointer (some ⟨w3.heap.size, 3, none⟩)), Cd.is (Value.slice (some ⟨b3, o3, none⟩) n6 C3), Cd.is (Value.slice At nt Ct), Cd.is (Value.agg #[.int .i64 1, .string ⟨#[]⟩, .string ⟨#[]⟩, .slice At nt Ct]), Cd.is (Value.bool true), Cd.is (Value.bool true), Cd.is (Value.agg #[.int .i64 1, .string ⟨#[]⟩, .string ⟨#[]⟩, .slice A1 n1 C1]), Cd.is (Value.pointer (some ⟨w6.heap.size, 3, none⟩)), Cd.is (Value.slice (some ⟨b6, o6, none⟩) n6 C6), Cd.is (Value.int .i64 (n1 : Int)), Cd.is (Value.slice (some ⟨b6, o6, none⟩) n1 C6), Cd.is (Value.agg #[.int .i64 1, .string ⟨#[]⟩, .string ⟨#[]⟩, .slice (some ⟨b6, o6, none⟩) n1 C6]), Cd.is (Value.bool true), Cd.is (Value.bool true), Cd.is (Value.bool true)] (by kernel_rfl) (by decide) (by kernel_rfl) (Below.refl _ _) (fun _ _ _ h k => h.trans (k.mono h.size)) ?steps ?behind
 case steps =>
  intro xv W hW a ha
  replace hW := undrew hW
  simp only [fillA] at ha
  simp only [List.setIfInBounds_toArray, List.set_cons_succ, List.set_cons_zero, Nat.zero_add, Nat.reduceAdd] at ha
  subst ha
  refine ⟨fun hd K hK => ?s0, fun hd K hK => ?s1, fun hd K hK => ?s2, fun hd K hK => ?s3, fun hd K hK => ?s4, fun hd K hK => ?s5, fun hd K hK => ?s6, fun hd K hK => ?s7, fun hd K hK => ?s8, fun hd K hK => ?s9, fun hd K hK => ?s10, fun hd K hK => ?s11, fun hd K hK => ?s12, fun hd K hK => ?s13, fun hd K hK => ?s14, fun hd K hK => ?s15, trivial⟩
  case s0 =>
   clear hd
   simp only [Act.put, List.setIfInBounds_toArray, List.set_cons_succ, List.set_cons_zero] at hK
   refine (if_pos (by rfl)).mpr ?_
   obtain ⟨hq0, hq1, hq2, hq3⟩ := (HXX.out W hW).1.cells
   go_simp
   exact hK.out _ _ (Below.refl _ _) rfl
  case s1 =>
   clear hd
   simp only [Act.put, List.setIfInBounds_toArray, List.set_cons_succ, List.set_cons_zero] at hK
   refine (if_pos (by rfl)).mpr ?_
   go_simp
   exact hK.out _ _ (Below.refl _ _) rfl
  case s2 =>
   have hx1 : xv 1 = Value.pointer (some ⟨w3.heap.size, 3, none⟩) := hd 1 (by kernel_rfl)
   clear hd
   simp only [Act.put, List.setIfInBounds_toArray, List.set_cons_succ, List.set_cons_zero] at hK
   rw [hx1] at hK ⊢
   refine (if_pos (by rfl)).mpr ?_
   obtain ⟨hq0, hq1, hq2, hq3⟩ := (HXX.out W hW).2.1.cells
   go_simp
   exact hK.out _ _ (Below.refl _ _) rfl
  case s3 =>
   have hx2 : xv 2 = Value.slice (some ⟨b3, o3, none⟩) n6 C3 := hd 2 (by kernel_rfl)
   clear hd
   simp only [Act.put, List.setIfInBounds_toArray, List.set_cons_succ, List.set_cons_zero] at hK
   rw [hx2] at hK ⊢
   refine (if_pos (by rfl)).mpr ?_
   have hsl := HS9.out
   go_simp
   exact hK.out _ _ (Below.refl _ _) rfl
  case s4 =>
   have hx3 : xv 3 = Value.slice At nt Ct := hd 3 (by kernel_rfl)
   clear hd
   simp only [Act.put, List.setIfInBounds_toArray, List.set_cons_succ, List.set_cons_zero] at hK
   rw [hx3] at hK ⊢
   refine (if_pos (by rfl)).mpr ?_
   go_simp
   exact hK.out _ _ (Below.refl _ _) rfl
  case s5 =>
   have hx0 : xv 0 = Value.agg #[.int .i64 1, .string ⟨#[]⟩, .string ⟨#[]⟩, .slice A1 n1 C1] := hd 0 (by kernel_rfl)
   have hx4 : xv 4 = Value.agg #[.int .i64 1, .string ⟨#[]⟩, .string ⟨#[]⟩, .slice At nt Ct] := hd 4 (by kernel_rfl)
   clear hd
   simp only [Act.put, List.setIfInBounds_toArray, List.set_cons_succ, List.set_cons_zero] at hK
   rw [hx0] at hK ⊢
   rw [hx4] at hK ⊢
   refine (if_pos (by rfl)).mpr ?_
   go_simp
   go_at_call 8
   refine (HSAME.out W hW).1.mono ?_
   rintro e w' ⟨rfl, hb⟩
   exact hK.out _ _ hb rfl
  case s6 =>
   have hx5 : xv 5 = Value.bool true := hd 5 (by kernel_rfl)
   clear hd
   simp only [Act.put, List.setIfInBounds_toArray, List.set_cons_succ, List.set_cons_zero] at hK
   rw [hx5] at hK ⊢
   refine (if_pos (by rfl)).mpr ?_
   go_simp
   exact hK.out _ _ (Below.refl _ _) rfl
  case s7 =>
   have hx6 : xv 6 = Value.bool true := hd 6 (by kernel_rfl)
   clear hd
   simp only [Act.put, List.setIfInBounds_toArray, List.set_cons_succ, List.set_cons_zero] at hK
   rw [hx6] at hK ⊢
   refine (if_pos (by rfl)).mpr ?_
   obtain ⟨hq0, hq1, hq2, hq3⟩ := (HXX.out W hW).1.cells
   go_simp
   exact hK.out _ _ (Below.refl _ _) rfl
  case s8 =>
   have hx6 : xv 6 = Value.bool true := hd 6 (by kernel_rfl)
   clear hd
   simp only [Act.put, List.setIfInBounds_toArray, List.set_cons_succ, List.set_cons_zero] at hK
   rw [hx6] at hK ⊢
   refine (if_pos (by rfl)).mpr ?_
   go_simp
   exact hK.out _ _ (Below.refl _ _) rfl
  case s9 =>
   have hx6 : xv 6 = Value.bool true := hd 6 (by kernel_rfl)
   have hx8 : xv 8 = Value.pointer (some ⟨w6.heap.size, 3, none⟩) := hd 8 (by kernel_rfl)
   clear hd
   simp only [Act.put, List.setIfInBounds_toArray, List.set_cons_succ, List.set_cons_zero] at hK
   rw [hx6] at hK ⊢
   rw [hx8] at hK ⊢
   refine (if_pos (by rfl)).mpr ?_
   obtain ⟨hq0, hq1, hq2, hq3⟩ := (HXX.out W hW).2.2.cells
   go_simp
   exact hK.out _ _ (Below.refl _ _) rfl
  case s10 =>
   have hx6 : xv 6 = Value.bool true := hd 6 (by kernel_rfl)
   clear hd
   simp only [Act.put, List.setIfInBounds_toArray, List.set_cons_succ, List.set_cons_zero] at hK
   rw [hx6] at hK ⊢
   refine (if_pos (by rfl)).mpr ?_
   go_simp
   exact hK.out _ _ (Below.refl _ _) rfl
  case s11 =>
   have hx6 : xv 6 = Value.bool true := hd 6 (by kernel_rfl)
   have hx9 : xv 9 = Value.slice (some ⟨b6, o6, none⟩) n6 C6 := hd 9 (by kernel_rfl)
   have hx10 : xv 10 = Value.int .i64 (n1 : Int) := hd 10 (by kernel_rfl)
   clear hd
   simp only [Act.put, List.setIfInBounds_toArray, List.set_cons_succ, List.set_cons_zero] at hK
   rw [hx6] at hK ⊢
   rw [hx9] at hK ⊢
   rw [hx10] at hK ⊢
   refine (if_pos (by rfl)).mpr ?_
   go_simp
   exact hK.out _ _ (Below.refl _ _) rfl
  case s12 =>
   have hx6 : xv 6 = Value.bool true := hd 6 (by kernel_rfl)
   have hx11 : xv 11 = Value.slice (some ⟨b6, o6, none⟩) n1 C6 := hd 11 (by kernel_rfl)
   clear hd
   simp only [Act.put, List.setIfInBounds_toArray, List.set_cons_succ, List.set_cons_zero] at hK
   rw [hx6] at hK ⊢
   rw [hx11] at hK ⊢
   refine (if_pos (by rfl)).mpr ?_
   go_simp
   exact hK.out _ _ (Below.refl _ _) rfl
  case s13 =>
   have hx6 : xv 6 = Value.bool true := hd 6 (by kernel_rfl)
   have hx7 : xv 7 = Value.agg #[.int .i64 1, .string ⟨#[]⟩, .string ⟨#[]⟩, .slice A1 n1 C1] := hd 7 (by kernel_rfl)
   have hx12 : xv 12 = Value.agg #[.int .i64 1, .string ⟨#[]⟩, .string ⟨#[]⟩, .slice (some ⟨b6, o6, none⟩) n1 C6] := hd 12 (by kernel_rfl)
   clear hd
   simp only [Act.put, List.setIfInBounds_toArray, List.set_cons_succ, List.set_cons_zero] at hK
   rw [hx6] at hK ⊢
   rw [hx7] at hK ⊢
   rw [hx12] at hK ⊢
   refine (if_pos (by rfl)).mpr ?_
   go_simp
   go_at_call 8
   refine (HSAME.out W hW).2.mono ?_
   rintro e w' ⟨rfl, hb⟩
   exact hK.out _ _ hb rfl
  case s14 =>
   have hx6 : xv 6 = Value.bool true := hd 6 (by kernel_rfl)
   have hx13 : xv 13 = Value.bool true := hd 13 (by kernel_rfl)
   clear hd
   simp only [Act.put, List.setIfInBounds_toArray, List.set_cons_succ, List.set_cons_zero] at hK
   rw [hx6] at hK ⊢
   rw [hx13] at hK ⊢
   refine (if_pos (by rfl)).mpr ?_
   go_simp
   exact hK.out _ _ (Below.refl _ _) rfl
  case s15 =>
   have hx14 : xv 14 = Value.bool true := hd 14 (by kernel_rfl)
   clear hd
   simp only [Act.put, List.setIfInBounds_toArray, List.set_cons_succ, List.set_cons_zero] at hK
   rw [hx14] at hK ⊢
   refine (if_pos (by rfl)).mpr ?_
   go_simp
   exact hK.out _ _ (Below.refl _ _) rfl
 case behind =>
  intro xv W hW hx a ha
  replace hW := undrew hW
  simp only [fillA] at ha
  simp only [List.setIfInBounds_toArray, List.set_cons_succ, List.set_cons_zero, Nat.zero_add, Nat.reduceAdd] at ha
  subst ha
  have h15 : xv 15 = Value.bool true := hx 15 (by decide)
  rw [h15]
  have HE := Lib.hid (HB9.out.trans (hW.mono HB9.out.size))
  clear hx h15 hW
  go_wp2
  go_ret
  exact ⟨rfl, HE.out⟩
end Go.Proofs.YtaiihnniblibaaaDoor.Parse
