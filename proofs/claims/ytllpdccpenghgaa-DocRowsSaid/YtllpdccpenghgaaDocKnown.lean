/-
  Layer 7 (doc): the laws' own example (known). Written by gen_docknown.py.
-/
import Derived.Test.YtllpdccpenghgaaDocBuilt
import Derived.Test.YtllpdccpenghgaaDocFew
import Derived.Test.YtllpdccpenghgaaMemRel
namespace Go.Proofs.Ytllpdccpenghgaa.Doc
open Go.ChangeShapes Go.WideShapes Go.ChangeAt Go.RowKit Mem
set_option linter.unusedVariables false

def XF : Nat → Prop := fun _ => False
/-- A document without parts that a call answers. -/
def LeafPost (k : Int) (x : ByteArray) (w : World) (e : Ending) (w' : World) : Prop := (∃ (A : Option Addr) (C : Nat), C ≤ 9223372036854775807 ∧ e = .returned (.agg #[.int .i64 k, .string x, .slice A 0 C])) ∧ Below w.heap.size w w'
theorem leaf_of {k : Int} {x : ByteArray} {w : World} {f : Nat} {args : Array Value} (h : Calls Try.prog f args w (DocPost XF ⟨k, x, .nil⟩ w)) : Calls Try.prog f args w (LeafPost k x w) := by
  refine h.mono ?_
  rintro e w' ⟨s, rfl, ⟨A, C, rfl, hC⟩, hb⟩
  exact ⟨⟨A, C, hC, rfl⟩, hb⟩
theorem hard_leaf (w : World) : Calls Try.prog 21 #[] w (LeafPost 4 emp w) := leaf_of (hard_any XF w)
theorem soft_leaf (w : World) : Calls Try.prog 25 #[] w (LeafPost 3 emp w) := leaf_of (soft_any XF w)
theorem line_leaf (w : World) : Calls Try.prog 20 #[] w (LeafPost 2 emp w) := leaf_of (line_any XF w)
theorem text_leaf (x : ByteArray) (hx : x.toList ≠ []) (w : World) : Calls Try.prog 19 #[.string x] w (LeafPost 1 x w) := leaf_of (by have := text_any XF x w; unfold textN at this; rwa [if_neg hx] at this)
/-- Documents that have just been laid, one behind the other. -/
theorem gs_new {X : Nat → Prop} (ps : List Nv) (w : World) (hX : ∀ b, X b → b < w.heap.size) (hk : ∀ p ∈ ps, Gs w (Dx X w) p.2 p.1.c) (hb : ps.length ≤ 1000 := by simp) :
    Gs (w.alloc (.cells (ps.flatMap ndC).toArray 29)) (Dx X (w.alloc (.cells (ps.flatMap ndC).toArray 29))) (.slice (some ⟨w.heap.size, 0, none⟩) ps.length ps.length) (ofL (ps.map (·.1))) := by
  have hb1 := (Below.refl w.heap.size w).alloc (Nat.le_refl _) (.cells (ps.flatMap ndC).toArray 29)
  have hx := heap_alloc_new w (.cells (ps.flatMap ndC).toArray 29)
  refine RowC.gs ps 0 ps.length ps.length rfl (Nat.le_refl _) (by omega) ⟨⟨_, _, hx⟩, fun h => by have := hX _ h; omega⟩ (fun i p hp => ?_) (fun p hp => (hk p hp).dxB hb1) _ (.inr rfl)
  have key : ∀ j u, (ndC p)[j]? = some u → (w.alloc (.cells (ps.flatMap ndC).toArray 29)).cell? ⟨w.heap.size, i * 3 + j, none⟩ = some u := fun j u hu => by
    have := MemT.flat_at ndC_len ps i p hp j u hu
    rw [World.cell?_alloc_at _ _ _ _ rfl]
    simpa using this
  simp only [Nat.zero_add]
  exact ⟨key 0 _ rfl, key 1 _ rfl, key 2 _ rfl⟩
def kT (l : List UInt8) : Nd := ⟨1, ⟨l.toArray⟩, .nil⟩
/-- The inner row, and the whole. -/
def kI : Nd := ⟨0, emp, ofL [⟨3, emp, .nil⟩, kT [97, 44], ⟨2, emp, .nil⟩, kT [98]]⟩
def kD : Nd := ⟨0, emp, ofL [kT [102, 40], nestN kI, kT [41]]⟩
theorem kI_row : rowN [⟨3, emp, .nil⟩, kT [97, 44], ⟨2, emp, .nil⟩, kT [98]] = kI := rfl
theorem kD_row : rowN [kT [102, 40], nestN kI, kT [41]] = kD := rfl
theorem kD2_row : rowN [kD, (⟨4, emp, .nil⟩ : Nd)] = ⟨0, emp, ofL [kD, (⟨4, emp, .nil⟩ : Nd)]⟩ := rfl
theorem kD_flat : flS (pcs1 kD) = ⟨#[102, 40, 97, 44, 32, 98, 41]⟩ ∧ noHard (pcs1 kD) = true ∧ (pcs1 kD).length = 8 := by refine ⟨?_, ?_, ?_⟩ <;> decide +kernel
theorem kD2_flat : flS (pcs1 (⟨0, emp, ofL [kD, (⟨4, emp, .nil⟩ : Nd)]⟩ : Nd)) = ⟨#[]⟩ ∧ noHard (pcs1 (⟨0, emp, ofL [kD, (⟨4, emp, .nil⟩ : Nd)]⟩ : Nd)) = false := by refine ⟨?_, ?_⟩ <;> decide +kernel
theorem kD_len : (flB (pcs1 kD)).length ≤ 140737488355328 := by decide +kernel
theorem kD2_len : (flB (pcs1 (⟨0, emp, ofL [kD, (⟨4, emp, .nil⟩ : Nd)]⟩ : Nd))).length ≤ 140737488355328 := by decide +kernel
theorem kD_size : nsize kD ≤ 100000 := by decide +kernel
theorem kD2_size : nsize (⟨0, emp, ofL [kD, (⟨4, emp, .nil⟩ : Nd)]⟩ : Nd) ≤ 100000 := by decide +kernel
theorem kI_ok : okN kI := ⟨by decide, by decide, trivial, by decide, trivial, by decide, trivial, by decide, trivial, trivial⟩
theorem kD_ok : okN kD := ⟨by decide, by decide, trivial, by decide, (okN_nest kI_ok).2, by decide, trivial, trivial⟩
theorem kD2_ok : okN (⟨0, emp, ofL [kD, (⟨4, emp, .nil⟩ : Nd)]⟩ : Nd) := ⟨by decide, by decide, kD_ok.2, by decide, trivial, trivial⟩
/-- A document with n parts that a call answers. -/
def DkPost (k : Int) (n : Nat) (g : G) (w : World) (e : Ending) (w' : World) : Prop := (∃ (A : Option Addr) (C : Nat), e = .returned (.agg #[.int .i64 k, .string ⟨#[]⟩, .slice A n C]) ∧ Gs w' (Dx XF w') (.slice A n C) g) ∧ Below w.heap.size w w'
theorem dk_of {k : Int} {n : Nat} {g : G} {w : World} {f : Nat} {args : Array Value} (hn : g.len = n) (h : Calls Try.prog f args w (DocPost XF ⟨k, emp, g⟩ w)) : Calls Try.prog f args w (DkPost k n g w) := by
  refine h.mono ?_
  rintro e w' ⟨s, rfl, hg, hb⟩
  obtain ⟨A, C, rfl, _, _⟩ := hg.slice
  dsimp only at hg ⊢
  rw [hn] at hg ⊢
  exact ⟨⟨A, C, rfl, hg⟩, hb⟩
def LkPost (k : Int) (x : ByteArray) (w : World) (e : Ending) (w' : World) : Prop := LeafPost k x w e w'
theorem ne_of {l : List UInt8} (h : l ≠ []) : (⟨l.toArray⟩ : ByteArray).toList ≠ [] := by rw [ByteArray.toList_eq]; simpa using h
theorem xf (w : World) : ∀ b, XF b → b < w.heap.size := fun b hb => hb.elim
theorem nil_gs {w : World} {S : Nat → Prop} {A : Option Addr} {C : Nat} (hC : C ≤ 9223372036854775807) : Gs w S (.slice A 0 C) .nil := ⟨A, C, rfl, hC⟩
set_option maxHeartbeats 8000000 in
set_option maxRecDepth 100000 in
theorem known_any (w : World) : Calls Try.prog 9 #[] w fun e w' => e = .returned (.bool true) ∧ Below w.heap.size w w' := by
  go_enter Try.func9, Try.ntmps9
  go_wp2_with fail
  refine (text_leaf ⟨#[102, 40]⟩ (ne_of (l := [102, 40]) (by simp)) w).mono ?_
  rintro e w1 ⟨⟨A1, C1, hC1, rfl⟩, b1⟩
  go_wp2_with fail
  refine (soft_leaf w1).mono ?_
  rintro e w2 ⟨⟨A2, C2, hC2, rfl⟩, b2⟩
  go_wp2_with fail
  refine (text_leaf ⟨#[97, 44]⟩ (ne_of (l := [97, 44]) (by simp)) w2).mono ?_
  rintro e w3 ⟨⟨A3, C3, hC3, rfl⟩, b3⟩
  go_wp2_with fail
  refine (line_leaf w3).mono ?_
  rintro e w4 ⟨⟨A4, C4, hC4, rfl⟩, b4⟩
  go_wp2_with fail
  refine (text_leaf ⟨#[98]⟩ (ne_of (l := [98]) (by simp)) w4).mono ?_
  rintro e w5 ⟨⟨A5, C5, hC5, rfl⟩, b5⟩
  have HB5 := Lib.hid (b1.trans ((b2.trans ((b3.trans ((b4.trans (b5.mono b4.size)).mono b3.size)).mono b2.size)).mono b1.size))
  have hg5 := gs_new (X := XF) [((⟨3, emp, .nil⟩, .slice A2 0 C2) : Nv), (kT [97, 44], .slice A3 0 C3), (⟨2, emp, .nil⟩, .slice A4 0 C4), (kT [98], .slice A5 0 C5)] w5 (xf w5) (fun p hp => by
    simp only [List.mem_cons, List.not_mem_nil, or_false] at hp
    rcases hp with rfl | rfl | rfl | rfl <;> exact nil_gs (by assumption))
  have hb6 := (Below.refl w5.heap.size w5).alloc (Nat.le_refl _) (.cells #[.int .i64 3, .string ⟨#[]⟩, .slice A2 0 C2, .int .i64 1, .string ⟨#[97, 44]⟩, .slice A3 0 C3, .int .i64 2, .string ⟨#[]⟩, .slice A4 0 C4, .int .i64 1, .string ⟨#[98]⟩, .slice A5 0 C5] 29)
  have HR6 := Lib.hid (show Calls Try.prog 16 #[.slice (some ⟨w5.heap.size, 0, none⟩) 4 4] (w5.alloc (.cells #[.int .i64 3, .string ⟨#[]⟩, .slice A2 0 C2, .int .i64 1, .string ⟨#[97, 44]⟩, .slice A3 0 C3, .int .i64 2, .string ⟨#[]⟩, .slice A4 0 C4, .int .i64 1, .string ⟨#[98]⟩, .slice A5 0 C5] 29)) (DkPost 0 4 kI.c _) from dk_of rfl (row_any (X := XF) _ 4 4 _ _ (xf _) hg5 (by omega) (by unfold maxLen; omega)))
  have HB6 := Lib.hid hb6
  clear b1 b2 b3 b4 b5 hg5 hb6
  go_wp2_with fail
  refine HR6.out.mono ?_
  rintro e w7 ⟨⟨A7, C7, rfl, hg7⟩, b7⟩
  have HR7 := Lib.hid (show Calls Try.prog 22 #[.agg #[.int .i64 0, .string ⟨#[]⟩, .slice A7 4 C7]] w7 (DkPost 5 1 (ofL [kI]) w7) from dk_of rfl (nest_any kI (.slice A7 4 C7) w7 (xf w7) hg7))
  have HB7 := Lib.hid (HB5.out.trans ((HB6.out.trans (b7.mono HB6.out.size)).mono HB5.out.size))
  clear hg7 b7 HR6
  go_wp2_with fail
  refine HR7.out.mono ?_
  rintro e w8 ⟨⟨A8, C8, rfl, hg8⟩, b8⟩
  have HG8 := Lib.hid hg8
  have HB8 := Lib.hid (HB7.out.trans (b8.mono HB7.out.size))
  clear hg8 b8 HR7
  go_wp2_with fail
  refine (text_leaf ⟨#[41]⟩ (ne_of (l := [41]) (by simp)) w8).mono ?_
  rintro e w9 ⟨⟨A6, C6, hC6, rfl⟩, b9⟩
  have hg9 := gs_new (X := XF) [((kT [102, 40], .slice A1 0 C1) : Nv), (nestN kI, .slice A8 1 C8), (kT [41], .slice A6 0 C6)] w9 (xf w9) (fun p hp => by
    simp only [List.mem_cons, List.not_mem_nil, or_false] at hp
    rcases hp with rfl | rfl | rfl
    · exact nil_gs (by assumption)
    · exact HG8.out.dxB b9
    · exact nil_gs (by assumption))
  have hb10 := (Below.refl w9.heap.size w9).alloc (Nat.le_refl _) (.cells #[.int .i64 1, .string ⟨#[102, 40]⟩, .slice A1 0 C1, .int .i64 5, .string ⟨#[]⟩, .slice A8 1 C8, .int .i64 1, .string ⟨#[41]⟩, .slice A6 0 C6] 29)
  have HR10 := Lib.hid (show Calls Try.prog 16 #[.slice (some ⟨w9.heap.size, 0, none⟩) 3 3] (w9.alloc (.cells #[.int .i64 1, .string ⟨#[102, 40]⟩, .slice A1 0 C1, .int .i64 5, .string ⟨#[]⟩, .slice A8 1 C8, .int .i64 1, .string ⟨#[41]⟩, .slice A6 0 C6] 29)) (DkPost 0 3 kD.c _) from dk_of rfl (row_any (X := XF) _ 3 3 _ _ (xf _) hg9 (by omega) (by unfold maxLen; omega)))
  have HB10 := Lib.hid (HB8.out.trans ((b9.trans (hb10.mono b9.size)).mono HB8.out.size))
  clear hg9 hb10 b9
  go_wp2_with fail
  refine HR10.out.mono ?_
  rintro e w11 ⟨⟨A9, C9, rfl, hg11⟩, b11⟩
  have HG11 := Lib.hid hg11
  have hb12 := (Below.refl w11.heap.size w11).alloc (Nat.le_refl _) (.cells #[.int .i64 0, .string ⟨#[]⟩, .slice A9 3 C9] 29)
  have hx12 := heap_alloc_new w11 (.cells #[.int .i64 0, .string ⟨#[]⟩, .slice A9 3 C9] 29)
  obtain ⟨q0, q1, q2⟩ := cl3 hx12
  have HB12 := Lib.hid (HB10.out.trans ((b11.trans (hb12.mono b11.size)).mono HB10.out.size))
  have HX12 := Lib.hid hx12
  have HG12 := Lib.hid (hg11.dxB hb12)
  have HF12 := Lib.hid (flat_any kD (.slice A9 3 C9) (w11.alloc (.cells #[.int .i64 0, .string ⟨#[]⟩, .slice A9 3 C9] 29)) kD_size HG12.out.toDb kD_ok kD_len)
  clear hg11 b11 hb12 hx12 HR10
  go_wp2_with fail
  refine HF12.out.mono ?_
  rintro e w13 ⟨rfl, b13⟩
  rw [kD_flat.1, kD_flat.2.1]
  have HB13 := Lib.hid (HB12.out.trans (b13.mono HB12.out.size))
  have hx13 := (b13.block w11.heap.size (lt_of HX12.out)).trans HX12.out
  have HX9 := Lib.hid hx13
  have hg9 : w11.heap.size < w13.heap.size := lt_of hx13
  have HG9 := Lib.hid (HG12.out.dxB b13)
  clear b13 hx13 q0 q1 q2 HF12 HX12 HG12 HG11
  go_wp2
  refine region_rel (fun W W' => Below W.heap.size W W') [Cd.is (Value.agg #[.int .i64 0, .string ⟨#[]⟩, .slice A9 3 C9]), ⟨fun v W => ∃ (A : Option Addr) (C : Nat), C ≤ 9223372036854775807 ∧ v = Value.agg #[.int .i64 4, .string ⟨#[]⟩, .slice A 0 C], fun _ _ _ _ h => h⟩, ⟨fun v W => ∃ (b : Nat), v = Value.slice (some ⟨b, 0, none⟩) 2 2 ∧ Gs W (Dx XF W) (.slice (some ⟨b, 0, none⟩) 2 2) (ofL [kD, (⟨4, emp, .nil⟩ : Nd)]), fun v W W' hU h => by obtain ⟨b, e, hg⟩ := h; exact ⟨b, e, hg.dxB hU⟩⟩, ⟨fun v W => ∃ (A : Option Addr) (C : Nat), v = Value.agg #[.int .i64 0, .string ⟨#[]⟩, .slice A 2 C] ∧ Gs W (Dx XF W) (.slice A 2 C) (ofL [kD, (⟨4, emp, .nil⟩ : Nd)]), fun v W W' hU h => by obtain ⟨A, C, e, hg⟩ := h; exact ⟨A, C, e, hg.dxB hU⟩⟩, Cd.is (Value.tuple #[.string ⟨#[]⟩, .bool false]), Cd.is (Value.tuple #[.string ⟨#[]⟩, .bool false]), Cd.is (Value.string ⟨#[]⟩), Cd.is (Value.bool false), Cd.is (Value.string ⟨#[]⟩), Cd.is (Value.bool false)] (by kernel_rfl) (by decide) (by kernel_rfl) (Below.refl _ _) (fun _ _ _ h k => h.trans (k.mono h.size)) ?steps ?behind
  case steps =>
    intro xv W hW a ha
    replace hW : Below w13.heap.size w13 W := ⟨hW.os, hW.tape, hW.output, hW.size, hW.block⟩
    simp only [fillA] at ha
    simp only [List.setIfInBounds_toArray, List.set_cons_succ, List.set_cons_zero, Nat.zero_add, Nat.reduceAdd] at ha
    subst ha
    refine ⟨fun hd K hK => ?s0, fun hd K hK => ?s1, fun hd K hK => ?s2, fun hd K hK => ?s3, fun hd K hK => ?s4, fun hd K hK => ?s5, fun hd K hK => ?s6, fun hd K hK => ?s7, fun hd K hK => ?s8, fun hd K hK => ?s9, trivial⟩
    case s0 =>
      clear hd
      simp only [Act.put, List.setIfInBounds_toArray, List.set_cons_succ, List.set_cons_zero] at hK
      refine (if_pos (by rfl)).mpr ?_
      obtain ⟨hq0, hq1, hq2⟩ := cl3 ((hW.block w11.heap.size hg9).trans HX9.out)
      go_simp
      exact hK.out _ _ (Below.refl _ _) rfl
    case s1 =>
      clear hd
      simp only [Act.put, List.setIfInBounds_toArray, List.set_cons_succ, List.set_cons_zero] at hK
      refine (if_pos (by rfl)).mpr ?_
      go_simp
      go_at_call 21
      refine (hard_leaf W).mono ?_
      rintro e w' ⟨⟨A, C, hC, rfl⟩, hb⟩
      exact hK.out _ _ hb ⟨A, C, hC, rfl⟩
    case s2 =>
      have hx0 : xv 0 = Value.agg #[.int .i64 0, .string ⟨#[]⟩, .slice A9 3 C9] := hd 0 (by kernel_rfl)
      have hx1 : ∃ (A : Option Addr) (C : Nat), C ≤ 9223372036854775807 ∧ xv 1 = Value.agg #[.int .i64 4, .string ⟨#[]⟩, .slice A 0 C] := hd 1 (by kernel_rfl)
      clear hd
      simp only [Act.put, List.setIfInBounds_toArray, List.set_cons_succ, List.set_cons_zero] at hK
      rw [hx0] at hK ⊢
      refine (if_pos (by rfl)).mpr ?_
      obtain ⟨A, C, hC, e1⟩ := hx1
      rw [e1] at hK ⊢
      have hgs := gs_new (X := XF) [((kD, .slice A9 3 C9) : Nv), (((⟨4, emp, .nil⟩ : Nd), .slice A 0 C) : Nv)] W (xf W) (fun p hp => by
        simp only [List.mem_cons, List.not_mem_nil, or_false] at hp
        rcases hp with rfl | rfl
        · exact HG9.out.dxB hW
        · exact nil_gs hC)
      have hbz := (Below.refl W.heap.size W).alloc (Nat.le_refl _) (.cells #[.int .i64 0, .string ⟨#[]⟩, .slice A9 3 C9, .int .i64 4, .string ⟨#[]⟩, .slice A 0 C] 29)
      go_simp
      exact hK.out _ _ hbz ⟨_, rfl, hgs⟩
    case s3 =>
      have hx2 : ∃ (b : Nat), xv 2 = Value.slice (some ⟨b, 0, none⟩) 2 2 ∧ Gs W (Dx XF W) (.slice (some ⟨b, 0, none⟩) 2 2) (ofL [kD, (⟨4, emp, .nil⟩ : Nd)]) := hd 2 (by kernel_rfl)
      clear hd
      simp only [Act.put, List.setIfInBounds_toArray, List.set_cons_succ, List.set_cons_zero] at hK
      refine (if_pos (by rfl)).mpr ?_
      obtain ⟨b, e2, hgs⟩ := hx2
      rw [e2] at hK ⊢
      go_simp
      go_at_call 16
      refine (show Calls Try.prog 16 #[.slice (some ⟨b, 0, none⟩) 2 2] W (DkPost 0 2 (ofL [kD, (⟨4, emp, .nil⟩ : Nd)]) W) from dk_of rfl (row_any (X := XF) _ 2 2 _ W (xf W) hgs (by omega) (by unfold maxLen; omega))).mono ?_
      rintro e w' ⟨⟨A, C, rfl, hg⟩, hb⟩
      exact hK.out _ _ hb ⟨A, C, rfl, hg⟩
    case s4 =>
      have hx3 : ∃ (A : Option Addr) (C : Nat), xv 3 = Value.agg #[.int .i64 0, .string ⟨#[]⟩, .slice A 2 C] ∧ Gs W (Dx XF W) (.slice A 2 C) (ofL [kD, (⟨4, emp, .nil⟩ : Nd)]) := hd 3 (by kernel_rfl)
      clear hd
      simp only [Act.put, List.setIfInBounds_toArray, List.set_cons_succ, List.set_cons_zero] at hK
      refine (if_pos (by rfl)).mpr ?_
      obtain ⟨A, C, e3, hgs⟩ := hx3
      rw [e3] at hK ⊢
      go_simp
      go_at_call 12
      refine (flat_any (⟨0, emp, ofL [kD, (⟨4, emp, .nil⟩ : Nd)]⟩ : Nd) (.slice A 2 C) W kD2_size hgs.toDb kD2_ok kD2_len).mono ?_
      rintro e w' ⟨rfl, hb⟩
      exact hK.out _ _ hb (by rw [kD2_flat.1, kD2_flat.2]; rfl)
    case s5 =>
      have hx4 : xv 4 = Value.tuple #[.string ⟨#[]⟩, .bool false] := hd 4 (by kernel_rfl)
      clear hd
      simp only [Act.put, List.setIfInBounds_toArray, List.set_cons_succ, List.set_cons_zero] at hK
      rw [hx4] at hK ⊢
      refine (if_pos (by rfl)).mpr ?_
      go_simp
      exact hK.out _ _ (Below.refl _ _) rfl
    case s6 =>
      have hx5 : xv 5 = Value.tuple #[.string ⟨#[]⟩, .bool false] := hd 5 (by kernel_rfl)
      clear hd
      simp only [Act.put, List.setIfInBounds_toArray, List.set_cons_succ, List.set_cons_zero] at hK
      rw [hx5] at hK ⊢
      refine (if_pos (by rfl)).mpr ?_
      go_simp
      exact hK.out _ _ (Below.refl _ _) rfl
    case s7 =>
      have hx5 : xv 5 = Value.tuple #[.string ⟨#[]⟩, .bool false] := hd 5 (by kernel_rfl)
      clear hd
      simp only [Act.put, List.setIfInBounds_toArray, List.set_cons_succ, List.set_cons_zero] at hK
      rw [hx5] at hK ⊢
      refine (if_pos (by rfl)).mpr ?_
      go_simp
      exact hK.out _ _ (Below.refl _ _) rfl
    case s8 =>
      have hx6 : xv 6 = Value.string ⟨#[]⟩ := hd 6 (by kernel_rfl)
      clear hd
      simp only [Act.put, List.setIfInBounds_toArray, List.set_cons_succ, List.set_cons_zero] at hK
      rw [hx6] at hK ⊢
      refine (if_pos (by rfl)).mpr ?_
      go_simp
      exact hK.out _ _ (Below.refl _ _) rfl
    case s9 =>
      have hx7 : xv 7 = Value.bool false := hd 7 (by kernel_rfl)
      clear hd
      simp only [Act.put, List.setIfInBounds_toArray, List.set_cons_succ, List.set_cons_zero] at hK
      rw [hx7] at hK ⊢
      refine (if_pos (by rfl)).mpr ?_
      go_simp
      exact hK.out _ _ (Below.refl _ _) rfl
  case behind =>
    intro xv W hW hx a ha
    replace hW : Below w13.heap.size w13 W := ⟨hW.os, hW.tape, hW.output, hW.size, hW.block⟩
    simp only [fillA] at ha
    simp only [List.setIfInBounds_toArray, List.set_cons_succ, List.set_cons_zero, Nat.zero_add, Nat.reduceAdd] at ha
    subst ha
    have h9 : xv 9 = Value.bool false := hx 9 (by decide)
    rw [h9]
    obtain ⟨q0, q1, q2⟩ := cl3 ((hW.block w11.heap.size hg9).trans HX9.out)
    have HPL := Lib.hid (plain_any kD (.slice A9 3 C9) W kD_size (HG9.out.dxB hW).toDb kD_ok)
    have HBW := Lib.hid (HB13.out.trans (hW.mono HB13.out.size))
    clear hx h9 hW
    go_wp2_with fail
    refine HPL.out.mono ?_
    rintro e w15 ⟨a15, c15, rfl, _, b15⟩
    have HB15 := Lib.hid (HBW.out.trans (b15.mono HBW.out.size))
    clear b15
    rw [kD_flat.2.2]
    go_wp2
    go_ret
    exact ⟨rfl, HB15.out⟩
end Go.Proofs.Ytllpdccpenghgaa.Doc
