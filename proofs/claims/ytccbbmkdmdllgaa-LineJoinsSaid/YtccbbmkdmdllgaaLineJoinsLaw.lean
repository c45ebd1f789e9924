/-
  Layer 2 (line): the law on parts joined: the walk.
-/
import Derived.Test.YtccbbmkdmdllgaaLineSame
import Derived.Test.YtccbbmkdmdllgaaMemRegion
namespace Go.Proofs.Ytccbbmkdmdllgaa.Line
open Go.ChangeShapes Go.WideShapes Go.ChangeAt Go.RowKit Mem
set_option linter.unusedVariables false

theorem strOfNums_append (a b : List Int) : strOfNums (a ++ b) = strOfNums a ++ strOfNums b := by
  apply ByteArray.ext
  simp [strOfNums]

theorem strOfNums_size (a : List Int) : (strOfNums a).size = a.length := by
  show (strOfNums a).data.size = _
  simp [strOfNums]

theorem lvj_conv {w : World} {base : Nat} {v : Value} {x : List Int} (h : LV w base v x) : ∃ A c, v = .slice A x.length c ∧ RB w w.heap.size A x ∧ x.length ≤ c ∧ c ≤ maxLen := by
  obtain ⟨A, c, e, h1, h2, r⟩ := h.lr
  exact ⟨A, c, e, r, h1, h2⟩
theorem belj_step {w1 W w3 : World} (hb3 : Below W.heap.size W w3) (h : Below w1.heap.size w1 W) : Below w1.heap.size w1 w3 := h.trans (hb3.mono h.size)

/-- Parts that lie in a row of their own. -/
theorem rv_lit (W : World) (vs : List Value) : RV (W.alloc (.cells vs.toArray 22)) (W.alloc (.cells vs.toArray 22)).heap.size (some ⟨W.heap.size, 0, none⟩) vs := by
  refine .inr ⟨_, _, rfl, by simp, fun i hi => ?_⟩
  rw [World.cell?_alloc_at _ _ _ _ rfl]
  simp [List.getD, hi]

theorem join_parts (W : World) (vs : List Value) (L : List (List Int)) (g n : Nat) (hg : g = W.heap.size) (h : All2 (LR W W.heap.size) vs L) (hn : L.length = n) (hs : n ≤ 1000000000) (hf : L.flatten.length ≤ 1000000) :
    Calls Try.prog 17 #[.slice (some ⟨g, 0, none⟩) n n] (W.alloc (.cells vs.toArray 22)) fun e w' => Below W.heap.size W w' ∧ ∃ v, e = .returned v ∧ LV w' W.heap.size v L.flatten := by
  subst hg
  have hb : Below W.heap.size W (W.alloc (.cells vs.toArray 22)) := (Below.refl _ _).alloc (Nat.le_refl _) _
  refine (join_any (some ⟨W.heap.size, 0, none⟩) n n vs L _ _ (rv_lit W vs) (h.mono fun _ _ hh => (LR.below hh hb (Nat.le_refl _)).more hb.size) (Nat.le_refl _) hn hs hf).mono ?_
  rintro e w' ⟨hb', v, he, hv⟩
  exact ⟨hb.trans (hb'.mono hb.size), v, he, hv.base hb.size⟩

theorem two_parts {W : World} {v1 v2 : Value} {x1 x2 : List Int} (h1 : LR W W.heap.size v1 x1) (h2 : LR W W.heap.size v2 x2) : All2 (LR W W.heap.size) [v1, v2] [x1, x2] := (All2.one h1).snoc h2
theorem three_parts {W : World} {v1 v2 v3 : Value} {x1 x2 x3 : List Int} (h1 : LR W W.heap.size v1 x1) (h2 : LR W W.heap.size v2 x2) (h3 : LR W W.heap.size v3 x3) : All2 (LR W W.heap.size) [v1, v2, v3] [x1, x2, x3] := ((All2.one h1).snoc h2).snoc h3

theorem join2 (W : World) (v1 v2 : Value) (x1 x2 : List Int) (g : Nat) (hg : g = W.heap.size) (h1 : LR W W.heap.size v1 x1) (h2 : LR W W.heap.size v2 x2) (hf : x1.length + x2.length ≤ 1000000) :
    Calls Try.prog 17 #[.slice (some ⟨g, 0, none⟩) 2 2] (W.alloc (.cells #[v1, v2] 22)) fun e w' => Below W.heap.size W w' ∧ ∃ v, e = .returned v ∧ LV w' W.heap.size v (x1 ++ x2) := by
  have := join_parts W [v1, v2] [x1, x2] g 2 hg (two_parts h1 h2) rfl (by omega) (by simp; omega)
  simpa using this
theorem join3 (W : World) (v1 v2 v3 : Value) (x1 x2 x3 : List Int) (g : Nat) (hg : g = W.heap.size) (h1 : LR W W.heap.size v1 x1) (h2 : LR W W.heap.size v2 x2) (h3 : LR W W.heap.size v3 x3) (hf : x1.length + x2.length + x3.length ≤ 1000000) :
    Calls Try.prog 17 #[.slice (some ⟨g, 0, none⟩) 3 3] (W.alloc (.cells #[v1, v2, v3] 22)) fun e w' => Below W.heap.size W w' ∧ ∃ v, e = .returned v ∧ LV w' W.heap.size v (x1 ++ x2 ++ x3) := by
  have := join_parts W [v1, v2, v3] [x1, x2, x3] g 3 hg (three_parts h1 h2 h3) rfl (by omega) (by simp; omega)
  simpa using this
theorem join0 (W : World) : Calls Try.prog 17 #[.slice none 0 0] W fun e w' => Below W.heap.size W w' ∧ ∃ A c, e = .returned (.slice A 0 c) := by
  refine (join_any none 0 0 [] [] W W.heap.size (.inl rfl) All2.nil (Nat.le_refl _) rfl (by omega) (by simp)).mono ?_
  rintro e w' ⟨hb, v, rfl, hv⟩
  obtain ⟨A, c, rfl, _, _, _⟩ := hv.lr
  exact ⟨hb, A, c, rfl⟩

/-- append of a row of slices onto a row of slices of the call's own. -/
theorem run_app_lines {w : World} {base base2 : Nat} {v : Value} {A : Option Addr} {m c : Nat} {L1 L2 : List (List Int)} (h1 : OwnLs w base v L1) (h2 : OwnLs w base2 (.slice A m c) L2) (hbase : base ≤ w.heap.size) (hs : L1.length + L2.length ≤ 1000000) :
    ∃ v' w', (∀ ty, (Builtin.append_ #[24, 24] ty #[v, .slice A m c]).run Try.prog w = .ok v' w') ∧ OwnLs w' (min base base2) v' (L1 ++ L2) ∧ Below base w w' := by
  obtain ⟨i0, hi0, hz0, hz1, hz2⟩ := info_parts slice_info
  obtain ⟨vs1, hr1, hl1⟩ := h1
  obtain ⟨vs2, hr2, hl2⟩ := h2
  have hmin1 : min base base2 ≤ base := Nat.min_le_left _ _
  have hmin2 : min base base2 ≤ base2 := Nat.min_le_right _ _
  rcases hr2.2 with ⟨hv, h0⟩ | ⟨g, cap, cur, hv, hg0, hg, q1, q2, q3, q4⟩
  · injection hv with e1 e2 e3
    subst e1; subst e2; subst e3
    have hL2 : L2 = [] := List.eq_nil_of_length_eq_zero h0
    subst hL2
    refine ⟨v, w, fun ty => ?_, ⟨vs1, own_base (by simpa using hr1) hmin1, by simpa using hl1.mono fun _ _ hh => hh.base hmin1⟩, Below.refl _ _⟩
    rcases hr1.2 with ⟨rfl, _⟩ | ⟨g, cap, cur, rfl, _, _, hnc, _⟩
    · simp [Builtin.append_, run_underlying Try.underlying24, sizeOf, typeInfo, hi0, Builtin.lenOf, Builtin.firstCells]
    · simp [Builtin.append_, run_underlying Try.underlying24, sizeOf, typeInfo, hi0, Builtin.lenOf, Builtin.firstCells, hnc, storeCells]
  · injection hv with e1 e2 e3
    subst e1; subst e2; subst e3
    have hone : ∀ u ∈ vs2, u.oneCell' = true := fun u hu => by
      obtain ⟨y, hy⟩ := hl2.memR hu
      exact own_cell hy.1
    have hcells := hr2.cells (g := g) rfl
    have key : ∀ ty, ∃ v' w', (Builtin.append_ #[24, 24] ty #[v, .slice (some ⟨g, 0, none⟩) L2.length c]).run Try.prog w = .ok v' w' ∧ w'.ownsRow base 22 1 v' (L1.length + L2.length) (vs1 ++ vs2) ∧ w.grownBy w' v.ownBlock := fun ty => by
      obtain ⟨v', w', hr, r1, r2, _, _⟩ := run_append_own_at (P := Try.prog) w base 24 ty 22 i0 (.slice none 0 0) 1 24 Try.underlying24 hi0 hz0 hz1 hz2 rfl (by decide) v L1.length vs1 hr1 ⟨g, 0, none⟩ L2.length c vs2 hr2.1 hcells hone (by unfold maxLen; omega) (by omega) hbase
      exact ⟨v', w', hr, r1, r2⟩
    have same : ∀ ty ty', (Builtin.append_ #[24, 24] ty #[v, .slice (some ⟨g, 0, none⟩) L2.length c]).run Try.prog w = (Builtin.append_ #[24, 24] ty' #[v, .slice (some ⟨g, 0, none⟩) L2.length c]).run Try.prog w := fun ty ty' => rfl
    obtain ⟨v', w', hr, r1, r2⟩ := key 0
    refine ⟨v', w', fun ty => (same ty 0).trans hr, ⟨vs1 ++ vs2, own_base (by simpa using r1) hmin1, ?_⟩, (Below.refl _ _).grown r2 hbase (fun k hk => (hr1.lt k hk).1)⟩
    exact (hl1.mono fun _ _ hh => (LV.own hh hr1 r2).base hmin1).append (hl2.mono fun _ _ hh => (LV.own hh hr1 r2).base hmin2)

theorem wp_append_lines {o : Oper} {a : Act} {w w' : World} {K : Act → World → Prop} {Q : Exit → Act → World → Prop} (s x : Operand) (ho : o.op = .call { callee := .builtin .append, args := #[s, x], argTypes := #[24, 24] }) (v y v' : Value) (hs : a.eval s = v) (hx : a.eval x = y)
    (hrun : ∀ ty, (Builtin.append_ #[24, 24] ty #[v, y]).run Try.prog w = .ok v' w') (hK : K (a.put o.dst v') w') : Oper.wp Try.prog o a w K Q := by
  unfold Oper.wp execOp
  simp only [ho, resolve, invoke, builtin, Sem.run_bind, Sem.run_pure, Result.andThen_ok, List.map_toArray, List.map_cons, List.map_nil, hs, hx, hrun]
  exact hK

theorem own_empty {w : World} {base : Nat} (hb : base ≤ w.heap.size) (g : Nat) (hg : g = w.heap.size) : (w.alloc (.cells #[] 5)).ownsRow base 5 1 (.slice (some ⟨g, 0, none⟩) 0 0) 0 [] :=
  hg ▸ ⟨rfl, .inr ⟨w.heap.size, 0, #[], rfl, hb, heap_alloc_new w _, Nat.le_refl _, by unfold maxLen; omega, rfl, rfl⟩⟩

set_option maxHeartbeats 16000000 in
set_option maxRecDepth 100000 in
theorem lineJoins_walk (A : Option Addr) (n cap : Nat) (zs : List Int) (B : Option Addr) (n2 cap2 : Nat) (zs2 : List Int) (C : Option Addr) (n3 cap3 : Nat) (zs3 : List Int) (w : World) (hrow : Row .u8 w A n cap zs) (hrow2 : Row .u8 w B n2 cap2 zs2) (hrow3 : Row .u8 w C n3 cap3 zs3) :
    Calls Try.prog 6 #[.slice A n cap, .slice B n2 cap2, .slice C n3 cap3] w fun e w' => e = .returned (.bool true) ∧ Below w.heap.size w w' := by
  obtain ⟨xa0, ha1, ha2, ha3, ha⟩ := row_rb hrow
  obtain ⟨xb0, hb1, hb2, hb3, hb⟩ := row_rb hrow2
  obtain ⟨xc0, hc1, hc2, hc3, hc⟩ := row_rb hrow3
  clear hrow hrow2 hrow3
  have FA := Lib.hid (few_any A n cap w ha2 ha3)
  have FB := Lib.hid (few_any B n2 cap2 w hb2 hb3)
  have FC := Lib.hid (few_any C n3 cap3 w hc2 hc3)
  have RA := ha.take 20000
  have RBB := hb.take 20000
  have RC := hc.take 20000
  have la : (xa0.take 20000).length = min n 20000 := by rw [List.length_take, ha1, Nat.min_comm]
  have lb : (xb0.take 20000).length = min n2 20000 := by rw [List.length_take, hb1, Nat.min_comm]
  have lc : (xc0.take 20000).length = min n3 20000 := by rw [List.length_take, hc1, Nat.min_comm]
  have ca : min n 20000 ≤ cap := by omega
  have cb : min n2 20000 ≤ cap2 := by omega
  have cc : min n3 20000 ≤ cap3 := by omega
  have sa : min n 20000 ≤ 20000 := by omega
  have sb : min n2 20000 ≤ 20000 := by omega
  have sc : min n3 20000 ≤ 20000 := by omega
  generalize xa0.take 20000 = xa at *
  generalize xb0.take 20000 = xb at *
  generalize xc0.take 20000 = xc at *
  generalize min n 20000 = ma at *
  generalize min n2 20000 = mb at *
  generalize min n3 20000 = mc at *
  have LA : Hid (LR w w.heap.size (.slice A ma cap) xa) := ⟨A, cap, by rw [la], by omega, ha3, RA⟩
  have LB : Hid (LR w w.heap.size (.slice B mb cap2) xb) := ⟨B, cap2, by rw [lb], by omega, hb3, RBB⟩
  have LC : Hid (LR w w.heap.size (.slice C mc cap3) xc) := ⟨C, cap3, by rw [lc], by omega, hc3, RC⟩
  have HRA := Lib.hid RA; have HRB := Lib.hid RBB; have HRC := Lib.hid RC
  have HLA := Lib.hid la; have HLB := Lib.hid lb; have HLC := Lib.hid lc
  have HC3 := Lib.hid hb3
  have J3 := Lib.hid (join3 w (.slice A ma cap) (.slice B mb cap2) (.slice C mc cap3) xa xb xc _ rfl LA.out LB.out LC.out (by omega))
  unfold maxLen at ha3 hb3 hc3
  clear ha1 hb1 hc1 ha2 hb2 hc2 ha hb hc RA RBB RC la lb lc
  go_enter Try.func6, Try.ntmps6
  go_wp2_with fail
  refine FA.out.mono ?_
  rintro e w' ⟨rfl, rfl⟩
  go_wp2_with fail
  refine FB.out.mono ?_
  rintro e w' ⟨rfl, rfl⟩
  go_wp2_with fail
  refine FC.out.mono ?_
  rintro e w' ⟨rfl, rfl⟩
  go_wp2_with fail
  refine J3.out.mono ?_
  rintro e w1 ⟨hw1, vall, rfl, hall⟩
  obtain ⟨aall, call, rfl, rall, _, _⟩ := lvj_conv hall
  obtain ⟨nall, hnall⟩ : ∃ nall, (xa ++ xb ++ xc).length = nall := ⟨_, rfl⟩
  rw [hnall] at hall ⊢
  have RALL := Lib.hid rall
  have HNALL := Lib.hid hnall
  have HW1 := Lib.hid hw1
  clear hall rall hnall J3 FA FB FC hw1
  have HE := Lib.hid (own_empty (w := w1) (base := w1.heap.size) (Nat.le_refl _) w1.heap.size rfl)
  have hWE : Below w1.heap.size w1 (w1.alloc (.cells #[] 5)) := (Below.refl _ _).alloc (Nat.le_refl _) _
  have HRA1 := Lib.hid (HRA.out.below (HW1.out.trans (hWE.mono HW1.out.size)) (Nat.le_refl _))
  have HWE := Lib.hid hWE
  obtain ⟨X1, hX1⟩ : ∃ X1, xa ++ [10] = X1 := ⟨_, rfl⟩
  have HX1L : Hid (X1.length = ma + 1) := by show _ = _; rw [← hX1, List.length_append, HLA.out]; rfl
  have HX1B : Hid (Byt X1) := by show Byt X1; rw [← hX1]; exact HRA.out.byt.append (fun y hy => by simp at hy; omega)
  have HX1 := Lib.hid hX1
  clear hWE hX1
  go_wp2_with (at_builtin; first | (refine app_rb _ rfl _ _ rfl w1.heap.size _ 0 [] rfl HE.out w.heap.size A ma cap xa rfl HRA1.out HLA.out (by omega) (by simp) ?_; intro v2 w2 hown2 hg2 hat2; rw [List.nil_append, Nat.zero_add] at hown2; have HO2 := Lib.hid hown2; have HB2 := Lib.hid (HWE.out.grown hg2 (by simp) (fun b hb => (HE.out.lt b hb).1)); clear hown2 hg2 hat2; obtain ⟨a2, c2, rfl, _, _⟩ := own_slice HO2.out) | (refine app_byte w2 rfl _ _ rfl w1.heap.size _ xa 10 rfl (by rw [HLA.out]; exact HO2.out) _ rfl rfl (by rw [HLA.out]; omega) HB2.out.size ?_; intro v3 w3 hown3 hg3 hat3; rw [HX1.out, HX1L.out] at hown3; have HO3 := Lib.hid hown3; have HB3 := Lib.hid ((HB2.out.alloc HB2.out.size _).grown hg3 (by have := HB2.out.size; simp; omega) (fun b hb => (HO2.out.lt b hb).1)); clear hown3 hg3 hat3; obtain ⟨a3, c3, rfl, _, _⟩ := own_slice HO3.out))
  have LX : Hid (LV w3 w1.heap.size (.slice a3 (ma + 1) c3) X1) := ⟨by rw [HX1L.out]; exact HO3.out, HX1B.out⟩
  have HBW3 := Lib.hid (HW1.out.trans (HB3.out.mono HW1.out.size))
  have J2 := Lib.hid (join2 w3 (.slice a3 (ma + 1) c3) (.slice B mb cap2) X1 xb _ rfl (LV.lr LX.out) ((LB.out.below HBW3.out (Nat.le_refl _)).more HBW3.out.size) (by rw [HX1L.out, HLB.out]; omega))
  refine J2.out.mono ?_
  rintro e w4 ⟨hw4, v4, rfl, hv4⟩
  obtain ⟨a4, c4, rfl, r4, hc4, hc4x⟩ := lvj_conv hv4
  obtain ⟨n4, hn4⟩ : ∃ n4, (X1 ++ xb).length = n4 := ⟨_, rfl⟩
  have hn4s : n4 ≤ 50000 := by rw [← hn4, List.length_append, HX1L.out, HLB.out]; omega
  rw [hn4] at hc4 ⊢
  have S4 := Lib.hid (split_any a4 n4 c4 (X1 ++ xb) w4 _ r4 (Nat.le_refl _) hn4 hc4 hc4x (by omega))
  have HW4 := Lib.hid hw4
  clear hv4 r4 hw4 J2 hn4
  go_wp2_with fail
  refine S4.out.mono ?_
  rintro e w5 ⟨hw5, v5, rfl, hO5⟩
  obtain ⟨a5, c5, vs5, rfl, _, _, hvl5, hv5, hl5⟩ := hO5.reads
  have hlapp : lns (X1 ++ xb) = lns X1 ++ lns xb := by rw [← HX1.out]; exact lns_app xa xb
  obtain ⟨nl, hnl⟩ : ∃ nl, (lns (X1 ++ xb)).length = nl := ⟨_, rfl⟩
  rw [hnl] at hvl5 ⊢
  have HNL := Lib.hid hnl
  have HV5 := Lib.hid hv5
  have HL5 := Lib.hid hl5
  have HVL5 := Lib.hid hvl5
  have HLA5 := Lib.hid hlapp
  have h35 : Below w3.heap.size w3 w5 := HW4.out.trans (hw5.mono HW4.out.size)
  have h15 : Below w1.heap.size w1 w5 := HB3.out.trans (h35.mono HB3.out.size)
  have H05 := Lib.hid (HW1.out.trans (h15.mono HW1.out.size))
  have LX5 := Lib.hid (LV.below LX.out h35 (Nat.le_refl _))
  have LA5 := Lib.hid ((LA.out.below H05.out (Nat.le_refl _)).more H05.out.size)
  have LB5 := Lib.hid ((LB.out.below H05.out (Nat.le_refl _)).more H05.out.size)
  have LC5 := Lib.hid ((LC.out.below H05.out (Nat.le_refl _)).more H05.out.size)
  have hsz15 := h15.size
  have hsz35 := h35.size
  have RA5 := (HRA.out.below H05.out (Nat.le_refl _)).more H05.out.size
  have RB5 := (HRB.out.below H05.out (Nat.le_refl _)).more H05.out.size
  have RC5 := (HRC.out.below H05.out (Nat.le_refl _)).more H05.out.size
  have RAL5 := (RALL.out.below h15 (Nat.le_refl _)).more hsz15
  have cAll : ∀ W, Below w5.heap.size w5 W → (convert 22 9 (.slice aall nall call)).run Try.prog W = .ok (.string (strOfNums xa ++ strOfNums xb ++ strOfNums xc)) W := fun W hW => by
    have := conv_lr RAL5 HNALL.out (c := call) W (fun p hp => hW.cell hp)
    rw [strOfNums_append, strOfNums_append] at this; exact this
  have cA : ∀ W, Below w5.heap.size w5 W → (convert 22 9 (.slice A ma cap)).run Try.prog W = .ok (.string (strOfNums xa)) W := fun W hW => conv_lr RA5 HLA.out W (fun p hp => hW.cell hp)
  have cB : ∀ W, Below w5.heap.size w5 W → (convert 22 9 (.slice B mb cap2)).run Try.prog W = .ok (.string (strOfNums xb)) W := fun W hW => conv_lr RB5 HLB.out W (fun p hp => hW.cell hp)
  have cC : ∀ W, Below w5.heap.size w5 W → (convert 22 9 (.slice C mc cap3)).run Try.prog W = .ok (.string (strOfNums xc)) W := fun W hW => conv_lr RC5 HLC.out W (fun p hp => hW.cell hp)
  have jf1 : Hid ((xa ++ xb).length + xc.length ≤ 1000000) := by show _ ≤ _; rw [List.length_append, HLA.out, HLB.out, HLC.out]; omega
  have jf2 : Hid (xa.length + xb.length ≤ 1000000) := by show _ ≤ _; rw [HLA.out, HLB.out]; omega
  have hsabc : Hid (strOfNums (xa ++ xb ++ xc) = strOfNums xa ++ strOfNums xb ++ strOfNums xc) := by show _ = _; rw [strOfNums_append, strOfNums_append]
  have hz1 : ¬ 9223372036854775807 < (strOfNums xa).size + (strOfNums xb).size := by rw [strOfNums_size, strOfNums_size, HLA.out, HLB.out]; omega
  have hz2 : ¬ 9223372036854775807 < (strOfNums xa).size + (strOfNums xb).size + (strOfNums xc).size := by rw [strOfNums_size, strOfNums_size, strOfNums_size, HLA.out, HLB.out, HLC.out]; omega
  have hz3 : ¬ 9223372036854775807 < (strOfNums xa ++ strOfNums xb).size + (strOfNums xc).size := by rw [← strOfNums_append, strOfNums_size, strOfNums_size, List.length_append, HLA.out, HLB.out, HLC.out]; omega
  generalize hsa : strOfNums xa = SA at *
  generalize hsb : strOfNums xb = SB at *
  generalize hsc : strOfNums xc = SC at *
  clear hsa hsb hsc
  obtain ⟨AX5, cx5, eX5, rX5, hcx5, hcx5x⟩ := lvj_conv LX5.out
  have hx5 : w5.ownsRow w1.heap.size 5 1 (.slice a3 (ma + 1) c3) (ma + 1) (X1.map (Value.int .u8)) := by
    have := LX5.out.1
    rw [HX1L.out] at this; exact this
  have hx5c : ma + 1 ≤ c3 ∧ c3 ≤ maxLen := by
    obtain ⟨_, _, e, h, h'⟩ := own_slice hx5
    injection e with e1 e2 e3
    subst e3
    exact ⟨h, h'⟩
  have SX := Lib.hid (fun W (hW : Below w5.heap.size w5 W) => split_any a3 (ma + 1) c3 X1 W _ ((own_rb hx5 HX1B.out).below hW (Nat.le_refl _)) hW.size HX1L.out hx5c.1 hx5c.2 (by omega))
  have SB2 := Lib.hid (fun W (hW : Below w5.heap.size w5 W) => split_any B mb cap2 xb W _ (RB5.below hW (Nat.le_refl _)) hW.size HLB.out cb HC3.out (by omega))
  have h1c : (lns X1).length ≤ 50000 := by have := lns_len X1; rw [HX1L.out] at this; omega
  have h2c : (lns xb).length ≤ 50000 := by have := lns_len xb; rw [HLB.out] at this; omega
  have H1C := Lib.hid h1c
  have H2C := Lib.hid h2c
  have hnls : nl ≤ 100000 := by rw [← HNL.out, HLA5.out, List.length_append]; omega
  have hrefl : Below w5.heap.size w5 w5.drew := (Below.refl _ _).drew
  clear h1c h2c hlapp hnl hv5 hl5 hvl5 hw5 hO5 S4 RA5 RB5 RC5 RAL5 h15 h35 eX5 rX5 hcx5 hcx5x hc4 hc4x hx5 hx5c
  go_wp2_with fail
  refine wp_region_noPanic ?_
  refine wp_region_held_drew (S := fun W => Below w5.heap.size w5 W) (by kernel_rfl) hrefl (fun hHeld => ?_)
  refine step_at (i := 0) rfl (by kernel_rfl) (fun K hK => ?_)
  go_simp
  go_at_call 12
  refine (known_any _).mono ?_
  rintro e w6 ⟨rfl, hw6⟩
  have hk6 : Below w5.heap.size w5 w6 := belj_step hw6 hHeld
  have LA6 := Lib.hid ((LA5.out.below hk6 (Nat.le_refl _)).more hk6.size)
  have LB6 := Lib.hid ((LB5.out.below hk6 (Nat.le_refl _)).more hk6.size)
  clear hw6
  go_wp2_with fail
  refine hK.out _ _ ?_ (fun hHeld1 => ?_)
  · exact hk6
  clear hK K hHeld
  try simp only [Act.put]
  try simp only [List.setIfInBounds_toArray]
  try simp only [List.set_cons_succ]
  try simp only [List.set_cons_zero]
  refine take_at (i := 1) (v := ?v2) rfl (by kernel_rfl) (by kernel_rfl) (by kernel_rfl) (fun _ _ _ h => h) rfl (Or.inl ⟨by rfl, ?y2⟩) hHeld1 ?r2
  case y2 => (intro W hSw; (try dsimp only at hSw); go_simp; try with_reducible rfl)
  try dsimp only
  try simp only [List.setIfInBounds_toArray]
  try simp only [List.set_cons_succ]
  try simp only [List.set_cons_zero]
  refine take_at (i := 2) (v := ?v3) rfl (by kernel_rfl) (by kernel_rfl) (by kernel_rfl) (fun _ _ _ h => h) rfl (Or.inl ⟨by rfl, ?y3⟩) hHeld1 ?r3
  case y3 => (intro W hSw; (try dsimp only at hSw); go_simp; try with_reducible rfl)
  try dsimp only
  try simp only [List.setIfInBounds_toArray]
  try simp only [List.set_cons_succ]
  try simp only [List.set_cons_zero]
  refine take_at (i := 3) (v := ?v4) rfl (by kernel_rfl) (by kernel_rfl) (by kernel_rfl) (fun _ _ _ h => h) rfl (Or.inl ⟨by rfl, ?y4⟩) hHeld1 ?r4
  case y4 => (intro W hSw; (try dsimp only at hSw); go_simp; try with_reducible rfl)
  try dsimp only
  try simp only [List.setIfInBounds_toArray]
  try simp only [List.set_cons_succ]
  try simp only [List.set_cons_zero]
  refine take_at (i := 4) (v := ?v5) rfl (by kernel_rfl) (by kernel_rfl) (by kernel_rfl) (fun _ _ _ h => h) rfl (Or.inl ⟨by rfl, ?y5⟩) hHeld1 ?r5
  case y5 => (intro W hSw; (try dsimp only at hSw); go_simp; try with_reducible rfl)
  try dsimp only
  try simp only [List.setIfInBounds_toArray]
  try simp only [List.set_cons_succ]
  try simp only [List.set_cons_zero]
  refine take_at (i := 5) (v := ?v6) rfl (by kernel_rfl) (by kernel_rfl) (by kernel_rfl) (fun _ _ _ h => h) rfl (Or.inl ⟨by rfl, ?y6⟩) hHeld1 ?r6
  case y6 => (intro W hSw; (try dsimp only at hSw); go_simp; try with_reducible rfl)
  try dsimp only
  try simp only [List.setIfInBounds_toArray]
  try simp only [List.set_cons_succ]
  try simp only [List.set_cons_zero]
  refine take_at (i := 6) (v := ?v7) rfl (by kernel_rfl) (by kernel_rfl) (by kernel_rfl) (fun _ _ _ h => h) rfl (Or.inl ⟨by rfl, ?y7⟩) hHeld1 ?r7
  case y7 => (intro W hSw; (try dsimp only at hSw); go_simp; try with_reducible rfl)
  try dsimp only
  try simp only [List.setIfInBounds_toArray]
  try simp only [List.set_cons_succ]
  try simp only [List.set_cons_zero]
  refine take_at (i := 7) (v := ?v8) rfl (by kernel_rfl) (by kernel_rfl) (by kernel_rfl) (fun _ _ _ h => h) rfl (Or.inl ⟨by rfl, ?y8⟩) hHeld1 ?r8
  case y8 => (intro W hSw; (try dsimp only at hSw); go_simp; try with_reducible rfl)
  try dsimp only
  try simp only [List.setIfInBounds_toArray]
  try simp only [List.set_cons_succ]
  try simp only [List.set_cons_zero]
  refine take_at (i := 8) (v := ?v9) rfl (by kernel_rfl) (by kernel_rfl) (by kernel_rfl) (fun _ _ _ h => h) rfl (Or.inl ⟨by rfl, ?y9⟩) hHeld1 ?r9
  case y9 => (intro W hSw; (try dsimp only at hSw); go_simp; try with_reducible rfl)
  try dsimp only
  try simp only [List.setIfInBounds_toArray]
  try simp only [List.set_cons_succ]
  try simp only [List.set_cons_zero]
  refine take_at (i := 9) (v := ?v10) rfl (by kernel_rfl) (by kernel_rfl) (by kernel_rfl) (fun _ _ _ h => h) rfl (Or.inl ⟨by rfl, ?y10⟩) hHeld1 ?r10
  case y10 => (intro W hSw; (try dsimp only at hSw); go_simp; try with_reducible rfl)
  try dsimp only
  try simp only [List.setIfInBounds_toArray]
  try simp only [List.set_cons_succ]
  try simp only [List.set_cons_zero]
  refine take_at (i := 10) (v := ?v11) rfl (by kernel_rfl) (by kernel_rfl) (by kernel_rfl) (fun _ _ _ h => h) rfl (Or.inl ⟨by rfl, ?y11⟩) hHeld1 ?r11
  case y11 => (intro W hSw; (try dsimp only at hSw); go_simp; try with_reducible rfl)
  try dsimp only
  try simp only [List.setIfInBounds_toArray]
  try simp only [List.set_cons_succ]
  try simp only [List.set_cons_zero]
  refine take_at (i := 11) (v := ?v12) rfl (by kernel_rfl) (by kernel_rfl) (by kernel_rfl) (fun _ _ _ h => h) rfl (Or.inl ⟨by rfl, ?y12⟩) hHeld1 ?r12
  case y12 => (intro W hSw; (try dsimp only at hSw); go_simp; try with_reducible rfl)
  try dsimp only
  try simp only [List.setIfInBounds_toArray]
  try simp only [List.set_cons_succ]
  try simp only [List.set_cons_zero]
  refine take_at (i := 12) (v := ?v13) rfl (by kernel_rfl) (by kernel_rfl) (by kernel_rfl) (fun _ _ _ h => h) rfl (Or.inl ⟨by rfl, ?y13⟩) hHeld1 ?r13
  case y13 => (intro W hSw; (try dsimp only at hSw); go_simp; try with_reducible rfl)
  try dsimp only
  try simp only [List.setIfInBounds_toArray]
  try simp only [List.set_cons_succ]
  try simp only [List.set_cons_zero]
  refine take_at (i := 13) (v := ?v14) rfl (by kernel_rfl) (by kernel_rfl) (by kernel_rfl) (fun _ _ _ h => h) rfl (Or.inl ⟨by rfl, ?y14⟩) hHeld1 ?r14
  case y14 => (intro W hSw; (try dsimp only at hSw); go_simp; try with_reducible rfl)
  try dsimp only
  try simp only [List.setIfInBounds_toArray]
  try simp only [List.set_cons_succ]
  try simp only [List.set_cons_zero]
  refine take_at (i := 14) (v := ?v15) rfl (by kernel_rfl) (by kernel_rfl) (by kernel_rfl) (fun _ _ _ h => h) rfl (Or.inl ⟨by rfl, ?y15⟩) hHeld1 ?r15
  case y15 => (intro W hSw; (try dsimp only at hSw); go_simp; try with_reducible rfl)
  try dsimp only
  try simp only [List.setIfInBounds_toArray]
  try simp only [List.set_cons_succ]
  try simp only [List.set_cons_zero]
  refine take_at (i := 15) (v := ?v16) rfl (by kernel_rfl) (by kernel_rfl) (by kernel_rfl) (fun _ _ _ h => h) rfl (Or.inl ⟨by rfl, ?y16⟩) hHeld1 ?r16
  case y16 => (intro W hSw; (try dsimp only at hSw); go_simp; try with_reducible rfl)
  try dsimp only
  try simp only [List.setIfInBounds_toArray]
  try simp only [List.set_cons_succ]
  try simp only [List.set_cons_zero]
  refine take_at (i := 16) (v := ?v17) rfl (by kernel_rfl) (by kernel_rfl) (by kernel_rfl) (fun _ _ _ h => h) rfl (Or.inl ⟨by rfl, ?y17⟩) hHeld1 ?r17
  case y17 => (intro W hSw; (try dsimp only at hSw); go_simp; try with_reducible rfl)
  try dsimp only
  try simp only [List.setIfInBounds_toArray]
  try simp only [List.set_cons_succ]
  try simp only [List.set_cons_zero]
  refine take_at (i := 19) (v := ?v18) rfl (by kernel_rfl) (by kernel_rfl) (by kernel_rfl) (fun _ _ _ h => h) rfl (Or.inl ⟨by rfl, ?y18⟩) hHeld1 ?r18
  case y18 => (intro W hSw; (try dsimp only at hSw); go_simp; try with_reducible rfl)
  try dsimp only
  try simp only [List.setIfInBounds_toArray]
  try simp only [List.set_cons_succ]
  try simp only [List.set_cons_zero]
  refine take_at (i := 23) (v := ?v19) rfl (by kernel_rfl) (by kernel_rfl) (by kernel_rfl) (fun _ _ _ h => h) rfl (Or.inl ⟨by rfl, ?y19⟩) hHeld1 ?r19
  case y19 => (intro W hSw; (try dsimp only at hSw); go_simp; try with_reducible rfl)
  try dsimp only
  try simp only [List.setIfInBounds_toArray]
  try simp only [List.set_cons_succ]
  try simp only [List.set_cons_zero]
  refine take_at (i := 24) (v := ?v20) rfl (by kernel_rfl) (by kernel_rfl) (by kernel_rfl) (fun _ _ _ h => h) rfl (Or.inl ⟨by rfl, ?y20⟩) hHeld1 ?r20
  case y20 => (intro W hSw; (try dsimp only at hSw); go_simp; try with_reducible rfl)
  try dsimp only
  try simp only [List.setIfInBounds_toArray]
  try simp only [List.set_cons_succ]
  try simp only [List.set_cons_zero]
  refine step_at (i := 17) rfl (by kernel_rfl) (fun K hK => ?_)
  go_simp
  refine hK.out _ _ ?_ (fun hHeld21 => ?_)
  · exact hHeld1.alloc hHeld1.size _
  clear hK K hHeld1
  try simp only [Act.put]
  try simp only [List.setIfInBounds_toArray]
  try simp only [List.set_cons_succ]
  try simp only [List.set_cons_zero]
  refine step_at (i := 18) rfl (by kernel_rfl) (fun K hK => ?_)
  go_simp
  go_at_call 17
  refine (join2 w6 _ _ xa xb _ rfl LA6.out LB6.out jf2.out).mono ?_
  rintro e w7 ⟨hw7, v7, rfl, hv7⟩
  have hk7 : Below w5.heap.size w5 w7 := hk6.trans (hw7.mono hk6.size)
  obtain ⟨a7, c7, rfl, _, _, _⟩ := lvj_conv hv7
  obtain ⟨nab, hnab⟩ : ∃ nab, (xa ++ xb).length = nab := ⟨_, rfl⟩
  rw [hnab] at hv7 ⊢
  have LAB7 := Lib.hid (LV.lr hv7)
  have LC7 := Lib.hid ((LC5.out.below hk7 (Nat.le_refl _)).more hk7.size)
  clear hv7 hw7 hnab
  go_wp2_with fail
  refine hK.out _ _ ?_ (fun hHeld22 => ?_)
  · exact hk7
  clear hK K hHeld21
  try simp only [Act.put]
  try simp only [List.setIfInBounds_toArray]
  try simp only [List.set_cons_succ]
  try simp only [List.set_cons_zero]
  refine step_at (i := 20) rfl (by kernel_rfl) (fun K hK => ?_)
  go_simp
  refine hK.out _ _ ?_ (fun hHeld23 => ?_)
  · exact hHeld22.alloc hHeld22.size _
  clear hK K hHeld22
  try simp only [Act.put]
  try simp only [List.setIfInBounds_toArray]
  try simp only [List.set_cons_succ]
  try simp only [List.set_cons_zero]
  refine step_at (i := 21) rfl (by kernel_rfl) (fun K hK => ?_)
  go_simp
  go_at_call 17
  refine (join2 w7 _ _ (xa ++ xb) xc _ rfl LAB7.out LC7.out jf1.out).mono ?_
  rintro e w8 ⟨hw8, v8, rfl, hv8⟩
  have hk8 : Below w5.heap.size w5 w8 := hk7.trans (hw8.mono hk7.size)
  obtain ⟨a8, c8, rfl, r8, _, _⟩ := lvj_conv hv8
  rw [HNALL.out]
  have cv8 := conv_lr r8 HNALL.out (c := c8) w8 (fun _ _ => rfl)
  rw [hsabc.out] at cv8
  clear hv8 hw8 r8
  go_wp2_with fail
  refine hK.out _ _ ?_ (fun hHeld24 => ?_)
  · exact hk8
  clear hK K hHeld23
  try simp only [Act.put]
  try simp only [List.setIfInBounds_toArray]
  try simp only [List.set_cons_succ]
  try simp only [List.set_cons_zero]
  refine step_at (i := 22) rfl (by kernel_rfl) (fun K hK => ?_)
  go_simp
  refine hK.out _ _ ?_ (fun hHeld25 => ?_)
  · exact hHeld24
  clear hK K hHeld24
  try simp only [Act.put]
  try simp only [List.setIfInBounds_toArray]
  try simp only [List.set_cons_succ]
  try simp only [List.set_cons_zero]
  refine take_at (i := 25) (v := ?v26) rfl (by kernel_rfl) (by kernel_rfl) (by kernel_rfl) (fun _ _ _ h => h) rfl (Or.inl ⟨by rfl, ?y26⟩) hHeld25 ?r26
  case y26 => (intro W hSw; (try dsimp only at hSw); go_simp; try with_reducible rfl)
  try dsimp only
  try simp only [List.setIfInBounds_toArray]
  try simp only [List.set_cons_succ]
  try simp only [List.set_cons_zero]
  refine take_at (i := 26) (v := ?v27) rfl (by kernel_rfl) (by kernel_rfl) (by kernel_rfl) (fun _ _ _ h => h) rfl (Or.inl ⟨by rfl, ?y27⟩) hHeld25 ?r27
  case y27 => (intro W hSw; (try dsimp only at hSw); go_simp; try with_reducible rfl)
  try dsimp only
  try simp only [List.setIfInBounds_toArray]
  try simp only [List.set_cons_succ]
  try simp only [List.set_cons_zero]
  refine take_at (i := 27) (v := ?v28) rfl (by kernel_rfl) (by kernel_rfl) (by kernel_rfl) (fun _ _ _ h => h) rfl (Or.inl ⟨by rfl, ?y28⟩) hHeld25 ?r28
  case y28 => (intro W hSw; (try dsimp only at hSw); go_simp; try with_reducible rfl)
  try dsimp only
  try simp only [List.setIfInBounds_toArray]
  try simp only [List.set_cons_succ]
  try simp only [List.set_cons_zero]
  refine step_at (i := 28) rfl (by kernel_rfl) (fun K hK => ?_)
  go_simp
  go_at_call 17
  refine (join0 _).mono ?_
  rintro e w9 ⟨hw9, a9, c9, rfl⟩
  have hk9 : Below w5.heap.size w5 w9 := belj_step hw9 hHeld25
  clear hw9 cv8
  go_wp2_with fail
  refine hK.out _ _ ?_ (fun hHeld29 => ?_)
  · exact hk9
  clear hK K hHeld25
  try simp only [Act.put]
  try simp only [List.setIfInBounds_toArray]
  try simp only [List.set_cons_succ]
  try simp only [List.set_cons_zero]
  refine take_at (i := 29) (v := ?v30) rfl (by kernel_rfl) (by kernel_rfl) (by kernel_rfl) (fun _ _ _ h => h) rfl (Or.inl ⟨by rfl, ?y30⟩) hHeld29 ?r30
  case y30 => (intro W hSw; (try dsimp only at hSw); go_simp; try with_reducible rfl)
  try dsimp only
  try simp only [List.setIfInBounds_toArray]
  try simp only [List.set_cons_succ]
  try simp only [List.set_cons_zero]
  refine take_at (i := 30) (v := ?v31) rfl (by kernel_rfl) (by kernel_rfl) (by kernel_rfl) (fun _ _ _ h => h) rfl (Or.inl ⟨by rfl, ?y31⟩) hHeld29 ?r31
  case y31 => (intro W hSw; (try dsimp only at hSw); go_simp; try with_reducible rfl)
  try dsimp only
  try simp only [List.setIfInBounds_toArray]
  try simp only [List.set_cons_succ]
  try simp only [List.set_cons_zero]
  refine take_at (i := 31) (v := ?v32) rfl (by kernel_rfl) (by kernel_rfl) (by kernel_rfl) (fun _ _ _ h => h) rfl (Or.inl ⟨by rfl, ?y32⟩) hHeld29 ?r32
  case y32 => (intro W hSw; (try dsimp only at hSw); go_simp; try with_reducible rfl)
  try dsimp only
  try simp only [List.setIfInBounds_toArray]
  try simp only [List.set_cons_succ]
  try simp only [List.set_cons_zero]
  refine take_at (i := 32) (v := ?v33) rfl (by kernel_rfl) (by kernel_rfl) (by kernel_rfl) (fun _ _ _ h => h) rfl (Or.inl ⟨by rfl, ?y33⟩) hHeld29 ?r33
  case y33 => (intro W hSw; (try dsimp only at hSw); go_simp; try with_reducible rfl)
  try dsimp only
  try simp only [List.setIfInBounds_toArray]
  try simp only [List.set_cons_succ]
  try simp only [List.set_cons_zero]
  refine take_at (i := 33) (v := ?v34) rfl (by kernel_rfl) (by kernel_rfl) (by kernel_rfl) (fun _ _ _ h => h) rfl (Or.inl ⟨by rfl, ?y34⟩) hHeld29 ?r34
  case y34 => (intro W hSw; (try dsimp only at hSw); go_simp; try with_reducible rfl)
  try dsimp only
  try simp only [List.setIfInBounds_toArray]
  try simp only [List.set_cons_succ]
  try simp only [List.set_cons_zero]
  refine take_at (i := 34) (v := ?v35) rfl (by kernel_rfl) (by kernel_rfl) (by kernel_rfl) (fun _ _ _ h => h) rfl (Or.inl ⟨by rfl, ?y35⟩) hHeld29 ?r35
  case y35 => (intro W hSw; (try dsimp only at hSw); go_simp; try with_reducible rfl)
  try dsimp only
  try simp only [List.setIfInBounds_toArray]
  try simp only [List.set_cons_succ]
  try simp only [List.set_cons_zero]
  refine take_at (i := 36) (v := ?v36) rfl (by kernel_rfl) (by kernel_rfl) (by kernel_rfl) (fun _ _ _ h => h) rfl (Or.inl ⟨by rfl, ?y36⟩) hHeld29 ?r36
  case y36 => (intro W hSw; (try dsimp only at hSw); go_simp; try with_reducible rfl)
  try dsimp only
  try simp only [List.setIfInBounds_toArray]
  try simp only [List.set_cons_succ]
  try simp only [List.set_cons_zero]
  refine step_at (i := 35) rfl (by kernel_rfl) (fun K hK => ?_)
  go_simp
  go_at_call 9
  refine (SX.out _ hHeld29).mono ?_
  rintro e w10 ⟨hw10, v10, rfl, hO10⟩
  have hk10 : Below w5.heap.size w5 w10 := belj_step hw10 hHeld29
  have hs9 := hk9.size
  have hs910 := hw10.size
  obtain ⟨a10, c10, _, rfl, _, _, _, _, _⟩ := hO10.reads
  have HO10 := Lib.hid hO10
  clear hO10 hw10
  go_wp2_with fail
  refine hK.out _ _ ?_ (fun hHeld37 => ?_)
  · exact hk10
  clear hK K hHeld29
  try simp only [Act.put]
  try simp only [List.setIfInBounds_toArray]
  try simp only [List.set_cons_succ]
  try simp only [List.set_cons_zero]
  refine step_at (i := 37) rfl (by kernel_rfl) (fun K hK => ?_)
  go_simp
  go_at_call 9
  refine (SB2.out _ hHeld37).mono ?_
  rintro e w11 ⟨hw11, v11, rfl, hO11⟩
  have hk11 : Below w5.heap.size w5 w11 := belj_step hw11 hHeld37
  obtain ⟨a11, c11, _, rfl, _, _, _, _, _⟩ := hO11.reads
  have HO11 := Lib.hid hO11
  have HO10b := Lib.hid (OwnLs.below HO10.out hw11 (Nat.le_refl _))
  have hs1011 := hw11.size
  clear hO11 hw11
  go_wp2_with fail
  refine hK.out _ _ ?_ (fun hHeld38 => ?_)
  · exact hk11
  clear hK K hHeld37
  try simp only [Act.put]
  try simp only [List.setIfInBounds_toArray]
  try simp only [List.set_cons_succ]
  try simp only [List.set_cons_zero]
  refine step_at (i := 38) rfl (by kernel_rfl) (fun K hK => ?_)
  rw [if_pos (by rfl)]
  obtain ⟨v12, w12, hrun, hO12, hb12⟩ := run_app_lines HO10b.out HO11.out (Nat.le_trans hs910 hs1011) (by have := H1C.out; have := H2C.out; omega)
  have hk12 : Below w5.heap.size w5 w12 := hk11.trans (hb12.mono hs9)
  rw [← HLA5.out] at hO12
  obtain ⟨a12, c12, vs12, rfl, _, _, hvl12, hv12, hl12⟩ := hO12.reads
  rw [HNL.out] at hrun hvl12
  have SM := Lib.hid (same_any a5 a12 nl c5 c12 vs5 vs12 (lns (X1 ++ xb)) w12 w12.heap.size ((HV5.out.below hk12 (Nat.le_refl _)).more hk12.size) (HL5.out.mono fun _ _ hh => (LR.below hh hk12 (Nat.le_refl _)).more hk12.size) hv12 hl12 HNL.out (by omega))
  clear hO12 hb12 hv12 hl12 hvl12
  refine wp_append_lines (.tmp 66) (.tmp 68) rfl _ _ _ rfl rfl hrun ?_
  refine hK.out _ _ ?_ (fun hHeld39 => ?_)
  · exact hk12
  clear hK K hHeld38
  try simp only [Act.put]
  try simp only [List.setIfInBounds_toArray]
  try simp only [List.set_cons_succ]
  try simp only [List.set_cons_zero]
  refine step_at (i := 39) rfl (by kernel_rfl) (fun K hK => ?_)
  go_simp
  go_at_call 13
  refine SM.out.mono ?_
  rintro e w13 ⟨rfl, q13, rfl⟩
  go_wp2_with fail
  refine hK.out _ _ ?_ (fun hHeld40 => ?_)
  · exact below_drewN hHeld39 _
  clear hK K hHeld39
  try simp only [Act.put]
  try simp only [List.setIfInBounds_toArray]
  try simp only [List.set_cons_succ]
  try simp only [List.set_cons_zero]
  refine take_at (i := 40) (v := ?v41) rfl (by kernel_rfl) (by kernel_rfl) (by kernel_rfl) (fun _ _ _ h => h) rfl (Or.inl ⟨by rfl, ?y41⟩) hHeld40 ?r41
  case y41 => (intro W hSw; (try dsimp only at hSw); go_simp; try with_reducible rfl)
  try dsimp only
  try simp only [List.setIfInBounds_toArray]
  try simp only [List.set_cons_succ]
  try simp only [List.set_cons_zero]
  refine take_at (i := 41) (v := ?v42) rfl (by kernel_rfl) (by kernel_rfl) (by kernel_rfl) (fun _ _ _ h => h) rfl (Or.inl ⟨by rfl, ?y42⟩) hHeld40 ?r42
  case y42 => (intro W hSw; (try dsimp only at hSw); go_simp; try with_reducible rfl)
  try dsimp only
  try simp only [List.setIfInBounds_toArray]
  try simp only [List.set_cons_succ]
  try simp only [List.set_cons_zero]
  refine wpAnyH_done (by kernel_rfl) ?_ _
  refine NoPanic.normal ?_
  go_wp2
  go_ret
  exact ⟨rfl, H05.out.trans (hHeld40.mono H05.out.size)⟩
end Go.Proofs.Ytccbbmkdmdllgaa.Line
