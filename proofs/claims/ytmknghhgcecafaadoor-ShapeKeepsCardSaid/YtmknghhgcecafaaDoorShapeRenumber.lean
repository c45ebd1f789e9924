/-
  Layer 10 (shape): renumber: numbers given anew, in the order in which they are first needed.
-/
import Derived.Test.YtmknghhgcecafaaDoorJxG
namespace Go.Proofs.YtmknghhgcecafaaDoor.Shape
open Go.ChangeShapes Go.WideShapes Go.ChangeAt Go.RowKit Mem Tree
set_option linter.unusedVariables false

theorem inn_put {us : List Value} {ks : List (List Nat)} {i : Nat} {u : Value} {l l' : List Nat} (hl : us.length = ks.length) (hu : us[i]? = some u) (hk : l'.length = l.length) : (inn us ks).set i (rowT 3 1 u l.length (l'.map nv)) = inn us (ks.set i l') := by
  have h := inn_set us ks i u l' hl
  rw [hk] at h
  rw [h]
  congr 1
  obtain ⟨h1, h2⟩ := List.getElem?_eq_some_iff.1 hu
  rw [← h2, List.set_getElem_self]
theorem seenF_len : ∀ (i : Nat) (s : List Nd) (l : F), (seenF i s l).length ≤ s.length + l.size
  | 0, s, l => Nat.le_add_right _ _
  | i + 1, s, .nil => Nat.le_add_right _ _
  | i + 1, s, .cons k x y c r => by
    have h1 := seenF_len i (markL s (nodes (one k x y c))).2 r
    have h2 := seen_len (nodes (one k x y c)) s
    rw [nodes_len, one_size] at h2
    simp only [seenF, F.size]
    omega
theorem made_zero (n : Nat) : (madeCells #[Value.int .i64 0] n).toList = (List.replicate n (0 : Int)).map iv := by
  apply List.ext_getElem?
  intro j
  rw [List.getElem?_map, List.getElem?_replicate]
  by_cases hj : j < n
  · simp [madeCells, hj, Nat.mod_one]
  · simp [madeCells, hj]
/-- What has been given anew: i trees' rows. -/
def anew (i : Nat) (l : F) (Ms : List (List Nat)) : List (List Nat) := (marksF [] l).take i ++ Ms.drop i
theorem anew_at {i : Nat} {l : F} {Ms : List (List Nat)} {M : List Nat} (hi : i ≤ l.len) (hM : Ms[i]? = some M) : (anew i l Ms)[i]? = some M := by
  unfold anew
  have h : ((marksF [] l).take i).length = i := by rw [List.length_take, marksF_len]; omega
  rw [List.getElem?_append_right (by omega), h, Nat.sub_self, List.getElem?_drop, Nat.add_zero, hM]
theorem anew_step {i : Nat} {l : F} {Ms : List (List Nat)} {R M : List Nat} (hi : i < l.len) (hM : Ms[i]? = some M) (hR : (marksF [] l)[i]? = some R) : (anew i l Ms).set i R = anew (i + 1) l Ms := by
  unfold anew
  have h : ((marksF [] l).take i).length = i := by rw [List.length_take, marksF_len]; omega
  rw [List.set_append_right _ _ (by omega), h, Nat.sub_self, List.take_add_one, hR]
  have hd : Ms.drop i = M :: Ms.drop (i + 1) := by
    obtain ⟨h1, h2⟩ := List.getElem?_eq_some_iff.1 hM
    rw [← h2, List.getElem_cons_drop]
  rw [hd]
  simp
theorem anew_len {i : Nat} {l : F} {Ms : List (List Nat)} (hi : i ≤ l.len) (hM : Ms.length = l.len) : (anew i l Ms).length = l.len := by
  unfold anew
  rw [List.length_append, List.length_take, marksF_len, List.length_drop, hM]
  omega
theorem anew_end {l : F} {Ms : List (List Nat)} (hM : Ms.length = l.len) : anew l.len l Ms = marksF [] l := by
  unfold anew
  rw [List.take_of_length_le (by rw [marksF_len]; exact Nat.le_refl _), List.drop_of_length_le (by omega), List.append_nil]
/-- A row that is being given anew. -/
def rowW (S L : List Nd) (M : List Nat) (j : Nat) : List Nat := (markL S (L.take j)).1 ++ M.drop j
theorem rowW_len {S L : List Nd} {M : List Nat} {j : Nat} (hM : M.length = L.length) (hj : j ≤ L.length) : (rowW S L M j).length = L.length := by
  unfold rowW
  rw [List.length_append, markL_len, List.length_take, List.length_drop, hM]
  omega
theorem rowW_at {S L : List Nd} {M : List Nat} {j m : Nat} (hM : M.length = L.length) (hj : j < L.length) (hm : M[j]? = some m) : (rowW S L M j)[j]? = some m := by
  unfold rowW
  have h : (markL S (L.take j)).1.length = j := by rw [markL_len, List.length_take]; omega
  rw [List.getElem?_append_right (by omega), h, Nat.sub_self, List.getElem?_drop, Nat.add_zero, hm]
theorem rowW_step {S L : List Nd} {M : List Nat} {j m : Nat} {nd : Nd} (hM : M.length = L.length) (hj : L[j]? = some nd) (hm : M[j]? = some m) :
    (rowW S L M j).set j (firstAt (markL S (L.take j)).2 nd) = rowW S L M (j + 1) ∧ (markL S (L.take (j + 1))).2 = seeN (markL S (L.take j)).2 nd := by
  have hjl := (List.getElem?_eq_some_iff.1 hj).1
  have h : (markL S (L.take j)).1.length = j := by rw [markL_len, List.length_take]; omega
  have e : L.take (j + 1) = L.take j ++ [nd] := by rw [List.take_add_one, hj]; rfl
  have hd : M.drop j = m :: M.drop (j + 1) := by
    obtain ⟨h1, h2⟩ := List.getElem?_eq_some_iff.1 hm
    rw [← h2, List.getElem_cons_drop]
  constructor
  · unfold rowW
    rw [List.set_append_right _ _ (by omega), h, Nat.sub_self, hd, e, markL_snoc]
    simp
  · rw [e, markL_snoc]
theorem rowW_zero (S L : List Nd) (M : List Nat) : rowW S L M 0 = M := by simp [rowW, markL]
theorem rowW_end {S L : List Nd} {M : List Nat} (hM : M.length = L.length) : rowW S L M L.length = (markL S L).1 := by
  unfold rowW
  rw [List.take_length, List.drop_of_length_le (by omega), List.append_nil]
/-- What is known of the rows of numbers. -/
structure Known (dict : List Nd) (l : F) (Ms : List (List Nat)) : Prop where
  len : Ms.length = l.len
  at_ : ∀ i k x y c r, l.drop i = .cons k x y c r → ∃ M, Ms[i]? = some M ∧ M.length = (nodes (one k x y c)).length ∧ ∀ (p : Nat) (nd : Nd), (nodes (one k x y c))[p]? = some nd → ∃ m, M[p]? = some m ∧ dict[m]? = some nd
set_option maxRecDepth 100000 in
set_option maxHeartbeats 16000000 in
theorem renumber_any (w : World) (B : Nat) (l : F) (aM : Option Addr) (n cM : Nat) (us : List Value) (Ms : List (List Nat)) (dict : List Nd) (hd : dict.Nodup) (hK : Known dict l Ms) (hF : Fam w B (rowT 27 1 (.slice aM n cM) n us :: inn us Ms)) (hn : l.len = n) (hu : us.length = n) (hl : l.size ≤ 1000) (hdl : dict.length ≤ 1000000) :
    Calls Tryd.prog 27 #[.slice aM n cM, .int .i64 (dict.length : Int)] w fun e w' => e = .returned (.tuple #[]) ∧ Fam w' B (rowT 27 1 (.slice aM n cM) n us :: inn us (marksF [] l)) ∧ Below B w w' := by
  obtain ⟨i0, hi0, hz0, hz1, hz2⟩ := info_parts int_info
  obtain ⟨cnt, hcnt⟩ : ∃ cnt, dict.length = cnt := ⟨_, rfl⟩
  rw [hcnt] at hdl ⊢
  have hlen := hK.len
  have hnn : n ≤ 1000 := by have := F.len_le_size l; omega
  have HF := Lib.hid hF
  have HK := Lib.hid hK
  have HD := Lib.hid hd
  have HN := Lib.hid hn
  have HU := Lib.hid hu
  have HL := Lib.hid hl
  have HC := Lib.hid hcnt
  have HML := Lib.hid hlen
  have HA0 : Hid (anew 0 l Ms = Ms) := by show _ = _; simp [anew]
  have hB := hF.B
  clear hF hK hd hn hu hl hcnt hlen
  go_enter Tryd.func27, Tryd.ntmps27
  go_wp2_with (at_make; refine wpList_make_full _ rfl _ _ 27 rfl 0 3 i0 (.int .i64 0) 1 Tryd.underlying27 hi0 hz0 hz1 _ _ _ _ cnt rfl rfl rfl rfl (by rw [hz2]; omega) (by unfold maxLen; omega) (Nat.zero_le _) ?_)
  intro w1 ho1 hg1
  rw [show (madeCells #[Value.int .i64 0] cnt).toList = (List.replicate cnt (0 : Int)).map iv from made_zero cnt] at ho1
  obtain ⟨gt, hgt⟩ : ∃ gt, w.heap.size = gt := ⟨_, rfl⟩
  have hf1 := HF.out.cons (t := rowT 3 1 (.slice (some ⟨w.heap.size, 0, none⟩) cnt cnt) cnt ((List.replicate cnt (0 : Int)).map iv)) hg1 ho1 (fun q hq => by have hq : some w.heap.size = some q := hq; injection hq with hq; omega)
  have HB1 : Hid (Below B w w1) := ⟨hg1.os, hg1.tape, hg1.output, hg1.size, fun q hq => hg1.block q (Nat.lt_of_lt_of_le hq hB) (by simp)⟩
  have HT1 : Hid (Turns dict (seenF 0 [] l) (List.replicate cnt 0)) := by
    have := Turns.start dict
    rwa [HC.out] at this
  rw [hgt] at hf1
  rw [hgt]
  have HF1 : Hid (Fam w1 B (rowT 3 1 (.slice (some ⟨gt, 0, none⟩) cnt cnt) cnt ((List.replicate cnt (0 : Int)).map iv) :: rowT 27 1 (.slice aM n cM) n us :: inn us (anew 0 l Ms))) := by rw [HA0.out]; exact hf1
  clear ho1 hg1 hf1 hgt hB HF HA0
  go_wp2
  go_loopw [5, 14] (fun s5 s14 wr => ∃ (i : Nat) (turn : List Int), i ≤ n ∧ s5 = .int .i64 ((seenF i [] l).length : Int) ∧ s14 = .int .i64 (i : Int) ∧ Hid (Turns dict (seenF i [] l) turn) ∧ Hid (Fam wr B (rowT 3 1 (.slice (some ⟨gt, 0, none⟩) cnt cnt) cnt (turn.map iv) :: rowT 27 1 (.slice aM n cM) n us :: inn us (anew i l Ms))) ∧ Hid (Below B w wr)) (fun _ s _ => n - (intOf s).toNat)
  case atStart => exact ⟨0, _, Nat.zero_le _, rfl, rfl, HT1.out, HF1.out, HB1.out⟩
  case round =>
    clear HT1 HF1 HB1
    obtain ⟨i, turn, hi, rfl, rfl, HT, HF, HB⟩ := hrel
    by_cases hlt : i < n
    · have hlt' : (i : Int) < (n : Int) := by omega
      have hi00 : (0 : Int) ≤ (i : Int) := by omega
      obtain ⟨k, x, y, c, r, hdr, _⟩ := F.drop_cons (n := i) (f := l) (by rw [HN.out]; exact hlt)
      obtain ⟨M, hM1, hM2, hM3⟩ := HK.out.at_ i k x y c r hdr
      obtain ⟨hmk1, hmk2⟩ := marksF_at i [] l k x y c r hdr
      have hsl := seenF_len i [] l
      obtain ⟨S, hS⟩ : ∃ S, seenF i [] l = S := ⟨_, rfl⟩
      rw [hS] at HT hmk1 hmk2 hsl ⊢
      have hds : c.size + 1 ≤ l.size := by
        have : ∀ (f : F) (j : Nat), f.drop j = .cons k x y c r → c.size + 1 ≤ f.size := by
          intro f
          induction f with
          | nil => intro j h; rw [F.drop_nil] at h; cases h
          | cons k' x' y' c' r' _ ih =>
            intro j h
            cases j with
            | zero =>
              simp only [F.drop, F.cons.injEq] at h
              obtain ⟨_, _, _, rfl, _⟩ := h
              simp only [F.size]; omega
            | succ j =>
              have := ih j h
              simp only [F.size]; omega
        exact this l i hdr
      have hnl : (nodes (one k x y c)).length = c.size + 1 := by rw [nodes_len, one_size]
      obtain ⟨L, hLe⟩ : ∃ L, nodes (one k x y c) = L := ⟨_, rfl⟩
      rw [hLe] at hM2 hM3 hmk1 hmk2 hnl
      obtain ⟨u, hu⟩ : ∃ u, us[i]? = some u := ⟨_, List.getElem?_eq_getElem (by rw [HU.out]; exact hlt)⟩
      have han := anew_at (l := l) (by rw [HN.out]; omega) hM1
      have hinn : ∀ (q0 q1 : Thing) (ks : List (List Nat)) (l' : List Nat), ks[i]? = some l' → (q0 :: q1 :: inn us ks)[i + 2]? = some (rowT 3 1 u l'.length (l'.map nv)) := fun q0 q1 ks l' h => inn_at hu h
      obtain ⟨gu, cu, hue, _, _⟩ := HF.out.sliceAt (hinn _ _ _ _ han) (by omega)
      obtain ⟨gM, cM', eM, _, _⟩ := HF.out.sliceAt (i := 1) rfl (by omega)
      injection eM with eM1 _ eM3
      subst eM1
      subst eM3
      have hcu := HF.out.cell (i := 1) rfl hu
      subst hue
      obtain ⟨NN, hNN⟩ : ∃ NN, L.length = NN := ⟨_, rfl⟩
      rw [hNN] at hM2 hnl
      rw [hM2] at hcu hu hinn
      have HINN := Lib.hid hinn
      have HUI := Lib.hid hu
      have HM1 := Lib.hid hM1
      have HM2 : Hid (M.length = L.length) := by show _ = _; rw [hM2, hNN]
      have HM3 := Lib.hid hM3
      have HMK1 := Lib.hid hmk1
      have HMK2 := Lib.hid hmk2
      have HNN := Lib.hid hNN
      have HAN := Lib.hid han
      have HS := Lib.hid hS
      have hNN5 : NN ≤ 1001 := by have := HL.out; omega
      have hS5 : S.length ≤ 1000 := by have := HL.out; simp at hsl; omega
      have HLT := Lib.hid hlt
      clear hdr hM1 hM2 hM3 hmk1 hmk2 hsl hS hds hnl hLe hu han hinn hNN hlt
      go_wp2
      clear hcu
      have HROW : Hid (∀ (j : Nat) (q0 q1 : Thing), j ≤ NN → (q0 :: q1 :: inn us ((anew i l Ms).set i (rowW S L M j)))[i + 2]? = some (rowT 3 1 (.slice (some ⟨gu, 0, none⟩) NN cu) NN ((rowW S L M j).map nv))) := fun j q0 q1 hj => by
        have h := HINN.out q0 q1 ((anew i l Ms).set i (rowW S L M j)) (rowW S L M j) (List.getElem?_set_self (List.getElem?_eq_some_iff.1 HAN.out).1)
        rwa [rowW_len HM2.out (by rw [HNN.out]; exact hj), HNN.out] at h
      have HPUT : Hid (∀ (j f : Nat) (q0 q1 : Thing), j ≤ NN → (q0 :: q1 :: inn us ((anew i l Ms).set i (rowW S L M j))).set (i + 2) (rowT 3 1 (.slice (some ⟨gu, 0, none⟩) NN cu) NN (((rowW S L M j).map nv).set j (nv f))) = q0 :: q1 :: inn us ((anew i l Ms).set i ((rowW S L M j).set j f))) := fun j f q0 q1 hj => by
        show q0 :: q1 :: (inn us ((anew i l Ms).set i (rowW S L M j))).set i _ = _
        have hl := rowW_len (S := S) HM2.out (show j ≤ L.length by rw [HNN.out]; exact hj)
        have h := inn_put (us := us) (ks := (anew i l Ms).set i (rowW S L M j)) (i := i) (l := rowW S L M j) (l' := (rowW S L M j).set j f) (by rw [List.length_set, anew_len (by rw [HN.out]; exact hi) HML.out, HN.out, HU.out]) HUI.out (by rw [List.length_set])
        rw [hl, HNN.out, List.set_set, List.map_set] at h
        rw [h]
      have hf0 : Fam wr B (rowT 3 1 (.slice (some ⟨gt, 0, none⟩) cnt cnt) cnt (turn.map iv) :: rowT 27 1 (.slice (some ⟨gM, 0, none⟩) n cM) n us :: inn us ((anew i l Ms).set i (rowW S L M 0))) := by
        have e : (anew i l Ms).set i (rowW S L M 0) = anew i l Ms := by
          rw [rowW_zero]
          obtain ⟨h1, h2⟩ := List.getElem?_eq_some_iff.1 HAN.out
          rw [← h2, List.set_getElem_self]
        rw [e]; exact HF.out
      have HF0 := Lib.hid hf0
      clear hf0
      obtain ⟨wo, hwo⟩ : ∃ wo, wo = wr := ⟨_, rfl⟩
      rw [← hwo] at HB HF HF0 ⊢
      clear hwo
      go_loopw [5, 20] (fun s5 s20 wr => ∃ (j : Nat) (tn : List Int), j ≤ NN ∧ s5 = .int .i64 ((markL S (L.take j)).2.length : Int) ∧ s20 = .int .i64 (j : Int) ∧ Hid (Turns dict (markL S (L.take j)).2 tn) ∧ Hid (Fam wr B (rowT 3 1 (.slice (some ⟨gt, 0, none⟩) cnt cnt) cnt (tn.map iv) :: rowT 27 1 (.slice (some ⟨gM, 0, none⟩) n cM) n us :: inn us ((anew i l Ms).set i (rowW S L M j)))) ∧ Hid (Below B wo wr)) (fun _ s _ => NN - (intOf s).toNat)
      case atStart => exact ⟨0, turn, Nat.zero_le _, rfl, rfl, HT.out, HF0.out, Below.refl _ _⟩
      case round =>
        clear HF0 HT HF
        obtain ⟨j, tn, hj, rfl, rfl, HT, HF, HBJ⟩ := hrel
        by_cases hjl : j < NN
        · have hjl' : (j : Int) < (NN : Int) := by omega
          have hj0 : (0 : Int) ≤ (j : Int) := by omega
          obtain ⟨nd, hnd⟩ : ∃ nd, L[j]? = some nd := ⟨_, List.getElem?_eq_getElem (by rw [HNN.out]; exact hjl)⟩
          obtain ⟨m, hm1, hm2⟩ := HM3.out j nd hnd
          have hmc : m < cnt := by rw [← HC.out]; exact (List.getElem?_eq_some_iff.1 hm2).1
          have hmc' : (m : Int) < (cnt : Int) := by omega
          have hm0 : (0 : Int) ≤ (m : Int) := by omega
          have hra := rowW_at (S := S) HM2.out (show j < L.length by rw [HNN.out]; exact hjl) hm1
          have hc1 := HF.out.cell (HROW.out j _ _ hj) (j := j) (u := nv m) (by rw [List.getElem?_map, hra]; rfl)
          have hz1 := HF.out.frz (HROW.out j _ _ hj) j
          obtain ⟨z, hz⟩ : ∃ z, tn[m]? = some z := ⟨_, List.getElem?_eq_getElem (by rw [HT.out.len, HC.out]; exact hmc)⟩
          have hc2 := HF.out.cell (i := 0) rfl (j := m) (u := iv z) (by rw [List.getElem?_map, hz]; rfl)
          have hz2' := HF.out.frz (i := 0) rfl m
          obtain ⟨hst1, hst2⟩ := rowW_step (S := S) HM2.out hnd hm1
          have hsl := seen_len (L.take j) S
          rw [List.length_take] at hsl
          obtain ⟨SS, hSS⟩ : ∃ SS, (markL S (L.take j)).2 = SS := ⟨_, rfl⟩
          rw [hSS] at HT hst1 hst2 hsl ⊢
          have hSS5 : SS.length ≤ 3000 := by omega
          have hne : gu ≠ gt := by
            have h1 := HF.out.ne (i := i + 2) (j := 0) (HROW.out j _ _ hj) rfl (by omega)
            rcases h1 with h1 | h1
            · cases h1
            · intro e; exact h1 (by rw [e]; rfl)
          have hne' : gt ≠ gu := fun e => hne e.symm
          have HST1 := Lib.hid hst1
          have HST2 := Lib.hid hst2
          have HJL := Lib.hid hjl
          by_cases hz0 : z = 0
          · subst hz0
            obtain ⟨hn1, hn2, hn3⟩ := HT.out.new HD.out hm2 hz
            rw [hn2] at hst2 hn3
            rw [hn1] at hst1
            have hA := HF.out.store (i := 0) rfl m (.int .i64 ((SS.length : Int) + 1))
            have hB := hA.1.store (HROW.out j _ _ hj) j (.int .i64 (SS.length : Int))
            have hfm : Fam ((wr.setCell ⟨gt, m, none⟩ (.int .i64 ((SS.length : Int) + 1))).setCell ⟨gu, j, none⟩ (.int .i64 (SS.length : Int))) B (rowT 3 1 (.slice (some ⟨gt, 0, none⟩) cnt cnt) cnt ((tn.set m ((SS.length + 1 : Nat) : Int)).map iv) :: rowT 27 1 (.slice (some ⟨gM, 0, none⟩) n cM) n us :: inn us ((anew i l Ms).set i (rowW S L M (j + 1)))) := by
              rw [← hst1, List.map_set, ← HPUT.out j SS.length _ _ hj]
              exact hB.1
            have HFM := Lib.hid hfm
            have HBM := Lib.hid ((HBJ.out.trans hA.2).trans hB.2)
            have HTN : Hid (Turns dict (markL S (L.take (j + 1))).2 (tn.set m ((SS.length + 1 : Nat) : Int))) := by rw [hst2]; exact hn3
            have HLE : Hid ((markL S (L.take (j + 1))).2.length = SS.length + 1) := by show _ = _; rw [hst2]; simp
            clear hst1 hst2 hsl hSS hra hnd hm1 hm2 hz hmc hjl hn1 hn2 hn3 hA hB hfm HT HF
            go_wp2
            refine ⟨⟨j + 1, _, by have := HJL.out; omega, by rw [HLE.out]; rfl, rfl, HTN.out, HFM.out, HBM.out⟩, ?_⟩
            have := HJL.out; simp [intOf]; omega
          · obtain ⟨ho1, ho2⟩ := HT.out.old hm2 hz hz0
            obtain ⟨f, hf⟩ : ∃ f, firstAt SS nd = f := ⟨_, rfl⟩
            rw [hf] at ho1 hst1
            obtain rfl : z = (f : Int) + 1 := by omega
            rw [ho2] at hst2
            have hz0' : (((f : Int) + 1) == 0) = false := by simp; omega
            have hf5 : f ≤ 3000 := by rw [← hf]; exact Nat.le_trans (first_le _ _) hSS5
            have hB := HF.out.store (HROW.out j _ _ hj) j (.int .i64 (f : Int))
            have hfm : Fam (wr.setCell ⟨gu, j, none⟩ (.int .i64 (f : Int))) B (rowT 3 1 (.slice (some ⟨gt, 0, none⟩) cnt cnt) cnt (tn.map iv) :: rowT 27 1 (.slice (some ⟨gM, 0, none⟩) n cM) n us :: inn us ((anew i l Ms).set i (rowW S L M (j + 1)))) := by
              rw [← hst1, ← HPUT.out j f _ _ hj]
              exact hB.1
            have HFM := Lib.hid hfm
            have HBM := Lib.hid (HBJ.out.trans hB.2)
            have HTN : Hid (Turns dict (markL S (L.take (j + 1))).2 tn) := by rw [hst2]; exact HT.out
            have HLE : Hid ((markL S (L.take (j + 1))).2.length = SS.length) := by show _ = _; rw [hst2]
            clear hst1 hst2 hsl hSS hra hnd hm1 hm2 hz hmc hjl ho1 ho2 hf hB hfm HT HF hz0
            go_wp2
            refine ⟨⟨j + 1, _, by have := HJL.out; omega, by rw [HLE.out], rfl, HTN.out, HFM.out, HBM.out⟩, ?_⟩
            have := HJL.out; simp [intOf]; omega
        · obtain rfl : NN = j := by omega
          have hjl' : ¬ (NN : Int) < (NN : Int) := by omega
          have hend : rowW S L M NN = (markL S L).1 := by rw [← HNN.out]; exact rowW_end HM2.out
          have htk : L.take NN = L := by rw [← HNN.out]; exact List.take_length
          have hst := anew_step (by rw [HN.out]; exact HLT.out) HM1.out HMK1.out
          have hf := HF.out
          have ht := HT.out
          rw [hend, hst] at hf
          rw [htk, ← HMK2.out] at ht
          have HFM := Lib.hid hf
          have HTN := Lib.hid ht
          have HBN := Lib.hid (HB.out.trans HBJ.out)
          have HLE : Hid ((markL S (L.take NN)).2.length = (seenF (i + 1) [] l).length) := by show _ = _; rw [htk, HMK2.out]
          clear hend htk hst hf ht HF HT hjl
          go_wp2
          go_roundw
          case rel => exact ⟨i + 1, tn, by have := HLT.out; omega, by rw [HLE.out], by go_num, HTN.out, HFM.out, HBN.out⟩
          case measure => have := HLT.out; simp [intOf]; omega
    · obtain rfl : n = i := by omega
      have hlt' : ¬ (n : Int) < (n : Int) := by omega
      have hf := HF.out
      rw [← HN.out, anew_end HML.out, HN.out] at hf
      have HF2 := Lib.hid hf
      clear hf HF hlt
      go_wp2
      go_end0
      exact ⟨rfl, HF2.out.sub (List.sublist_cons_self _ _), HB.out⟩
end Go.Proofs.YtmknghhgcecafaaDoor.Shape
