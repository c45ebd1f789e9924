/-
  Layer 10 (shape): the program's own Marks.
-/
import Derived.Test.YtmknghhgcecafaaDoorShapeMarksOf
import Derived.Test.YtmknghhgcecafaaDoorShapeRenumber
namespace Go.Proofs.YtmknghhgcecafaaDoor.Shape
open Go.ChangeShapes Go.WideShapes Go.ChangeAt Go.RowKit Mem Tree
set_option linter.unusedVariables false

theorem made_nil (n : Nat) : (madeCells #[Value.slice none 0 0] n).toList = List.replicate n (Value.slice none 0 0) := by
  apply List.ext_getElem?
  intro j
  rw [List.getElem?_replicate]
  by_cases hj : j < n
  · simp [madeCells, hj, Nat.mod_one]
  · simp [madeCells, hj]
/-- Things that lie nowhere. -/
theorem fam_free {w : World} {B : Nat} {R S : List Thing} (h : Fam w B R) (hS : ∀ t ∈ S, t.b = none ∧ t.H w) : Fam w B (R ++ S) := by
  refine ⟨fun t ht => ?_, fun t ht k hk => ?_, ?_, h.B⟩
  · rcases List.mem_append.1 ht with ht | ht
    · exact h.h t ht
    · exact (hS t ht).2
  · rcases List.mem_append.1 ht with ht | ht
    · exact h.ge t ht k hk
    · rw [(hS t ht).1] at hk; cases hk
  · rw [List.pairwise_append]
    refine ⟨h.ap, ?_, fun s hs t ht => ?_⟩
    · have : ∀ (L : List Thing), (∀ t ∈ L, t.b = none) → L.Pairwise fun s t => s.b = none ∨ s.b ≠ t.b := by
        intro L
        induction L with
        | nil => intro _; exact List.Pairwise.nil
        | cons a L ih => intro hL; exact List.pairwise_cons.2 ⟨fun t _ => .inl (hL a List.mem_cons_self), ih fun t ht => hL t (List.mem_cons_of_mem _ ht)⟩
      exact this S fun t ht => (hS t ht).1
    · cases hb : s.b with
      | none => exact .inl rfl
      | some k => right; rw [(hS t ht).1]; simp
theorem inn_nils (w : World) : ∀ (n : Nat), ∀ t ∈ inn (List.replicate n (.slice none 0 0)) (List.replicate n []), t.b = none ∧ t.H w
  | 0, t, h => by cases h
  | n + 1, t, h => by
    rcases List.mem_cons.1 h with rfl | h
    · exact ⟨rfl, World.ownsRow_nil w 0 _ _⟩
    · exact inn_nils w n t h
theorem Fam.put {w w' : World} {B g i : Nat} {R : List Thing} {t t' : Thing} (h : Fam w B R) (hg : g < B) (hG : w.grownBy w' (some g)) (hi : R[i]? = some t) (ht : t'.H w') (hn : ∀ k, t'.b = some k → w.heap.size ≤ k) : Fam w' B (R.set i t') := by
  have h5 := Fam.grownLow h hg hG
  have hlt : ∀ s ∈ R, ∀ k, s.b = some k → k < w.heap.size := fun s hs k hk => (h.lt hs hk).2
  refine ⟨fun s hs => ?_, fun s hs k hk => ?_, ?_, h5.B⟩
  · rcases List.mem_or_eq_of_mem_set hs with hs | rfl
    · exact h5.h s hs
    · exact ht
  · rcases List.mem_or_eq_of_mem_set hs with hs | rfl
    · exact h5.ge s hs k hk
    · exact Nat.le_trans h.B (hn k hk)
  · have new : ∀ s ∈ R, s.b = none ∨ s.b ≠ t'.b := fun s hs => by
      cases hb : s.b with
      | none => exact .inl rfl
      | some k =>
        right
        intro e
        have h1 := hlt s hs k hb
        have h2 := hn k e.symm
        omega
    rw [List.pairwise_iff_getElem]
    intro a c ha hc hac
    have ha' : a < R.length := by simpa using ha
    have hc' : c < R.length := by simpa using hc
    rw [List.getElem_set, List.getElem_set]
    by_cases hia : i = a
    · rw [if_pos hia, if_neg (by omega)]
      exact apart_symm (new _ (List.getElem_mem hc'))
    · rw [if_neg hia]
      by_cases hic : i = c
      · rw [if_pos hic]
        exact new _ (List.getElem_mem ha')
      · rw [if_neg hic]
        exact List.pairwise_iff_getElem.1 h5.ap a c ha' hc' hac
theorem Kinds.drop : ∀ {n : Nat} {f : F}, Kinds f → Kinds (f.drop n)
  | 0, f, h => h
  | n + 1, .nil, _ => by simp [F.drop, Kinds]
  | n + 1, .cons k x y c r, h => Kinds.drop (n := n) h.2.2
/-- How far Marks has come: i trees. -/
structure MA (w : World) (l : F) (mv : Value) (n i : Nat) (us : List Value) (Mi : List (List Nat)) (D : Dm) (KS : List (List UInt8)) (d : List Nd) (W : World) : Prop where
  fam : Fam W (w.heap.size + 1) (rowT 27 1 mv n us :: inn us (Mi ++ List.replicate (n - i) []))
  len : Mi.length = i
  ul : us.length = n
  un : ∀ j, i ≤ j → j < n → us[j]? = some (.slice none 0 0)
  map : ∃ nb, MapAt W w.heap.size nb D ∧ nb ≤ (upto i l).size
  km : KM D KS
  dic : Dict KS d
  few : d.length ≤ (upto i l).size
  is : ∀ j k x y c r, j < i → l.drop j = .cons k x y c r → ∃ M, Mi[j]? = some M ∧ M.length = (nodes (one k x y c)).length ∧ ∀ (p : Nat) (nd : Nd), (nodes (one k x y c))[p]? = some nd → ∃ m, M[p]? = some m ∧ d[m]? = some nd
  bel : Below w.heap.size w W
theorem ma_step {w W W' W2 : World} {l : F} {gM cM n i : Nat} {us : List Value} {Mi : List (List Nat)} {D : Dm} {KS KS' : List (List UInt8)} {d d' : List Nd} {k : Int} {x y : ByteArray} {c r : F} {nb : Nat} {v : Value} {Ms : List Nat} (h : MA w l (.slice (some ⟨gM, 0, none⟩) n cM) n i us Mi D KS d W) (hb : Below W.heap.size W W') (hi : i < n) (hd : l.drop i = .cons k x y c r)
    (hm : MkPost W' w.heap.size nb d (one k x y c) v W2 KS' d' Ms) (hnb : nb ≤ (upto i l).size) : ∃ D', MA w l (.slice (some ⟨gM, 0, none⟩) n cM) n (i + 1) (us.set i v) (Mi ++ [Ms]) D' KS' d' (W2.setCell ⟨gM, i, none⟩ v) := by
  obtain ⟨D', nb', hm1, hk1, hm2⟩ := hm.map
  have hup := (upto_step i l k x y c r hd).2.2.1
  rw [one_size] at hm2
  have hlk : us.length = (Mi ++ List.replicate (n - i) []).length := by rw [h.ul, List.length_append, h.len, List.length_replicate]; omega
  have hki : (Mi ++ List.replicate (n - i) ([] : List Nat))[i]? = some [] := by
    rw [List.getElem?_append_right (by rw [h.len]; exact Nat.le_refl _), h.len, Nat.sub_self, List.getElem?_replicate, if_pos (by omega)]
  have hks : (Mi ++ List.replicate (n - i) ([] : List Nat)).set i Ms = (Mi ++ [Ms]) ++ List.replicate (n - (i + 1)) [] := by
    rw [List.set_append_right _ _ (by rw [h.len]; exact Nat.le_refl _), h.len, Nat.sub_self, show n - i = (n - (i + 1)) + 1 by omega, List.replicate_succ]
    simp
  have hf1 := h.fam.later hb
  have hf2 := Fam.put (i := i + 1) (t := rowT 3 1 (.slice none 0 0) 0 []) (t' := rowT 3 1 v Ms.length (Ms.map nv)) hf1 (Nat.lt_succ_self _) hm.grown (show (inn us (Mi ++ List.replicate (n - i) []))[i]? = _ from inn_at (h.un i (Nat.le_refl _) hi) hki) (own_zero hm.row) (fun q hq => own_ge hm.row q hq)
  have hst := hf2.store (i := 0) rfl i v
  have hlow : gM ≠ w.heap.size := fun e => by
    have := h.fam.ge _ List.mem_cons_self gM rfl
    omega
  have hgr : Below w.heap.size w W2 := ⟨hm.grown.os.trans (hb.os.trans h.bel.os), hm.grown.tape.trans (hb.tape.trans h.bel.tape), hm.grown.output.trans (hb.output.trans h.bel.output), Nat.le_trans h.bel.size (Nat.le_trans hb.size hm.grown.size), fun q hq => (hm.grown.block q (Nat.lt_of_lt_of_le hq (Nat.le_trans h.bel.size hb.size)) (fun e => by have := Option.some.inj e; omega)).trans ((hb.block q (Nat.lt_of_lt_of_le hq h.bel.size)).trans (h.bel.block q hq))⟩
  refine ⟨D', ?_, by rw [List.length_append, h.len]; rfl, by rw [List.length_set]; exact h.ul, fun j hj hjn => by rw [List.getElem?_set_ne (by omega)]; exact h.un j (by omega) hjn, ⟨nb', hm1.kept (Below.heap_setCell _ _ _ _ (fun e => hlow e.symm)), by omega⟩, hk1, hm.dic, by have := hm.few; rw [one_size] at this; have := h.few; omega, fun j k' x' y' c' r' hj hdj => ?_, hgr.trans (hst.2.mono (Nat.le_succ _))⟩
  · have e := inn_set us (Mi ++ List.replicate (n - i) []) i v Ms hlk
    rw [hks] at e
    rw [← e]
    exact hst.1
  · by_cases e : j = i
    · subst e
      rw [hd] at hdj
      simp only [F.cons.injEq] at hdj
      obtain ⟨rfl, rfl, rfl, rfl, _⟩ := hdj
      refine ⟨Ms, by rw [List.getElem?_append_right (by rw [h.len]; exact Nat.le_refl _), h.len, Nat.sub_self]; rfl, by rw [hm.len, nodes_len], hm.is⟩
    · obtain ⟨M, q1, q2, q3⟩ := h.is j k' x' y' c' r' (by omega) hdj
      refine ⟨M, by rw [List.getElem?_append_left (by rw [h.len]; omega)]; exact q1, q2, fun p nd hp => ?_⟩
      obtain ⟨m, h1, h2⟩ := q3 p nd hp
      exact ⟨m, h1, pre_at hm.pre h2⟩
set_option maxRecDepth 100000 in
set_option maxHeartbeats 16000000 in
theorem marksSpec : MarksSpec := by
  intro A n C l w hP hf hl hs hk
  obtain ⟨i1, hi1, hy0, hy1, hy2⟩ := info_parts ints_info
  have hn : n = l.len := by
    obtain ⟨A', C', e, _⟩ := hf.slice
    injection e with _ e _
  have hll := F.len_le_size l
  have hn5 : n ≤ 1000 := by omega
  have hb1 := bel1 w (.map #[] 0)
  have HM1 : Hid (MapAt (w.alloc (.map #[] 0)) w.heap.size 0 (.map [])) := World.ownsMap_made w _ _ _
  have HB1 := Lib.hid hb1
  have hsz : (w.alloc (.map #[] 0)).heap.size = w.heap.size + 1 := by simp
  have HSZ := Lib.hid hsz
  have HN := Lib.hid hn
  have HF := Lib.hid hf
  have HP := Lib.hid hP
  have HL := Lib.hid hl
  have HS := Lib.hid hs
  have HKI := Lib.hid hk
  clear hP hf hl hs hk hn hll hb1 hsz
  go_enter Tryd.func15, Tryd.ntmps15
  go_wp2_with fail
  rw [run_makeMap]
  go_wp2_with (at_make; refine wpList_make_full _ rfl _ _ 28 rfl 0 27 i1 (.slice none 0 0) 1 Tryd.underlying28 hi1 hy0 hy1 _ _ _ _ n rfl rfl rfl rfl (by rw [hy2]; omega) (by unfold maxLen; omega) (Nat.zero_le _) ?_)
  intro w2 ho2 hg2
  rw [show (madeCells #[Value.slice none 0 0] n).toList = List.replicate n (.slice none 0 0) from made_nil n] at ho2
  obtain ⟨gM, hgM⟩ : ∃ gM, w.heap.size + 1 = gM := ⟨_, rfl⟩
  rw [hgM] at ho2 ⊢
  have hf2 : Fam w2 (w.heap.size + 1) (rowT 27 1 (.slice (some ⟨gM, 0, none⟩) n n) n (List.replicate n (.slice none 0 0)) :: inn (List.replicate n (.slice none 0 0)) (List.replicate n [])) := by
    have h0 := (Fam.nil (w.alloc (.map #[] 0))).cons (t := rowT 27 1 (.slice (some ⟨gM, 0, none⟩) n n) n (List.replicate n (.slice none 0 0))) hg2 ho2 (fun q hq => by have hq : some gM = some q := hq; injection hq with hq; have := HSZ.out; omega)
    have h1 := fam_free h0 (inn_nils w2 n)
    rw [HSZ.out] at h1
    exact h1
  have hb12 : Below (w.alloc (.map #[] 0)).heap.size (w.alloc (.map #[] 0)) w2 := ⟨hg2.os, hg2.tape, hg2.output, hg2.size, fun q hq => hg2.block q hq (by simp)⟩
  have HMA : Hid (MA w l (.slice (some ⟨gM, 0, none⟩) n n) n 0 (List.replicate n (.slice none 0 0)) [] (.map []) [] [] w2) := by
    refine ⟨hf2, rfl, List.length_replicate, fun j _ hj => by rw [List.getElem?_replicate, if_pos hj], ⟨0, HM1.out.kept (hb12.block _ (by rw [HSZ.out]; exact Nat.lt_succ_self _)), Nat.zero_le _⟩, KM.nil, Dict.nil, Nat.zero_le _, fun j k x y c r hj => by omega, HB1.out.trans (hb12.mono HB1.out.size)⟩
  clear ho2 hg2 hgM hf2 hb12 HM1 HB1 HSZ
  go_wp2
  go_loopw [13] (fun s13 wr => ∃ (i : Nat) (us : List Value) (Mi : List (List Nat)) (D : Dm) (KS : List (List UInt8)) (d : List Nd), i ≤ n ∧ s13 = .int .i64 (i : Int) ∧ Hid (MA w l (.slice (some ⟨gM, 0, none⟩) n n) n i us Mi D KS d wr)) (fun s _ => n - (intOf s).toNat)
  case atStart => exact ⟨0, _, [], _, [], [], Nat.zero_le _, rfl, HMA.out⟩
  case round =>
    clear HMA
    obtain ⟨i, us, Mi, D, KS, d, hi, rfl, HI⟩ := hrel
    by_cases hlt : i < n
    · have hlt' : (i : Int) < (n : Int) := by omega
      have hi00 : (0 : Int) ≤ (i : Int) := by omega
      obtain ⟨k, x, y, c, r, hdr, _⟩ := F.drop_cons (n := i) (f := l) (by rw [← HN.out]; exact hlt)
      have hfr : Fs wr (Lo w.heap.size) (.slice A n C) l := HF.out.below HI.out.bel (Nat.le_refl _)
      obtain ⟨b, off, s, rfl, hSb, _, hat⟩ := hfr.at_ hdr
      obtain ⟨As, Cs, rfl, _, _⟩ := hat.kids.slice
      have e0 := hat.c0; have e1 := hat.c1; have e2 := hat.c2; have e3 := hat.c3
      have hbx := bel1 wr (.cells #[.int .i64 k, .string x, .string y, .slice As c.len Cs] 24)
      have hup := (upto_step i l k x y c r hdr).2.2.1
      have hul := upto_le (i + 1) l
      have hsd := HS.out.drop (n := i)
      have hkd := HKI.out.drop (n := i)
      rw [hdr] at hsd hkd
      obtain ⟨s1, s2, s3, _⟩ := hsd
      obtain ⟨k1, k2, _⟩ := hkd
      obtain ⟨nb, hmp, hnb⟩ := HI.out.map
      have hwl : w.heap.size < wr.heap.size := World.ownsMap.lt hmp
      have HMO := Lib.hid (marksOf_any k x y As c.len Cs c (wr.alloc (.cells #[.int .i64 k, .string x, .string y, .slice As c.len Cs] 24)) w.heap.size nb D KS d
        ((hat.kids.up (show w.heap.size ≤ wr.heap.size from HI.out.bel.size)).later hbx) (by have := HL.out; omega) ⟨s1, s2, s3, trivial⟩ ⟨k1, k2, trivial⟩ (hmp.kept (hbx.block _ hwl)) HI.out.km HI.out.dic (by have := HL.out; omega) (by have := HI.out.few; have := HL.out; omega) (HP.out.on (HI.out.bel.trans (hbx.mono HI.out.bel.size))))
      have HBX := Lib.hid hbx
      have HDR := Lib.hid hdr
      have HNB := Lib.hid hnb
      have HLT := Lib.hid hlt
      obtain ⟨ln, hln⟩ : ∃ ln, c.len = ln := ⟨_, rfl⟩
      rw [hln] at e3 HMO HBX
      clear hdr hfr hSb hat hbx hup hul s1 s2 s3 k1 k2 hmp hnb hwl hln hlt
      go_wp2_with fail
      refine HMO.out.mono ?_
      rintro e w5 ⟨v5, KS5, d5, Ms5, rfl, hp5⟩
      obtain ⟨a5, c5, rfl, _, _⟩ := own_slice' hp5.row
      obtain ⟨D5, hma⟩ := ma_step HI.out HBX.out HLT.out HDR.out hp5 HNB.out
      have HMA := Lib.hid hma
      have hgc : w5.cell? ⟨gM, i, none⟩ = some (.slice none 0 0) := by
        have h1 := Fam.grownLow (HI.out.fam.later HBX.out) (Nat.lt_succ_self _) hp5.grown
        exact h1.cell (i := 0) rfl (HI.out.un i (Nat.le_refl _) HLT.out)
      have hgf : w5.frozen? ⟨gM, i, none⟩ = false := by
        have h1 := Fam.grownLow (HI.out.fam.later HBX.out) (Nat.lt_succ_self _) hp5.grown
        exact h1.frz (i := 0) rfl i
      clear hma hp5 HI HMO HBX e0 e1 e2 e3
      go_wp2
      go_roundw
      case rel => exact ⟨i + 1, _, _, D5, KS5, d5, by have := HLT.out; omega, by go_num, HMA.out⟩
      case measure => have := HLT.out; simp [intOf]; omega
    · obtain rfl : n = i := by omega
      have hlt' : ¬ (n : Int) < (n : Int) := by omega
      obtain ⟨nb, hmp, hnb⟩ := HI.out.map
      have HMP : Hid (wr.ownsMap Tryd.prog 9 (plainElem Tryd.prog 3) w.heap.size nb D) := hmp
      have hfm := HI.out.fam
      rw [Nat.sub_self, List.replicate_zero, List.append_nil] at hfm
      have HKN : Hid (Known d l Mi) := ⟨by rw [HI.out.len, HN.out], fun j k x y c r hd => HI.out.is j k x y c r (by
        rcases Nat.lt_or_ge j n with h | h
        · exact h
        · rw [F.drop_all j l (by rw [← HN.out]; exact h)] at hd; cases hd) hd⟩
      have HFM := Lib.hid hfm
      have HSD : Hid (Maps.size D = d.length) := by show _ = _; rw [HI.out.km.size, HI.out.dic.len]
      have hdl : d.length ≤ 1000 := by have := HI.out.few; have := upto_le n l; have := HL.out; omega
      have HRN := Lib.hid (renumber_any wr (w.heap.size + 1) l (some ⟨gM, 0, none⟩) n n us Mi d HI.out.dic.nodup HKN.out HFM.out HN.out.symm HI.out.ul HL.out (by omega))
      have HBL := Lib.hid HI.out.bel
      have HUL : Hid (us.length = l.len) := by show _ = _; rw [HI.out.ul, HN.out]
      clear hmp hnb hfm HI hlt HKN HFM
      go_wp2_with (at_len; refine wpList_len_own _ rfl _ 47 rfl 9 3 Tryd.underlying47 _ w.heap.size nb D rfl HMP.out ?_)
      rw [HSD.out]
      go_wp2_with fail
      refine HRN.out.mono ?_
      rintro e w6 ⟨rfl, hf6, hb6⟩
      have HF6 := Lib.hid hf6
      have HB6 := Lib.hid (HBL.out.trans (hb6.mono (Nat.le_succ _)))
      clear hf6 hb6 HRN HMP
      go_wp2
      go_ret
      refine ⟨HB6.out, _, rfl, ?_⟩
      exact (rows_of (m := 0) HF6.out (i := 0) (by rw [HUL.out, HN.out]; rfl) (by rw [marksF_len]; exact HUL.out) fun j u l' hj hk => ⟨j + 1, inn_at hj hk⟩).more fun b hb => ⟨by have := hb.1; omega, hb.2⟩
end Go.Proofs.YtmknghhgcecafaaDoor.Shape
