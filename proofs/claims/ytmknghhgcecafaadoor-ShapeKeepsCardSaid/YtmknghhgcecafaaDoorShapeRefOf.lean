/-
  Layer 10 (shape): the document's own Of: a tree's plan. Written by gen_shaperefof.py.
-/
import Derived.Test.YtmknghhgcecafaaDoorJxE
namespace Go.Proofs.YtmknghhgcecafaaDoor.Shape
open Go.ChangeShapes Go.WideShapes Go.ChangeAt Go.RowKit Mem Tree
set_option linter.unusedVariables false

/-- What Of owns on its way: the nodes, the variable at g, the rows. -/
def R5 (N g : Nat) (vN vP vS vK : Value) (cN : List Value) (nP nS nK : Nat) (cP cS : List Value) (us vs : List Value) (ks : List (List Nat)) : List Thing :=
  rowT 24 4 vN N cN :: boxT 32 g [vN, vP, vS, vK] :: rowT 3 1 vP nP cP :: rowT 3 1 vS nS cS :: rowT 27 1 vK nK us :: inn vs ks
/-- What a call of Of (the document's, or the program's) gives: T is the tree as a row. -/
def OfPost (B0 : Nat) (w : World) (T : F) (e : Ending) (w' : World) : Prop := Below w.heap.size w w' ∧ ∃ vN vP vS vK vs nps, e = .returned (.agg #[vN, vP, vS, vK]) ∧
  Fam w' w.heap.size (planR vN vP vS vK nps (parF (-1) 0 T) (sizF T) vs vs (kidF 0 T)) ∧ nps.map (·.1) = nodes T ∧ (∀ p ∈ nps, Fs w' (Lo B0) p.2 p.1.c) ∧ vs.length = T.size
theorem own_zero {w : World} {base : Nat} {e : TypeId} {size n : Nat} {v : Value} {xs : List Value} (h : w.ownsRow base e size v n xs) : w.ownsRow 0 e size v n xs := by
  refine ⟨h.1, ?_⟩
  rcases h.2 with h' | ⟨g, cap, cur, a, b, r⟩
  · exact .inl h'
  · exact .inr ⟨g, cap, cur, a, Nat.zero_le _, r⟩
theorem own_ge {w : World} {base : Nat} {e : TypeId} {size n : Nat} {v : Value} {xs : List Value} (h : w.ownsRow base e size v n xs) : ∀ k, v.ownBlock = some k → base ≤ k := fun k hk => (h.lt k hk).1
theorem own_ge' {w : World} {base base' : Nat} {e : TypeId} {size n : Nat} {v : Value} {xs : List Value} (h : w.ownsRow base e size v n xs) (hb : base' ≤ base) : w.ownsRow base' e size v n xs := by
  refine ⟨h.1, ?_⟩
  rcases h.2 with h' | ⟨g, cap, cur, a, b, r⟩
  · exact .inl h'
  · exact .inr ⟨g, cap, cur, a, Nat.le_trans hb b, r⟩
theorem own_fam {w : World} {B : Nat} {e : TypeId} {size n : Nat} {v : Value} {xs : List Value} (h : w.ownsRow B e size v n xs) (hB : B ≤ w.heap.size) : Fam w B [rowT e size v n xs] :=
  ⟨fun t ht => by rw [List.mem_singleton.1 ht]; exact own_zero h, fun t ht k hk => by rw [List.mem_singleton.1 ht] at hk; exact own_ge h k hk, List.pairwise_singleton _ _, hB⟩
theorem blk2' (w : World) (o1 o2 : Obj) : ((w.alloc o1).alloc o2).heap[w.heap.size + 1]? = some o2 := by
  have := heap_alloc_new (w.alloc o1) o2
  rwa [show (w.alloc o1).heap.size = w.heap.size + 1 by simp] at this
/-- A new variable behind the nodes, and three empty rows. -/
theorem fam_start {w : World} {B N : Nat} {vN : Value} {cN : List Value} (h : Fam w B [rowT 24 4 vN N cN]) :
    Fam (w.alloc (.cells #[vN, .slice none 0 0, .slice none 0 0, .slice none 0 0] 32)) B (R5 N w.heap.size vN (.slice none 0 0) (.slice none 0 0) (.slice none 0 0) cN 0 0 0 [] [] [] [] []) := by
  have h1 := h.box (e := 32) (sz := 4) #[vN, .slice none 0 0, .slice none 0 0, .slice none 0 0] 1 (by unfold maxLen; omega) rfl
  exact ((h1.nilRow (e := 3) (sz := 1)).nilRow (e := 3) (sz := 1)).nilRow (e := 27) (sz := 1)
theorem r5_nil {w : World} {B N g : Nat} {vN vP vS vK : Value} {cN : List Value} {nP nS nK : Nat} {cP cS : List Value} {us vs : List Value} {ks : List (List Nat)} (h : Fam w B (R5 N g vN vP vS vK cN nP nS nK cP cS us vs ks)) (hl : vs.length = ks.length) :
    Fam w B (R5 N g vN vP vS vK cN nP nS nK cP cS us (vs ++ [.slice none 0 0]) (ks ++ [[]])) := by
  have h1 := h.nilRow (e := 3) (sz := 1)
  have e : R5 N g vN vP vS vK cN nP nS nK cP cS us (vs ++ [.slice none 0 0]) (ks ++ [[]]) = R5 N g vN vP vS vK cN nP nS nK cP cS us vs ks ++ [rowT 3 1 (.slice none 0 0) 0 []] := by
    unfold R5
    rw [← inn_snoc vs ks (.slice none 0 0) [] hl]
    rfl
  rw [e]; exact h1
theorem r5_put {N g n' : Nat} {vN vP vS vK v : Value} {cN : List Value} {nP nS nK : Nat} {cP cS c' : List Value} {us vs : List Value} {ks : List (List Nat)} {i : Nat} {l' : List Nat} (hl : vs.length = ks.length) (hn : n' = l'.length) (hc : c' = l'.map nv) :
    ((R5 N g vN vP vS vK cN nP nS nK cP cS us vs ks).set (i + 5) (rowT 3 1 v n' c')).set 4 (rowT 27 1 vK nK (us.set i v)) = R5 N g vN vP vS vK cN nP nS nK cP cS (us.set i v) (vs.set i v) (ks.set i l') := by
  subst hn; subst hc
  unfold R5
  rw [← inn_set vs ks i v l' hl]
  rfl
theorem r5_at {N g : Nat} {vN vP vS vK : Value} {cN : List Value} {nP nS nK : Nat} {cP cS us vs : List Value} {ks : List (List Nat)} {i : Nat} {t t' : Thing} (h : (inn vs ks)[i]? = some t) : ((R5 N g vN vP vS vK cN nP nS nK cP cS us vs ks).set (i + 5) t')[i + 5]? = some t' := by
  have hi := (List.getElem?_eq_some_iff.1 h).1
  show ((inn vs ks).set i t')[i]? = some t'
  rw [List.getElem?_set_self hi]
theorem rep_snoc {α : Type} (n : Nat) (x : α) : List.replicate n x ++ [x] = List.replicate (n + 1) x := List.replicate_succ'.symm
theorem siz_take {T : F} {i : Nat} {n : Nd} (h : (nodes T)[i]? = some n) : (sizF T).take i ++ [((n.c.size + 1 : Nat) : Int)] = (sizF T).take (i + 1) := by
  rw [List.take_add_one, sizF_nodes, List.getElem?_map, h]
  rfl
theorem siz_at {T : F} {i : Nat} {n : Nd} (h : (nodes T)[i]? = some n) : (sizF T)[i]? = some ((n.c.size + 1 : Nat) : Int) := by
  rw [sizF_nodes, List.getElem?_map, h]
  rfl
theorem nps_at {nps : List (Nd × Value)} {L : List Nd} (h : nps.map (·.1) = L) {i : Nat} {n : Nd} (hn : L[i]? = some n) : ∃ s, nps[i]? = some (n, s) := by
  rw [← h, List.getElem?_map] at hn
  cases hp : nps[i]? with
  | none => rw [hp] at hn; cases hn
  | some p =>
    rw [hp] at hn
    injection hn with hn
    exact ⟨p.2, by rw [← hn]⟩
theorem nd_size_le : ∀ (f : F) (i : Nat) (n : Nd), (nodes f)[i]? = some n → n.c.size + 1 ≤ f.size := fun f i n h => by
  have := (sub_nodes f i n h).1
  omega

/-- The end of Of. -/
theorem refOf_end {w w1 w' : World} {B0 B N g : Nat} (h0 : B0 ≤ w.heap.size) {vN vP vS vK : Value} {cN us : List Value} {nps : List (Nd × Value)} {T : F} (h1 : Below w.heap.size w w1) (h2 : Below w.heap.size w1 w') (hB : w.heap.size ≤ B)
    (hF : Fam w' B (R5 N g vN vP vS vK cN N N N ((parF (-1) 0 T).map iv) ((sizF T).map iv) us us (kidF 0 T))) (hn : nps.map (·.1) = nodes T) (hf : ∀ p ∈ nps, Fs w1 (Lo B0) p.2 p.1.c) (hT : T.size = N) (hu : us.length = N) (hc : nps.flatMap ndC = cN) :
    OfPost B0 w T (.returned (.agg #[vN, vP, vS, vK])) w' := by
  refine ⟨h1.trans h2, vN, vP, vS, vK, us, nps, rfl, ?_, hn, fun p hp => (hf p hp).below h2 h0, by rw [hu, hT]⟩
  have hl : nps.length = N := by
    have := congrArg List.length hn
    rwa [List.length_map, nodes_len, hT] at this
  unfold planR rowI
  rw [hl, parF_len, sizF_len, hT, hu, hc]
  exact (hF.sub (List.Sublist.cons_cons _ (List.Sublist.cons _ (List.Sublist.refl _)))).less hB

set_option maxRecDepth 100000 in
set_option maxHeartbeats 16000000 in
theorem refOf_any (k : Int) (x y : ByteArray) (A : Option Addr) (n C : Nat) (c : F) (m : Nat) (w : World) (B0 : Nat) (hB0 : B0 ≤ w.heap.size) (hf : Fs w (Lo B0) (.slice A n C) c) (hm : c.size + 1 ≤ m) (hm2 : m ≤ 100000) :
    Calls Tryd.prog 11 #[.agg #[.int .i64 k, .string x, .string y, .slice A n C], .int .i64 (m : Int)] w (OfPost B0 w (one k x y c)) := by
  obtain ⟨i0, hi0, hz0, hz1, hz2⟩ := info_parts int_info
  obtain ⟨i1, hi1, hy0, hy1, hy2⟩ := info_parts ints_info
  have b1 := below1 w (.cells #[.int .i64 k, .string x, .string y, .slice A n C] 24)
  obtain ⟨z, hz⟩ : ∃ z : Array Value, z = #[.slice none 0 0, .slice none 0 0, .slice none 0 0, .slice none 0 0] := ⟨_, rfl⟩
  have b2 := below1 (w.alloc (.cells #[.int .i64 k, .string x, .string y, .slice A n C] 24)) (.cells #[.slice none 0 0, .slice none 0 0, .slice none 0 0, .slice none 0 0] 32)
  have b3 := b1.trans (b2.mono b1.size)
  have hN : (⟨k, x, y, c⟩ :: nodes c : List Nd).take m = nodes (one k x y c) := by rw [one_nodes]; exact List.take_of_length_le (by rw [List.length_cons, nodes_len]; exact hm)
  have HC := nodes_any c.size k x y A n C c m B0 _ (Nat.le_refl _) (hf.below b3 hB0) (Nat.le_trans hB0 b3.size) (by omega) hm2
  have HB00 := Lib.hid hB0
  rw [hN] at HC
  have HC := Lib.hid HC
  have HB0 := Lib.hid b3
  have HTS : Hid ((one k x y c).size ≤ m) := by show _ ≤ _; rw [one_size]; exact hm
  have HM2 := Lib.hid hm2
  have HT1 : Hid (1 ≤ (one k x y c).size) := by show _ ≤ _; rw [one_size]; omega
  have HFS := Lib.hid hf
  have HALL : Hid (∀ ps, ParIs (parF (-1) 0 (one k x y c)) (kidF 0 (one k x y c)) (one k x y c).size 0 ps → ps = parF (-1) 0 (one k x y c)) := fun ps h => h.all
  generalize one k x y c = T at *
  obtain ⟨B, hBB⟩ : ∃ B, w.heap.size + 1 + 1 = B := ⟨_, rfl⟩
  have HBB := Lib.hid hBB
  clear hf hm hm2 hN b1 b2 b3 hz z hB0
  go_enter Tryd.func11, Tryd.ntmps11
  go_wp2_with fail
  refine HC.out.mono ?_
  rintro e w1 ⟨⟨v1, rfl, nps, hnp, hown, hfs⟩, hb⟩
  obtain ⟨aN, cNp, rfl, hcN, hcN'⟩ := own_slice' hown
  have HB1 := Lib.hid (HB0.out.trans (hb.mono HB0.out.size))
  have HNP := Lib.hid hnp
  have HFS1 := Lib.hid hfs
  rw [nodes_len] at hown hcN ⊢
  have hown2 : w1.ownsRow B 24 4 (.slice aN T.size cNp) T.size (nps.flatMap ndC) := own_ge' hown (by have := HBB.out; simp; omega)
  have hBw1 : B ≤ w1.heap.size := by have h1 := hb.size; have h2 := HBB.out; simp at h1; omega
  have HRC : Hid (w1.heap[w.heap.size + 1]? = some (.cells #[.slice none 0 0, .slice none 0 0, .slice none 0 0, .slice none 0 0] 32 (0, 0))) := (hb.block _ (by simp)).trans (blk2' _ _ _)
  have HF1 := Lib.hid (fam_start (own_fam hown2 hBw1))
  have HB2 := Lib.hid (below1 w1 (.cells #[.slice aN T.size cNp, .slice none 0 0, .slice none 0 0, .slice none 0 0] 32))
  obtain ⟨N, hNs⟩ : ∃ N, T.size = N := ⟨_, rfl⟩
  rw [hNs] at HF1 HB2 HT1 HTS hcN ⊢
  have HN := Lib.hid hNs
  obtain ⟨cN, hcNe⟩ : ∃ cN, nps.flatMap ndC = cN := ⟨_, rfl⟩
  rw [hcNe] at HF1
  have HCN := Lib.hid hcNe
  clear hown hown2 hb hnp hfs hcNe hNs HC hcN' hBB
  obtain ⟨g, hg⟩ : ∃ g, w1.heap.size = g := ⟨_, rfl⟩
  have HG := Lib.hid hg
  obtain ⟨gN, rfl⟩ : ∃ gN, aN = some ⟨gN, 0, none⟩ := by
    obtain ⟨g', c', h', _, _⟩ := HF1.out.sliceAt (i := 0) rfl HT1.out
    injection h' with h' _ _
    exact ⟨g', h'⟩
  rw [hg] at HF1
  go_wp2
  obtain ⟨w2, hw2⟩ : ∃ w2, w1.alloc (.cells #[.slice (some ⟨gN, 0, none⟩) N cNp, .slice none 0 0, .slice none 0 0, .slice none 0 0] 32) = w2 := ⟨_, rfl⟩
  rw [hw2] at HF1 HB2 ⊢
  replace HB2 : Hid (Below B w1 w2) := HB2.out.mono hBw1
  clear hg hw2 HG
  have hN5 : N ≤ 100000 := by have := HTS.out; have := HM2.out; omega
  go_loopw [6] (fun s6 wr => ∃ (i : Nat) (vP vS vK : Value) (cP cS us : List Value) (ks : List (List Nat)), i ≤ N ∧ s6 = .int .i64 (i : Int) ∧ Hid (cP = (List.replicate i (-1)).map iv) ∧ Hid (cS = ((sizF T).take i).map iv) ∧ Hid (us = List.replicate i (.slice none 0 0)) ∧ Hid (ks = List.replicate i []) ∧ Hid (Fam wr B (R5 N g (.slice (some ⟨gN, 0, none⟩) N cNp) (vP) (vS) (vK) cN (i) (i) (i) (cP) (cS) (us) (us) (ks))) ∧ Hid (Below B w1 wr)) (fun s _ => N - (intOf s).toNat)
  case atStart => exact ⟨0, _, _, _, [], [], [], [], Nat.zero_le _, rfl, rfl, rfl, rfl, rfl, HF1.out, HB2.out⟩
  case round =>
    obtain ⟨i, vP, vS, vK, cP, cS, us, ks, hi, rfl, HcP, HcS, Hus, Hks, HF, HB⟩ := hrel
    obtain ⟨⟨q0, q1, q2, q3⟩, z0, z1, z2, z3⟩ := box_at HF.out (j := 1) rfl
    by_cases hlt : i < N
    · have hlt' : (i : Int) < (N : Int) := by omega
      have hi0' : (0 : Int) ≤ (i : Int) := by omega
      obtain ⟨⟨nk, nx, ny, nc⟩, hnd⟩ : ∃ nd, (nodes T)[i]? = some nd := ⟨_, List.getElem?_eq_getElem (by rw [nodes_len, HN.out]; exact hlt)⟩
      obtain ⟨s, hs⟩ := nps_at HNP.out hnd
      have hsf : Fs w1 (Lo B0) s nc := HFS1.out _ (List.mem_of_getElem? hs)
      obtain ⟨As, Cs, rfl, _, _⟩ := hsf.slice
      have hnz := nd_size_le T i _ hnd
      obtain ⟨ln, hln⟩ : ∃ ln, nc.len = ln := ⟨_, rfl⟩
      have HSF : Hid (Fs w1 (Lo B0) (.slice As ln Cs) nc) := by rw [← hln]; exact hsf
      have HTK := Lib.hid (siz_take hnd)
      have HLT := Lib.hid hlt
      have HSZ : Hid (∀ W, Below B w1 W → Calls Tryd.prog 20 #[.agg #[.int .i64 nk, .string nx, .string ny, .slice As ln Cs], .int .i64 (m : Int)] W fun e w' => e = .returned (.int .i64 ((nc.size + 1 : Nat) : Int)) ∧ Below W.heap.size W w') := fun W hW => by
        have := refSize_any nk nx ny As ln Cs nc m W ((HSF.out.below hW (by have := HBB.out; have := HB00.out; omega)).up (Nat.le_trans HB00.out (Nat.le_trans HB1.out.size hW.size))) (by have := HT1.out; have := HTS.out; omega) HM2.out
        rwa [show min (nc.size + 1) m = nc.size + 1 by have := HTS.out; have := HN.out; simp only at hnz; omega] at this
      rw [hln] at hs
      have HNS := Lib.hid hs
      generalize nc.size + 1 = sz at *
      clear hnd hsf hnz hln hs z0 z1 z2 z3
      go_wp2
      clear q0 q1 q2 q3
      refine region_inv2 (AG wr B (fun jj => ([some (.pointer (some ⟨g, 2, none⟩)), some (vS), some (.pointer (some ⟨g, 0, none⟩)), some (.slice (some ⟨gN, 0, none⟩) N cNp), some (.int .i64 (i : Int)), some (.pointer (some ⟨gN, i * 4, none⟩)), some (.agg #[.int .i64 nk, .string nx, .string ny, .slice As ln Cs]), some (.int .i64 (m : Int)), some (.int .i64 (sz : Int)), none, none, some (.pointer (some ⟨g, 2, none⟩)), none] : List (Option Value)).getD jj none) 9 10 12 (R5 N g (.slice (some ⟨gN, 0, none⟩) N cNp) (vP) (vS) (vK) cN (i) (i) (i) (cP) (cS) (us) (us) (ks)) ([.int .i64 (sz : Int)]) (fun v => (R5 N g (.slice (some ⟨gN, 0, none⟩) N cNp) (vP) (vS) (vK) cN (i) (i) (i) (cP) (cS) (us) (us) (ks)).set 3 (rowT 3 1 v (i + 1) (cS ++ [iv (sz : Int)]))) (fun v => R5 N g (.slice (some ⟨gN, 0, none⟩) N cNp) (vP) (v) (vK) cN (i) (i + 1) (i) (cP) (cS ++ [iv (sz : Int)]) (us) (us) (ks))) (by kernel_rfl) (by decide) (by kernel_rfl) (fun _ => AG.start HF.out) ?steps ?done
      case steps =>
        intro L xv W hI hcl a ha
        have hBW : B ≤ W.heap.size := Nat.le_trans (show B ≤ wr.heap.size from HF.out.B) hI.bel.size
        simp only [fillA] at ha
        simp only [List.setIfInBounds_toArray, List.set_cons_succ, List.set_cons_zero, Nat.zero_add, Nat.reduceAdd] at ha
        subst ha
        refine ⟨fun hL hd K hK => ?s0, fun hL hd K hK => ?s1, fun hL hd K hK => ?s2, fun hL hd K hK => ?s3, fun hL hd K hK => ?s4, fun hL hd K hK => ?s5, fun hL hd K hK => ?s6, fun hL hd K hK => ?s7, fun hL hd K hK => ?s8, fun hL hd K hK => ?s9, fun hL hd K hK => ?s10, fun hL hd K hK => ?s11, fun hL hd K hK => ?s12, trivial⟩
        case s0 =>
          clear hd
          simp only [Act.put, List.setIfInBounds_toArray, List.set_cons_succ, List.set_cons_zero] at hK
          refine (if_pos (by rfl)).mpr ?_
          go_simp
          exact hK.out _ _ (hI.quiet hBW (Below.refl _ _) rfl (by decide) (by decide) (by decide))
        case s1 =>
          have hx0 : xv 0 = .pointer (some ⟨g, 2, none⟩) := hI.kc 0 _ rfl (hd 0 (by kernel_rfl))
          have hF := hI.f0 (notRun (i := 1) (r := 10) hcl hL (by kernel_rfl))
          clear hd
          obtain ⟨⟨q0, q1, q2, q3⟩, z0, z1, z2, z3⟩ := box_at hF (j := 1) rfl
          simp only [Act.put, List.setIfInBounds_toArray, List.set_cons_succ, List.set_cons_zero] at hK
          rw [hx0] at hK ⊢
          refine (if_pos (by rfl)).mpr ?_
          go_simp
          exact hK.out _ _ (hI.quiet hBW (Below.refl _ _) rfl (by decide) (by decide) (by decide))
        case s2 =>
          clear hd
          simp only [Act.put, List.setIfInBounds_toArray, List.set_cons_succ, List.set_cons_zero] at hK
          refine (if_pos (by rfl)).mpr ?_
          go_simp
          exact hK.out _ _ (hI.quiet hBW (Below.refl _ _) rfl (by decide) (by decide) (by decide))
        case s3 =>
          have hx2 : xv 2 = .pointer (some ⟨g, 0, none⟩) := hI.kc 2 _ rfl (hd 2 (by kernel_rfl))
          have hF := hI.f0 (notRun (i := 9) (r := 10) hcl (notRun (i := 8) (r := 9) hcl (notRun (i := 6) (r := 8) hcl (notRun (i := 5) (r := 6) hcl (notRun (i := 3) (r := 5) hcl hL (by kernel_rfl)) (by kernel_rfl)) (by kernel_rfl)) (by kernel_rfl)) (by kernel_rfl))
          clear hd
          obtain ⟨⟨q0, q1, q2, q3⟩, z0, z1, z2, z3⟩ := box_at hF (j := 1) rfl
          simp only [Act.put, List.setIfInBounds_toArray, List.set_cons_succ, List.set_cons_zero] at hK
          rw [hx2] at hK ⊢
          refine (if_pos (by rfl)).mpr ?_
          go_simp
          exact hK.out _ _ (hI.quiet hBW (Below.refl _ _) rfl (by decide) (by decide) (by decide))
        case s4 =>
          clear hd
          simp only [Act.put, List.setIfInBounds_toArray, List.set_cons_succ, List.set_cons_zero] at hK
          refine (if_pos (by rfl)).mpr ?_
          go_simp
          exact hK.out _ _ (hI.quiet hBW (Below.refl _ _) rfl (by decide) (by decide) (by decide))
        case s5 =>
          have hx3 : xv 3 = .slice (some ⟨gN, 0, none⟩) N cNp := hI.kc 3 _ rfl (hd 3 (by kernel_rfl))
          have hx4 : xv 4 = .int .i64 (i : Int) := hI.kc 4 _ rfl (hd 4 (by kernel_rfl))
          clear hd
          simp only [Act.put, List.setIfInBounds_toArray, List.set_cons_succ, List.set_cons_zero] at hK
          rw [hx3] at hK ⊢
          rw [hx4] at hK ⊢
          refine (if_pos (by rfl)).mpr ?_
          go_simp
          exact hK.out _ _ (hI.quiet hBW (Below.refl _ _) rfl (by decide) (by decide) (by decide))
        case s6 =>
          have hx5 : xv 5 = .pointer (some ⟨gN, i * 4, none⟩) := hI.kc 5 _ rfl (hd 5 (by kernel_rfl))
          have hF := hI.f0 (notRun (i := 9) (r := 10) hcl (notRun (i := 8) (r := 9) hcl (notRun (i := 6) (r := 8) hcl hL (by kernel_rfl)) (by kernel_rfl)) (by kernel_rfl))
          clear hd
          obtain ⟨y0, y1, y2, y3⟩ := node_at (j := 0) (nps := nps) hF (by rw [HCN.out]; rfl) HNS.out
          simp only [Act.put, List.setIfInBounds_toArray, List.set_cons_succ, List.set_cons_zero] at hK
          rw [hx5] at hK ⊢
          refine (if_pos (by rfl)).mpr ?_
          go_simp
          exact hK.out _ _ (hI.quiet hBW (Below.refl _ _) rfl (by decide) (by decide) (by decide))
        case s7 =>
          clear hd
          simp only [Act.put, List.setIfInBounds_toArray, List.set_cons_succ, List.set_cons_zero] at hK
          refine (if_pos (by rfl)).mpr ?_
          go_simp
          exact hK.out _ _ (hI.quiet hBW (Below.refl _ _) rfl (by decide) (by decide) (by decide))
        case s8 =>
          have hx6 : xv 6 = .agg #[.int .i64 nk, .string nx, .string ny, .slice As ln Cs] := hI.kc 6 _ rfl (hd 6 (by kernel_rfl))
          have hx7 : xv 7 = .int .i64 (m : Int) := hI.kc 7 _ rfl (hd 7 (by kernel_rfl))
          have hF := hI.f0 (notRun (i := 9) (r := 10) hcl (notRun (i := 8) (r := 9) hcl hL (by kernel_rfl)) (by kernel_rfl))
          clear hd
          simp only [Act.put, List.setIfInBounds_toArray, List.set_cons_succ, List.set_cons_zero] at hK
          rw [hx6] at hK ⊢
          rw [hx7] at hK ⊢
          refine (if_pos (by rfl)).mpr ?_
          go_simp
          go_at_call 20
          refine (HSZ.out W (HB.out.trans hI.bel)).mono ?_
          rintro e W' ⟨rfl, hb⟩
          exact hK.out _ _ (hI.quiet hBW hb rfl (by decide) (by decide) (by decide))
        case s9 =>
          have hx8 : xv 8 = .int .i64 (sz : Int) := hI.kc 8 _ rfl (hd 8 (by kernel_rfl))
          clear hd
          simp only [Act.put, List.setIfInBounds_toArray, List.set_cons_succ, List.set_cons_zero] at hK
          rw [hx8] at hK ⊢
          refine (if_pos (by rfl)).mpr ?_
          have hbn := below1 W (.cells #[.int .i64 (sz : Int)] 3)
          have hcn := new_cells W [.int .i64 (sz : Int)] 3
          go_simp
          exact hK.out _ _ (hI.build hBW hbn rfl (by decide) (by decide) rfl hcn)
        case s10 =>
          have hx1 : xv 1 = vS := hI.kc 1 _ rfl (hd 1 (by kernel_rfl))
          have hF := hI.f0 hL
          obtain ⟨gb, cb, hxb, hcb⟩ := hI.fb (hd 9 (by kernel_rfl)) hL
          obtain ⟨v', W', hr, hf, hb, _⟩ := hF.run_app1 (i := 3) rfl _ Tryd.underlying27 hi0 hz0 hz1 hz2 rfl (by decide) (by decide) rfl hcb (by intro u hu; rw [List.mem_singleton.1 hu]; rfl) (by have := HTS.out; have := HM2.out; omega)
          simp only [Act.put, List.setIfInBounds_toArray, List.set_cons_succ, List.set_cons_zero] at hK
          rw [hx1] at hK ⊢
          rw [hxb] at hK ⊢
          refine (if_pos (by rfl)).mpr ?_
          exact op_append rfl rfl rfl hr (hK.out _ _ (hI.app rfl (by decide) hL hb hf))
        case s11 =>
          clear hd
          simp only [Act.put, List.setIfInBounds_toArray, List.set_cons_succ, List.set_cons_zero] at hK
          refine (if_pos (by rfl)).mpr ?_
          go_simp
          exact hK.out _ _ (hI.quiet hBW (Below.refl _ _) rfl (by decide) (by decide) (by decide))
        case s12 =>
          have hx11 : xv 11 = .pointer (some ⟨g, 2, none⟩) := hI.kc 11 _ rfl (hd 11 (by kernel_rfl))
          have hA := hd 10 (by kernel_rfl)
          have hF := hI.f1 hA hL
          clear hd
          obtain ⟨⟨q0, q1, q2, q3⟩, z0, z1, z2, z3⟩ := box_at hF (j := 1) rfl
          obtain ⟨aS, cS, hxS, _, _⟩ := hF.slice (i := 3) rfl
          have hFS := hF.store (i := 1) rfl (2) (xv 10)
          rw [show W.setCell ⟨g, 2, none⟩ (xv 10) = W.setCell ⟨g, 2, none⟩ (.slice aS _ cS) from by rw [hxS]] at hFS
          simp only [Act.put] at hK
          rw [hx11] at hK ⊢
          rw [hxS] at hK ⊢
          refine (if_pos (by rfl)).mpr ?_
          go_simp
          exact hK.out undef _ (hI.store rfl (by decide) hA hFS.2 hFS.1)
      case done =>
        intro L xv W hI hall a ha
        have hF := hI.f2 (hall 12 (by decide))
        have hBl := hI.bel
        have hx0 : xv 0 = .pointer (some ⟨g, 2, none⟩) := hI.kc 0 _ rfl (hall 0 (by decide))
        have hx1 : xv 1 = vS := hI.kc 1 _ rfl (hall 1 (by decide))
        have hx2 : xv 2 = .pointer (some ⟨g, 0, none⟩) := hI.kc 2 _ rfl (hall 2 (by decide))
        have hx3 : xv 3 = .slice (some ⟨gN, 0, none⟩) N cNp := hI.kc 3 _ rfl (hall 3 (by decide))
        have hx4 : xv 4 = .int .i64 (i : Int) := hI.kc 4 _ rfl (hall 4 (by decide))
        have hx5 : xv 5 = .pointer (some ⟨gN, i * 4, none⟩) := hI.kc 5 _ rfl (hall 5 (by decide))
        have hx6 : xv 6 = .agg #[.int .i64 nk, .string nx, .string ny, .slice As ln Cs] := hI.kc 6 _ rfl (hall 6 (by decide))
        have hx7 : xv 7 = .int .i64 (m : Int) := hI.kc 7 _ rfl (hall 7 (by decide))
        have hx8 : xv 8 = .int .i64 (sz : Int) := hI.kc 8 _ rfl (hall 8 (by decide))
        have hx11 : xv 11 = .pointer (some ⟨g, 2, none⟩) := hI.kc 11 _ rfl (hall 11 (by decide))
        simp only [fillA] at ha
        simp only [List.setIfInBounds_toArray, List.set_cons_succ, List.set_cons_zero, Nat.zero_add, Nat.reduceAdd] at ha
        subst ha
        clear hI hall
        obtain ⟨v5, hv5⟩ : ∃ v5, xv 10 = v5 := ⟨_, rfl⟩
        rw [hv5] at hF
        try rw [hv5]
        have HF5 : Hid (Fam W B (R5 N g (.slice (some ⟨gN, 0, none⟩) N cNp) (vP) (v5) (vK) cN (i) (i + 1) (i) (cP) (cS ++ [iv (sz : Int)]) (us) (us) (ks))) := hF
        have HB5 := Lib.hid (HB.out.trans hBl)
        clear hx0 hx1 hx2 hx3 hx4 hx5 hx6 hx7 hx8 hx11 hF hBl hv5 HF HB HSZ HSF HNS
        obtain ⟨⟨q0, q1, q2, q3⟩, z0, z1, z2, z3⟩ := box_at HF5.out (j := 1) rfl
        go_wp2_with (at_builtin; refine list_app1 (i := 2) HF5.out rfl rfl _ _ rfl Tryd.underlying27 hi0 hz0 hz1 hz2 rfl (by decide) rfl _ 1 (by simp) rfl rfl (by have := HTS.out; have := HM2.out; omega) ?_)
        intro v6 w6 hf6 hb6
        obtain ⟨⟨q0', q1', q2', q3'⟩, z0', z1', z2', z3'⟩ := box_at hf6 (j := 1) rfl
        obtain ⟨a6, c6, rfl, _, _⟩ := hf6.slice (i := 2) rfl
        have hs6 := hf6.store (i := 1) rfl 1 (.slice a6 (i + 1) c6)
        have HF6 : Hid (Fam (w6.setCell ⟨g, 1, none⟩ (.slice a6 (i + 1) c6)) B (R5 N g (.slice (some ⟨gN, 0, none⟩) N cNp) (.slice a6 (i + 1) c6) (v5) (vK) cN (i + 1) (i + 1) (i) (cP ++ [iv (-1)]) (cS ++ [iv (sz : Int)]) (us) (us) (ks))) := hs6.1
        have HB6 := Lib.hid ((HB5.out.trans hb6).trans hs6.2)
        clear q0 q1 q2 q3 z0 z1 z2 z3 q0' q2' q3' z0' z2' z3' hf6 hb6 hs6 HF5 HB5
        obtain ⟨⟨q0, q1, q2, q3⟩, z0, z1, z2, z3⟩ := box_at HF6.out (j := 1) rfl
        go_wp2_with (at_builtin; refine list_app1 (i := 4) HF6.out rfl rfl _ _ rfl Tryd.underlying28 hi1 hy0 hy1 hy2 rfl (by decide) rfl _ 1 (by simp) rfl rfl (by have := HTS.out; have := HM2.out; omega) ?_)
        intro v7 w7 hf7 hb7
        obtain ⟨⟨p0, p1, p2, p3⟩, y0, y1, y2, y3⟩ := box_at hf7 (j := 1) rfl
        obtain ⟨a7, c7, rfl, _, _⟩ := hf7.slice (i := 4) rfl
        have hs7 := hf7.store (i := 1) rfl 3 (.slice a7 (i + 1) c7)
        have hs7' : Fam (w7.setCell ⟨g, 3, none⟩ (.slice a7 (i + 1) c7)) B (R5 N g (.slice (some ⟨gN, 0, none⟩) N cNp) (.slice a6 (i + 1) c6) (v5) (.slice a7 (i + 1) c7) cN (i + 1) (i + 1) (i + 1) (cP ++ [iv (-1)]) (cS ++ [iv (sz : Int)]) (us ++ [.slice none 0 0]) (us) (ks)) := hs7.1
        have hlen : us.length = ks.length := by rw [Hus.out, Hks.out]; simp
        have hs8 := r5_nil hs7' hlen
        have E1 : Hid (cP ++ [iv (-1)] = (List.replicate (i + 1) (-1)).map iv) := by show _ = _; rw [← rep_snoc i (-1 : Int), List.map_append, HcP.out]; rfl
        have E2 : Hid (cS ++ [iv (sz : Int)] = ((sizF T).take (i + 1)).map iv) := by show _ = _; rw [← HTK.out, List.map_append, HcS.out]; rfl
        have E3 : Hid (us ++ [.slice none 0 0] = List.replicate (i + 1) (.slice none 0 0)) := by show _ = _; rw [Hus.out, rep_snoc]
        have E4 : Hid (ks ++ [[]] = List.replicate (i + 1) []) := by show _ = _; rw [Hks.out, rep_snoc]
        have HF8 := Lib.hid hs8
        have HB8 := Lib.hid ((HB6.out.trans hb7).trans hs7.2)
        clear q0 q1 q2 q3 z0 z1 z2 z3 q1' z1' p0 p1 p2 y0 y1 y2 hf7 hb7 hs7 hs7' hs8 hlen HF6 HB6 HTK HcP HcS Hus Hks
        go_wp2
        go_roundw
        case rel => exact ⟨i + 1, _, _, _, _, _, _, _, (by have := HLT.out; omega), by go_num, E1, E2, E3, E4, HF8.out, HB8.out⟩
        case measure => have := HLT.out; simp [intOf]; omega
    · obtain rfl : N = i := by omega
      obtain ⟨gP, cPp, rfl, _, _⟩ := HF.out.sliceAt (i := 2) rfl HT1.out
      obtain ⟨gS, cSp, rfl, _, _⟩ := HF.out.sliceAt (i := 3) rfl HT1.out
      obtain ⟨gK, cKp, rfl, _, _⟩ := HF.out.sliceAt (i := 4) rfl HT1.out
      have HCS : Hid (cS = (sizF T).map iv) := by
        show _ = _
        rw [HcS.out, List.take_of_length_le (by rw [sizF_len, HN.out]; exact Nat.le_refl _)]
      have HKS : Hid (ks = soFar (kidF 0 T) 0 0) := by
        show _ = _
        rw [Hks.out, soFar_start, kidF_len, HN.out]
      have HPI : Hid (ParIs (parF (-1) 0 T) (kidF 0 T) 0 0 (List.replicate N (-1))) := by
        have := ParIs.start (parF (-1) 0 T) (kidF 0 T)
        rwa [parF_len, HN.out] at this
      have HUL : Hid (us.length = N) := by show _ = _; rw [Hus.out, List.length_replicate]
      clear HcS Hks Hus hlt
      go_wp2
      clear q0 q1 q2 q3 z0 z1 z2 z3
      go_loopw [7] (fun s7 wr => ∃ (i : Nat) (ps : List Int) (us cp : List Value) (kk : List (List Nat)), i ≤ N ∧ s7 = .int .i64 (i : Int) ∧ Hid (ParIs (parF (-1) 0 T) (kidF 0 T) i 0 ps) ∧ Hid (us.length = N) ∧ Hid (cp = ps.map iv) ∧ Hid (kk = soFar (kidF 0 T) i 0) ∧ Hid (Fam wr B (R5 N g (.slice (some ⟨gN, 0, none⟩) N cNp) (.slice (some ⟨gP, 0, none⟩) N cPp) (.slice (some ⟨gS, 0, none⟩) N cSp) (.slice (some ⟨gK, 0, none⟩) N cKp) cN (N) (N) (N) (cp) (cS) (us) (us) (kk))) ∧ Hid (Below B w1 wr)) (fun s _ => N - (intOf s).toNat)
      case atStart => exact ⟨0, _, us, cP, ks, Nat.zero_le _, rfl, HPI.out, HUL.out, HcP.out, HKS.out, HF.out, HB.out⟩
      case round =>
        clear HF HB HPI HUL HcP HKS
        obtain ⟨i, ps, us, cp, kk, hi, rfl, HPI, HUL, HCP, HKK, HF, HB⟩ := hrel
        obtain ⟨⟨q0, q1, q2, q3⟩, z0, z1, z2, z3⟩ := box_at HF.out (j := 1) rfl
        by_cases hlt : i < N
        · have hlt' : (i : Int) < (N : Int) := by omega
          have hi0' : (0 : Int) ≤ (i : Int) := by omega
          have HLT := Lib.hid hlt
          obtain ⟨⟨nk, nx, ny, nc⟩, hnd⟩ : ∃ nd, (nodes T)[i]? = some nd := ⟨_, List.getElem?_eq_getElem (by rw [nodes_len, HN.out]; exact hlt)⟩
          have HND := Lib.hid hnd
          have HKI : Hid ((kidF 0 T)[i]? = some (places (i + 1) nc)) := by
            have := kidF_at T 0 i _ hnd
            rwa [Nat.zero_add] at this
          obtain ⟨s, hs⟩ := nps_at HNP.out hnd
          have hsf : Fs w1 (Lo B0) s nc := HFS1.out _ (List.mem_of_getElem? hs)
          obtain ⟨As, Cs, rfl, _, _⟩ := hsf.slice
          obtain ⟨ln, hln⟩ : ∃ ln, nc.len = ln := ⟨_, rfl⟩
          rw [hln] at hs
          have HNS := Lib.hid hs
          have HLN := Lib.hid hln
          have HLL : Hid ((places (i + 1) nc).length = ln) := by show _ = _; rw [places_len]; exact hln
          have hln5 : ln ≤ 100000 := by
            have h1 := nd_size_le T i _ hnd
            have h2 := F.len_le_size nc
            have h3 := HN.out
            simp only at h1
            omega
          clear hnd hsf hln hs z0 z1 z2 z3
          go_wp2
          clear q0 q1 q2 q3
          go_loopw [8, 9] (fun s8 s9 wr => ∃ (j kp : Nat) (ps : List Int) (us cp : List Value) (kk : List (List Nat)), j ≤ ln ∧ kp ≤ 1000000 ∧ s8 = .int .i64 (kp : Int) ∧ s9 = .int .i64 (j : Int) ∧ Hid (PosAt (i + 1) nc j kp) ∧ Hid (ParIs (parF (-1) 0 T) (kidF 0 T) i j ps) ∧ Hid (us.length = N) ∧ Hid (cp = ps.map iv) ∧ Hid (kk = soFar (kidF 0 T) i j) ∧ Hid (Fam wr B (R5 N g (.slice (some ⟨gN, 0, none⟩) N cNp) (.slice (some ⟨gP, 0, none⟩) N cPp) (.slice (some ⟨gS, 0, none⟩) N cSp) (.slice (some ⟨gK, 0, none⟩) N cKp) cN (N) (N) (N) (cp) (cS) (us) (us) (kk))) ∧ Hid (Below B w1 wr)) (fun _ s _ => ln - (intOf s).toNat)
          case atStart => exact ⟨0, i + 1, ps, us, cp, kk, Nat.zero_le _, by omega, by go_num, rfl, posAt_start _ _, HPI.out, HUL.out, HCP.out, HKK.out, HF.out, HB.out⟩
          case round =>
            clear HF HB HPI HUL HCP HKK
            obtain ⟨j, kp, ps, us, cp, kk, hj, hkp5, rfl, rfl, HPO, HPI, HUL, HCP, HKK, HF, HB⟩ := hrel
            obtain ⟨⟨q0, q1, q2, q3⟩, z0, z1, z2, z3⟩ := box_at HF.out (j := 1) rfl
            obtain ⟨y0, y1, y2, y3⟩ := node_at (j := 0) (nps := nps) HF.out (by rw [HCN.out]; rfl) HNS.out
            by_cases hjl : j < ln
            · have hj0 : (0 : Int) ≤ (j : Int) := by omega
              have hjl' : (j : Int) < (ln : Int) := by omega
              have HJL := Lib.hid hjl
              obtain ⟨kk', kx', ky', kc', kr', hdr, hdr2⟩ := F.drop_cons (n := j) (f := nc) (by rw [HLN.out]; exact hjl)
              obtain ⟨hkp1, hkp2, hkp3, hkp4⟩ := posAt_step HND.out HPO.out hdr
              rw [HN.out] at hkp4
              have hsub := (sub_nodes T kp _ hkp3).1
              rw [HN.out] at hsub
              have hpar := (par_at T (-1) 0 i kp _ HKI.out (List.mem_of_getElem? hkp1)).1
              rw [Nat.sub_zero, Nat.zero_add] at hpar
              have HPI2 := Lib.hid (HPI.out.step HKI.out hkp1 hpar)
              have HPO2 := Lib.hid hkp2
              have HSF2 := Lib.hid (soFar_step HKI.out hkp1)
              have HSA := Lib.hid (soFar_at (j := j) HKI.out)
              have HZK : Hid (cS[kp]? = some (.int .i64 ((kc'.size + 1 : Nat) : Int))) := by
                show _ = _
                rw [HCS.out, List.getElem?_map, siz_at hkp3]
                rfl
              obtain ⟨o, ho⟩ : ∃ o, ps[kp]? = some o := ⟨_, List.getElem?_eq_getElem (by rw [HPI.out.len, parF_len, HN.out]; exact hkp4)⟩
              have hcpk : cp[kp]? = some (.int .i64 o) := by rw [HCP.out, List.getElem?_map, ho]; rfl
              have hPk := HF.out.cell (i := 2) rfl hcpk
              have zPk := HF.out.frz (i := 2) rfl kp
              obtain ⟨lj, hlj⟩ : ∃ lj, (places (i + 1) nc).take j = lj := ⟨_, rfl⟩
              rw [hlj] at HSA HSF2
              have hkN : kp + (kc'.size + 1) ≤ 1000000 := by simp only at hsub; omega
              have hk4' : (kp : Int) < (N : Int) := by omega
              have hk0 : (0 : Int) ≤ (kp : Int) := by omega
              obtain ⟨sz, hsz⟩ : ∃ sz, kc'.size + 1 = sz := ⟨_, rfl⟩
              rw [hsz] at HZK hkN HPO2
              have hs1 := HF.out.store (i := 2) rfl kp (.int .i64 (i : Int))
              have hcp2 : Hid (cp.set kp (.int .i64 (i : Int)) = (ps.set kp (i : Int)).map iv) := by show _ = _; rw [HCP.out, List.map_set]
              obtain ⟨cp2, hcpe⟩ : ∃ cp2, cp.set kp (.int .i64 (i : Int)) = cp2 := ⟨_, rfl⟩
              have HF1' : Hid (Fam (wr.setCell ⟨gP, kp, none⟩ (.int .i64 (i : Int))) B (R5 N g (.slice (some ⟨gN, 0, none⟩) N cNp) (.slice (some ⟨gP, 0, none⟩) N cPp) (.slice (some ⟨gS, 0, none⟩) N cSp) (.slice (some ⟨gK, 0, none⟩) N cKp) cN (N) (N) (N) (cp.set kp (.int .i64 (i : Int))) (cS) (us) (us) (kk))) := hs1.1
              rw [hcpe] at hcp2 HF1'
              have HB1' := Lib.hid (HB.out.trans hs1.2)
              obtain ⟨u, hu⟩ : ∃ u, us[i]? = some u := ⟨_, List.getElem?_eq_getElem (by rw [HUL.out]; exact HLT.out)⟩
              have HUI := Lib.hid hu
              have HKL : Hid (kk[i]? = some lj) := by show _ = _; rw [HKK.out]; exact HSA.out
              have HLJ : Hid (lj.length ≤ 100000) := by
                show _ ≤ _
                rw [← hlj, List.length_take, HLL.out]; omega
              have HKN : Hid (kk.length = N) := by show _ = _; rw [HKK.out, soFar_len, kidF_len, HN.out]
              clear hdr hdr2 hkp1 hkp2 hkp3 hkp4 hsub hpar ho hcpk hs1 hcpe hlj hu hjl hsz
              go_wp2
              refine region_inv2 (AG (wr.setCell ⟨gP, kp, none⟩ (.int .i64 (i : Int))) B (fun jj => ([some (.pointer (some ⟨g, 3, none⟩)), some (.slice (some ⟨gK, 0, none⟩) N cKp), some (.int .i64 (i : Int)), some (.pointer (some ⟨g, 3, none⟩)), some (.slice (some ⟨gK, 0, none⟩) N cKp), some (.int .i64 (i : Int)), some (.pointer (some ⟨gK, i, none⟩)), some (u), some (.int .i64 (kp : Int)), none, none, some (.pointer (some ⟨gK, i, none⟩)), none] : List (Option Value)).getD jj none) 9 10 12 (R5 N g (.slice (some ⟨gN, 0, none⟩) N cNp) (.slice (some ⟨gP, 0, none⟩) N cPp) (.slice (some ⟨gS, 0, none⟩) N cSp) (.slice (some ⟨gK, 0, none⟩) N cKp) cN (N) (N) (N) (cp2) (cS) (us) (us) (kk)) ([.int .i64 (kp : Int)]) (fun v => (R5 N g (.slice (some ⟨gN, 0, none⟩) N cNp) (.slice (some ⟨gP, 0, none⟩) N cPp) (.slice (some ⟨gS, 0, none⟩) N cSp) (.slice (some ⟨gK, 0, none⟩) N cKp) cN (N) (N) (N) (cp2) (cS) (us) (us) (kk)).set (i + 5) (rowT 3 1 v (lj.length + 1) (lj.map nv ++ [.int .i64 (kp : Int)]))) (fun v => ((R5 N g (.slice (some ⟨gN, 0, none⟩) N cNp) (.slice (some ⟨gP, 0, none⟩) N cPp) (.slice (some ⟨gS, 0, none⟩) N cSp) (.slice (some ⟨gK, 0, none⟩) N cKp) cN (N) (N) (N) (cp2) (cS) (us) (us) (kk)).set (i + 5) (rowT 3 1 v (lj.length + 1) (lj.map nv ++ [.int .i64 (kp : Int)]))).set 4 (rowT 27 1 (.slice (some ⟨gK, 0, none⟩) N cKp) N (us.set i v)))) (by kernel_rfl) (by decide) (by kernel_rfl) (fun _ => AG.start HF1'.out) ?steps ?done
              case steps =>
                intro L xv W hI hcl a ha
                have hBW : B ≤ W.heap.size := Nat.le_trans (show B ≤ (wr.setCell ⟨gP, kp, none⟩ (.int .i64 (i : Int))).heap.size from HF1'.out.B) hI.bel.size
                simp only [fillA] at ha
                simp only [List.setIfInBounds_toArray, List.set_cons_succ, List.set_cons_zero, Nat.zero_add, Nat.reduceAdd] at ha
                subst ha
                refine ⟨fun hL hd K hK => ?s0, fun hL hd K hK => ?s1, fun hL hd K hK => ?s2, fun hL hd K hK => ?s3, fun hL hd K hK => ?s4, fun hL hd K hK => ?s5, fun hL hd K hK => ?s6, fun hL hd K hK => ?s7, fun hL hd K hK => ?s8, fun hL hd K hK => ?s9, fun hL hd K hK => ?s10, fun hL hd K hK => ?s11, fun hL hd K hK => ?s12, trivial⟩
                case s0 =>
                  clear hd
                  simp only [Act.put, List.setIfInBounds_toArray, List.set_cons_succ, List.set_cons_zero] at hK
                  refine (if_pos (by rfl)).mpr ?_
                  go_simp
                  exact hK.out _ _ (hI.quiet hBW (Below.refl _ _) rfl (by decide) (by decide) (by decide))
                case s1 =>
                  have hx0 : xv 0 = .pointer (some ⟨g, 3, none⟩) := hI.kc 0 _ rfl (hd 0 (by kernel_rfl))
                  have hany : W.cell? ⟨g, 3, none⟩ = some (.slice (some ⟨gK, 0, none⟩) N cKp) := by
                    cases hA : L 10 with
                    | false => have hF := hI.f0 hA; exact (box_at hF (j := 1) rfl).1.2.2.2
                    | true => have hF := hI.f1 hA (notRun (i := 11) (r := 12) hcl (notRun (i := 1) (r := 11) hcl hL (by kernel_rfl)) (by kernel_rfl)); exact (box_at hF (j := 1) rfl).1.2.2.2
                  clear hd
                  simp only [Act.put, List.setIfInBounds_toArray, List.set_cons_succ, List.set_cons_zero] at hK
                  rw [hx0] at hK ⊢
                  refine (if_pos (by rfl)).mpr ?_
                  go_simp
                  exact hK.out _ _ (hI.quiet hBW (Below.refl _ _) rfl (by decide) (by decide) (by decide))
                case s2 =>
                  clear hd
                  simp only [Act.put, List.setIfInBounds_toArray, List.set_cons_succ, List.set_cons_zero] at hK
                  refine (if_pos (by rfl)).mpr ?_
                  go_simp
                  exact hK.out _ _ (hI.quiet hBW (Below.refl _ _) rfl (by decide) (by decide) (by decide))
                case s3 =>
                  clear hd
                  simp only [Act.put, List.setIfInBounds_toArray, List.set_cons_succ, List.set_cons_zero] at hK
                  refine (if_pos (by rfl)).mpr ?_
                  go_simp
                  exact hK.out _ _ (hI.quiet hBW (Below.refl _ _) rfl (by decide) (by decide) (by decide))
                case s4 =>
                  have hx3 : xv 3 = .pointer (some ⟨g, 3, none⟩) := hI.kc 3 _ rfl (hd 3 (by kernel_rfl))
                  have hF := hI.f0 (notRun (i := 7) (r := 10) hcl (notRun (i := 6) (r := 7) hcl (notRun (i := 4) (r := 6) hcl hL (by kernel_rfl)) (by kernel_rfl)) (by kernel_rfl))
                  clear hd
                  obtain ⟨⟨q0, q1, q2, q3⟩, z0, z1, z2, z3⟩ := box_at hF (j := 1) rfl
                  simp only [Act.put, List.setIfInBounds_toArray, List.set_cons_succ, List.set_cons_zero] at hK
                  rw [hx3] at hK ⊢
                  refine (if_pos (by rfl)).mpr ?_
                  go_simp
                  exact hK.out _ _ (hI.quiet hBW (Below.refl _ _) rfl (by decide) (by decide) (by decide))
                case s5 =>
                  clear hd
                  simp only [Act.put, List.setIfInBounds_toArray, List.set_cons_succ, List.set_cons_zero] at hK
                  refine (if_pos (by rfl)).mpr ?_
                  go_simp
                  exact hK.out _ _ (hI.quiet hBW (Below.refl _ _) rfl (by decide) (by decide) (by decide))
                case s6 =>
                  have hx4 : xv 4 = .slice (some ⟨gK, 0, none⟩) N cKp := hI.kc 4 _ rfl (hd 4 (by kernel_rfl))
                  have hx5 : xv 5 = .int .i64 (i : Int) := hI.kc 5 _ rfl (hd 5 (by kernel_rfl))
                  clear hd
                  simp only [Act.put, List.setIfInBounds_toArray, List.set_cons_succ, List.set_cons_zero] at hK
                  rw [hx4] at hK ⊢
                  rw [hx5] at hK ⊢
                  refine (if_pos (by rfl)).mpr ?_
                  go_simp
                  exact hK.out _ _ (hI.quiet hBW (Below.refl _ _) rfl (by decide) (by decide) (by decide))
                case s7 =>
                  have hx6 : xv 6 = .pointer (some ⟨gK, i, none⟩) := hI.kc 6 _ rfl (hd 6 (by kernel_rfl))
                  have hF := hI.f0 (notRun (i := 7) (r := 10) hcl hL (by kernel_rfl))
                  clear hd
                  have hku := hF.cell (i := 4) rfl HUI.out
                  simp only [Act.put, List.setIfInBounds_toArray, List.set_cons_succ, List.set_cons_zero] at hK
                  rw [hx6] at hK ⊢
                  refine (if_pos (by rfl)).mpr ?_
                  go_simp
                  exact hK.out _ _ (hI.quiet hBW (Below.refl _ _) rfl (by decide) (by decide) (by decide))
                case s8 =>
                  clear hd
                  simp only [Act.put, List.setIfInBounds_toArray, List.set_cons_succ, List.set_cons_zero] at hK
                  refine (if_pos (by rfl)).mpr ?_
                  go_simp
                  exact hK.out _ _ (hI.quiet hBW (Below.refl _ _) rfl (by decide) (by decide) (by decide))
                case s9 =>
                  have hx8 : xv 8 = .int .i64 (kp : Int) := hI.kc 8 _ rfl (hd 8 (by kernel_rfl))
                  clear hd
                  simp only [Act.put, List.setIfInBounds_toArray, List.set_cons_succ, List.set_cons_zero] at hK
                  rw [hx8] at hK ⊢
                  refine (if_pos (by rfl)).mpr ?_
                  have hbn := below1 W (.cells #[.int .i64 (kp : Int)] 3)
                  have hcn := new_cells W [.int .i64 (kp : Int)] 3
                  go_simp
                  exact hK.out _ _ (hI.build hBW hbn rfl (by decide) (by decide) rfl hcn)
                case s10 =>
                  have hx7 : xv 7 = u := hI.kc 7 _ rfl (hd 7 (by kernel_rfl))
                  have hF := hI.f0 hL
                  obtain ⟨gb, cb, hxb, hcb⟩ := hI.fb (hd 9 (by kernel_rfl)) hL
                  obtain ⟨v', W', hr, hf, hb, _⟩ := hF.run_app1 (i := i + 5) (inn_at HUI.out HKL.out) _ Tryd.underlying27 hi0 hz0 hz1 hz2 rfl (by decide) (by decide) rfl hcb (by intro u hu; rw [List.mem_singleton.1 hu]; rfl) (by have := HLJ.out; omega)
                  simp only [Act.put, List.setIfInBounds_toArray, List.set_cons_succ, List.set_cons_zero] at hK
                  rw [hx7] at hK ⊢
                  rw [hxb] at hK ⊢
                  refine (if_pos (by rfl)).mpr ?_
                  exact op_append rfl rfl rfl hr (hK.out _ _ (hI.app rfl (by decide) hL hb hf))
                case s11 =>
                  have hx1 : xv 1 = .slice (some ⟨gK, 0, none⟩) N cKp := hI.kc 1 _ rfl (hd 1 (by kernel_rfl))
                  have hx2 : xv 2 = .int .i64 (i : Int) := hI.kc 2 _ rfl (hd 2 (by kernel_rfl))
                  clear hd
                  simp only [Act.put, List.setIfInBounds_toArray, List.set_cons_succ, List.set_cons_zero] at hK
                  rw [hx1] at hK ⊢
                  rw [hx2] at hK ⊢
                  refine (if_pos (by rfl)).mpr ?_
                  go_simp
                  exact hK.out _ _ (hI.quiet hBW (Below.refl _ _) rfl (by decide) (by decide) (by decide))
                case s12 =>
                  have hx11 : xv 11 = .pointer (some ⟨gK, i, none⟩) := hI.kc 11 _ rfl (hd 11 (by kernel_rfl))
                  have hA := hd 10 (by kernel_rfl)
                  have hF := hI.f1 hA hL
                  clear hd
                  have hku := hF.cell (i := 4) rfl HUI.out
                  have zku := hF.frz (i := 4) rfl i
                  obtain ⟨aS, cS, hxS, _, _⟩ := hF.slice (i := i + 5) (show ((R5 N g (.slice (some ⟨gN, 0, none⟩) N cNp) (.slice (some ⟨gP, 0, none⟩) N cPp) (.slice (some ⟨gS, 0, none⟩) N cSp) (.slice (some ⟨gK, 0, none⟩) N cKp) cN (N) (N) (N) (cp2) (cS) (us) (us) (kk)).set (i + 5) (rowT 3 1 (xv 10) (lj.length + 1) (lj.map nv ++ [.int .i64 (kp : Int)])))[i + 5]? = some (rowT 3 1 (xv 10) (lj.length + 1) (lj.map nv ++ [.int .i64 (kp : Int)])) from r5_at (inn_at HUI.out HKL.out))
                  have hFS := hF.store (i := 4) rfl (i) (xv 10)
                  rw [show W.setCell ⟨gK, i, none⟩ (xv 10) = W.setCell ⟨gK, i, none⟩ (.slice aS _ cS) from by rw [hxS]] at hFS
                  simp only [Act.put] at hK
                  rw [hx11] at hK ⊢
                  rw [hxS] at hK ⊢
                  refine (if_pos (by rfl)).mpr ?_
                  go_simp
                  exact hK.out undef _ (hI.store rfl (by decide) hA hFS.2 hFS.1)
              case done =>
                intro L xv W hI hall a ha
                have hF := hI.f2 (hall 12 (by decide))
                have hBl := hI.bel
                have hx0 : xv 0 = .pointer (some ⟨g, 3, none⟩) := hI.kc 0 _ rfl (hall 0 (by decide))
                have hx1 : xv 1 = .slice (some ⟨gK, 0, none⟩) N cKp := hI.kc 1 _ rfl (hall 1 (by decide))
                have hx2 : xv 2 = .int .i64 (i : Int) := hI.kc 2 _ rfl (hall 2 (by decide))
                have hx3 : xv 3 = .pointer (some ⟨g, 3, none⟩) := hI.kc 3 _ rfl (hall 3 (by decide))
                have hx4 : xv 4 = .slice (some ⟨gK, 0, none⟩) N cKp := hI.kc 4 _ rfl (hall 4 (by decide))
                have hx5 : xv 5 = .int .i64 (i : Int) := hI.kc 5 _ rfl (hall 5 (by decide))
                have hx6 : xv 6 = .pointer (some ⟨gK, i, none⟩) := hI.kc 6 _ rfl (hall 6 (by decide))
                have hx7 : xv 7 = u := hI.kc 7 _ rfl (hall 7 (by decide))
                have hx8 : xv 8 = .int .i64 (kp : Int) := hI.kc 8 _ rfl (hall 8 (by decide))
                have hx11 : xv 11 = .pointer (some ⟨gK, i, none⟩) := hI.kc 11 _ rfl (hall 11 (by decide))
                simp only [fillA] at ha
                simp only [List.setIfInBounds_toArray, List.set_cons_succ, List.set_cons_zero, Nat.zero_add, Nat.reduceAdd] at ha
                subst ha
                clear hI hall
                obtain ⟨v5, hv5⟩ : ∃ v5, xv 10 = v5 := ⟨_, rfl⟩
                rw [hv5] at hF
                try rw [hv5]
                rw [r5_put (l' := lj ++ [kp]) (by rw [HUL.out, HKN.out]) (by simp) (by simp), HKK.out, HSF2.out] at hF
                have HF9 := Lib.hid hF
                have HB9 := Lib.hid (HB1'.out.trans hBl)
                have HUL9 : Hid ((us.set i v5).length = N) := by show _ = _; rw [List.length_set]; exact HUL.out
                clear hx0 hx1 hx2 hx3 hx4 hx5 hx6 hx7 hx8 hx11 hF hBl hv5 HF HB HF1' HB1' HUI HKL
                obtain ⟨us9, hus9⟩ : ∃ us9, us.set i v5 = us9 := ⟨_, rfl⟩
                rw [hus9] at HF9 HUL9
                clear hus9
                obtain ⟨⟨q0, q1, q2, q3⟩, z0, z1, z2, z3⟩ := box_at HF9.out (j := 1) rfl
                have hzk := HF9.out.cell (i := 3) rfl HZK.out
                go_wp2
                go_roundw
                case rel => exact ⟨j + 1, kp + sz, _, _, _, _, (by have := HJL.out; omega), hkN, by go_num, by go_num, HPO2.out, HPI2.out, HUL9.out, hcp2.out, rfl, HF9.out, HB9.out⟩
                case measure => have := HJL.out; simp [intOf]; omega
            · obtain rfl : ln = j := by omega
              have hjl' : ¬ (ln : Int) < (ln : Int) := by omega
              have HPN : Hid (ParIs (parF (-1) 0 T) (kidF 0 T) (i + 1) 0 ps) := by
                have h := HPI.out
                rw [← HLL.out] at h
                exact h.next HKI.out
              have HKN2 : Hid (kk = soFar (kidF 0 T) (i + 1) 0) := by
                show _ = _
                have h := soFar_next HKI.out
                rw [HLL.out] at h
                rw [HKK.out, h]
              clear hjl
              go_wp2
              go_roundw
              case rel => exact ⟨i + 1, _, _, _, _, (by have := HLT.out; omega), by go_num, HPN.out, HUL.out, HCP.out, HKN2.out, HF.out, HB.out⟩
              case measure => have := HLT.out; simp [intOf]; omega
        · obtain rfl : N = i := by omega
          have hlt' : ¬ (N : Int) < (N : Int) := by omega
          have hps := HALL.out ps (by have := HPI.out; rwa [← HN.out] at this)
          have hkk : kk = kidF 0 T := by rw [HKK.out]; exact soFar_all _ _ (by rw [kidF_len, HN.out]; exact Nat.le_refl _)
          have hcp : cp = (parF (-1) 0 T).map iv := by rw [HCP.out, hps]
          have hF := HF.out
          rw [hcp, HCS.out, hkk] at hF
          have HF := Lib.hid hF
          have hrc : wr.heap[w.heap.size + 1]? = some (.cells #[.slice none 0 0, .slice none 0 0, .slice none 0 0, .slice none 0 0] 32 (0, 0)) := (HB.out.block _ (by have := HBB.out; omega)).trans HRC.out
          obtain ⟨y0, y1, y2, y3⟩ : wr.cell? ⟨w.heap.size + 1, 0, none⟩ = some (.slice none 0 0) ∧ wr.cell? ⟨w.heap.size + 1, 1, none⟩ = some (.slice none 0 0) ∧ wr.cell? ⟨w.heap.size + 1, 2, none⟩ = some (.slice none 0 0) ∧ wr.cell? ⟨w.heap.size + 1, 3, none⟩ = some (.slice none 0 0) := by
            refine ⟨?_, ?_, ?_, ?_⟩ <;> simp [World.cell?, hrc]
          obtain ⟨f0, f1, f2, f3⟩ : wr.frozen? ⟨w.heap.size + 1, 0, none⟩ = false ∧ wr.frozen? ⟨w.heap.size + 1, 1, none⟩ = false ∧ wr.frozen? ⟨w.heap.size + 1, 2, none⟩ = false ∧ wr.frozen? ⟨w.heap.size + 1, 3, none⟩ = false := by
            refine ⟨?_, ?_, ?_, ?_⟩ <;> simp [World.frozen?, hrc]
          have HFIN := Lib.hid (set_here (set_here (set_here (set_here hrc 0 (.slice (some ⟨gN, 0, none⟩) N cNp)) 1 (.slice (some ⟨gP, 0, none⟩) N cPp)) 2 (.slice (some ⟨gS, 0, none⟩) N cSp)) 3 (.slice (some ⟨gK, 0, none⟩) N cKp))
          have hgB : w.heap.size + 1 < B := by have := HBB.out; omega
          have HEND := Lib.hid ((((HF.out.setLow hgB 0 (.slice (some ⟨gN, 0, none⟩) N cNp)).setLow hgB 1 (.slice (some ⟨gP, 0, none⟩) N cPp)).setLow hgB 2 (.slice (some ⟨gS, 0, none⟩) N cSp)).setLow hgB 3 (.slice (some ⟨gK, 0, none⟩) N cKp))
          have HBE := Lib.hid (((((HB.out.mono (show w.heap.size ≤ B by omega)).setCell (p := ⟨w.heap.size + 1, 0, none⟩) (Nat.le_succ _) (.slice (some ⟨gN, 0, none⟩) N cNp)).setCell (p := ⟨w.heap.size + 1, 1, none⟩) (Nat.le_succ _) (.slice (some ⟨gP, 0, none⟩) N cPp)).setCell (p := ⟨w.heap.size + 1, 2, none⟩) (Nat.le_succ _) (.slice (some ⟨gS, 0, none⟩) N cSp)).setCell (p := ⟨w.heap.size + 1, 3, none⟩) (Nat.le_succ _) (.slice (some ⟨gK, 0, none⟩) N cKp))
          have HWB := Lib.hid (show w.heap.size ≤ B by omega)
          clear hF hps hkk hcp hrc HPI HCP HKK HCS hlt hgB z0 z1 z2 z3 HB HF
          go_wp2
          refine bodyPost_ret (results_cell_row rfl _ _ (w.heap.size + 1) 32 _ (0, 0) _ rfl HFIN.out Tryd.underlying32 rfl (by kernel_rfl)) rfl ?_
          exact refOf_end HB00.out HB1.out HBE.out HWB.out HEND.out HNP.out HFS1.out HN.out HUL.out HCN.out
end Go.Proofs.YtmknghhgcecafaaDoor.Shape
