/-
  Layer 10 (shape): the document's own Marks: which nodes are alike, number by number. Written by gen_shaperefmarks.py.
-/
import Derived.Test.YtmknghhgcecafaaDoorShapeRefOf
namespace Go.Proofs.YtmknghhgcecafaaDoor.Shape
open Go.ChangeShapes Go.WideShapes Go.ChangeAt Go.RowKit Mem Tree
set_option linter.unusedVariables false

/-- What a call of Marks gives. -/
def MarksPost (w : World) (K : List (List Nat)) (e : Ending) (w' : World) : Prop := Below w.heap.size w w' ∧ ∃ vO us, e = .returned vO ∧ Fam w' w.heap.size (rowT 27 1 vO us.length us :: inn us K) ∧ us.length = K.length
/-- What Marks owns between trees: the nodes seen, the answer. -/
def M2 (vS : Value) (nS : Nat) (cS : List Value) (vO : Value) (nO : Nat) (us : List Value) (K : List (List Nat)) : List Thing :=
  rowT 24 4 vS nS cS :: rowT 27 1 vO nO us :: inn us K
/-- Within a tree: also its own numbers, its nodes. -/
def M4 (vW : Value) (nW : Nat) (cW : List Value) (vN : Value) (nN : Nat) (cN : List Value) (R : List Thing) : List Thing :=
  rowT 3 1 vW nW cW :: rowT 24 4 vN nN cN :: R
theorem m4_of {w w' : World} {B nN : Nat} {R : List Thing} {vN : Value} {cN : List Value} (h : Fam w B R) (hb : Below w.heap.size w w') (ho : w'.ownsRow w.heap.size 24 4 vN nN cN) : Fam w' B (M4 (.slice none 0 0) 0 [] vN nN cN R) := by
  have h1 := h.cons (t := rowT 24 4 vN nN cN) (grown_none hb) (own_zero ho) (own_ge ho)
  exact h1.cons (t := rowT 3 1 (.slice none 0 0) 0 []) (World.grownBy.refl w' none) (World.ownsRow_nil w' 0 _ _) (fun k hk => by cases hk)
/-- A tree is through: its numbers are one more row of the answer. -/
theorem m2_of {w : World} {B nS nN nO n : Nat} {vS vN vW vO : Value} {cS cN us us' : List Value} {K : List (List Nat)} {l : List Nat} (h : Fam w B (M4 vW n (l.map nv) vN nN cN (rowT 24 4 vS nS cS :: rowT 27 1 vO nO us' :: inn us K))) (hn : n = l.length) (hl : us.length = K.length) (hu : us' = us ++ [vW]) (ho : nO = (us ++ [vW]).length) : Fam w B (M2 vS nS cS vO (us ++ [vW]).length (us ++ [vW]) (K ++ [l])) := by
  subst hn; subst hu; subst ho
  unfold M2
  rw [← inn_snoc us K vW l hl]
  have hp : (M4 vW l.length (l.map nv) vN nN cN (rowT 24 4 vS nS cS :: rowT 27 1 vO (us ++ [vW]).length (us ++ [vW]) :: inn us K)).Perm (rowT 24 4 vN nN cN :: rowT 24 4 vS nS cS :: rowT 27 1 vO (us ++ [vW]).length (us ++ [vW]) :: (inn us K ++ [rowT 3 1 vW l.length (l.map nv)])) :=
    List.perm_append_comm (l₁ := [rowT 3 1 vW l.length (l.map nv)]) (l₂ := rowT 24 4 vN nN cN :: rowT 24 4 vS nS cS :: rowT 27 1 vO (us ++ [vW]).length (us ++ [vW]) :: inn us K)
  exact (h.perm hp).sub (List.sublist_cons_self _ _)

def lim (i : Nat) : Nat := i * 100000
theorem lim_next (i : Nat) : lim (i + 1) = lim i + 100000 := Nat.succ_mul i 100000
theorem lim_le {i : Nat} (h : i ≤ 50) : lim i ≤ 5000000 := Nat.mul_le_mul_right 100000 h
theorem fs_len' {w : World} {S : Nat → Prop} {A : Option Addr} {n C : Nat} {f : F} (hf : Fs w S (.slice A n C) f) : n = f.len := by
  obtain ⟨_, _, e, _⟩ := hf.slice
  injection e
theorem back_fs {w w' : World} {B : Nat} {v : Value} {f : F} (h : Fs w' (Lo B) v f) (hb : Below B w w') : Fs w (Lo B) v f := h.keep fun b hb' => (hb.block b hb').symm
set_option maxRecDepth 100000 in
set_option maxHeartbeats 16000000 in
theorem refMarks_any (A : Option Addr) (n C : Nat) (l : F) (m : Nat) (w : World) (hf : Fs w (Lo w.heap.size) (.slice A n C) l) (hm : ∀ j k x y c r, l.drop j = .cons k x y c r → c.size + 1 ≤ m) (hm1 : 1 ≤ m) (hm2 : m ≤ 100000) (hn5 : n ≤ 50) :
    Calls Tryd.prog 16 #[.slice A n C, .int .i64 (m : Int)] w (MarksPost w (marksF [] l)) := by
  obtain ⟨i0, hi0, hz0, hz1, hz2⟩ := info_parts int_info
  obtain ⟨i1, hi1, hy0, hy1, hy2⟩ := info_parts ints_info
  obtain ⟨i4, hi4, hx0, hx1, hx2⟩ := info_parts node_info
  have HF0 := Lib.hid hf
  have HM := Lib.hid hm
  have HM1 := Lib.hid hm1
  have HM2 := Lib.hid hm2
  have HLN : Hid (l.len = n) := (fs_len' hf).symm
  obtain ⟨B, hB⟩ : ∃ B, w.heap.size = B := ⟨_, rfl⟩
  have HFS : Hid (Fam w B (M2 (.slice none 0 0) 0 [] (.slice none 0 0) 0 [] [])) := by
    have h := Fam.nil w
    rw [hB] at h
    exact (h.nilRow (e := 24) (sz := 4)).nilRow (e := 27) (sz := 1)
  rw [hB] at HF0
  have HBB := Lib.hid hB
  clear hf hm hm1 hm2 hB
  go_enter Tryd.func16, Tryd.ntmps16
  go_wp2
  go_loopw [5, 6, 7] (fun s5 s6 s7 wr => ∃ (i : Nat) (vO vS : Value) (us : List Value) (K : List (List Nat)) (sps : List (Nd × Value)), i ≤ n ∧ s7 = .int .i64 (i : Int) ∧ vO = s5 ∧ vS = s6 ∧ Hid (us.length = K.length) ∧ Hid (K.length = i) ∧ Hid (sps.length ≤ lim i) ∧ Hid (marksF [] l = K ++ marksF (sps.map (·.1)) (l.drop i)) ∧ Hid (∀ p ∈ sps, Fs w (Lo B) p.2 p.1.c ∧ p.1.c.size ≤ 100000) ∧ Hid (Fam wr B (M2 vS sps.length (sps.flatMap ndC) (vO) (us.length) (us) (K))) ∧ Hid (Below B w wr)) (fun _ _ s _ => n - (intOf s).toNat)
  case atStart => exact ⟨0, _, _, [], [], [], Nat.zero_le _, rfl, rfl, rfl, rfl, rfl, Nat.zero_le _, rfl, (fun p hp => by cases hp), HFS.out, Below.refl _ _⟩
  case round =>
    clear HFS
    obtain ⟨i, vO, vS, us, K, sps, hi, rfl, rfl, rfl, HUK, HKI, HSL, HEQ, HSP, HF, HB⟩ := hrel
    by_cases hlt : i < n
    · have hlt' : (i : Int) < (n : Int) := by omega
      have hi0' : (0 : Int) ≤ (i : Int) := by omega
      have HLT := Lib.hid hlt
      obtain ⟨kk, kx, ky, kc, kr, hdr, hdr2⟩ := F.drop_cons (n := i) (f := l) (by rw [HLN.out]; exact hlt)
      obtain ⟨b, off, s, rfl, hbB, _, hat⟩ := HF0.out.at_ hdr
      obtain ⟨As, Cs, rfl, _, _⟩ := hat.kids.slice
      obtain ⟨ln, hln⟩ : ∃ ln, kc.len = ln := ⟨_, rfl⟩
      rw [hln] at hat
      obtain ⟨c0, c1, c2, c3⟩ : wr.cell? ⟨b, off + i * 4, none⟩ = some (.int .i64 kk) ∧ wr.cell? ⟨b, off + i * 4 + 1, none⟩ = some (.string kx) ∧ wr.cell? ⟨b, off + i * 4 + 2, none⟩ = some (.string ky) ∧ wr.cell? ⟨b, off + i * 4 + 3, none⟩ = some (.slice As ln Cs) :=
        ⟨(HB.out.cell (p := ⟨b, off + i * 4, none⟩) hbB).trans hat.c0, (HB.out.cell (p := ⟨b, off + i * 4 + 1, none⟩) hbB).trans hat.c1, (HB.out.cell (p := ⟨b, off + i * 4 + 2, none⟩) hbB).trans hat.c2, (HB.out.cell (p := ⟨b, off + i * 4 + 3, none⟩) hbB).trans hat.c3⟩
      have hkm := HM.out i kk kx ky kc kr hdr
      have hN : (⟨kk, kx, ky, kc⟩ :: nodes kc : List Nd).take m = nodes (one kk kx ky kc) := by rw [one_nodes]; exact List.take_of_length_le (by rw [List.length_cons, nodes_len]; exact hkm)
      have HC := nodes_any kc.size kk kx ky As ln Cs kc m B wr (Nat.le_refl _) (hat.kids.below HB.out (Nat.le_refl _)) (Nat.le_trans HF.out.B (Nat.le_refl _)) HM1.out HM2.out
      rw [hN] at HC
      have HC := Lib.hid HC
      have HEQ2 : Hid (marksF [] l = K ++ ((markL (sps.map (·.1)) (nodes (one kk kx ky kc))).1 :: marksF (markL (sps.map (·.1)) (nodes (one kk kx ky kc))).2 (l.drop (i + 1)))) := by
        show _ = _
        rw [HEQ.out, hdr, hdr2]
        rfl
      have HNL : Hid ((nodes (one kk kx ky kc)).length ≤ 100000) := by
        show _ ≤ _
        rw [nodes_len, one_size]
        have := HM2.out
        omega
      have HLS : Hid (∀ (j : Nat) (nd : Nd), (nodes (one kk kx ky kc))[j]? = some nd → nd.c.size ≤ 100000) := fun j nd hj => by
        have h1 := nd_size_le _ j nd hj
        rw [one_size] at h1
        have := HM2.out
        omega
      clear hat hln hdr hdr2 hkm hN HEQ
      generalize nodes (one kk kx ky kc) = L at *
      obtain ⟨seen0, hs0⟩ : ∃ seen0, sps.map (·.1) = seen0 := ⟨_, rfl⟩
      rw [hs0] at HEQ2
      have Hs0 := Lib.hid hs0
      clear hs0
      go_wp2_with fail
      refine HC.out.mono ?_
      rintro e w1 ⟨⟨v1, rfl, nps, hnp, hown, hfs⟩, hb⟩
      obtain ⟨aN, cNp, rfl, _, _⟩ := own_slice' hown
      have HF1 := Lib.hid (m4_of HF.out hb hown)
      have HB1 := Lib.hid (HB.out.trans (hb.mono HF.out.B))
      have HNS : Hid (∀ p ∈ nps, Fs w (Lo B) p.2 p.1.c) := fun p hp => back_fs (hfs p hp) HB1.out
      have HNP := Lib.hid hnp
      obtain ⟨N, hN⟩ : ∃ N, L.length = N := ⟨_, rfl⟩
      rw [hN] at HF1 HNL ⊢
      have HN := Lib.hid hN
      obtain ⟨cN, hcN⟩ : ∃ cN, nps.flatMap ndC = cN := ⟨_, rfl⟩
      rw [hcN] at HF1
      have HCN := Lib.hid hcN
      clear hb hnp hown hfs hN hcN c0 c1 c2 c3 HC HF HB
      have HSL0 := Lib.hid (show sps.length ≤ lim i + 0 by have := HSL.out; omega)
      go_wp2
      go_loopw [6, 8, 10] (fun s6 s8 s10 wr => ∃ (k : Nat) (vS vW : Value) (sps : List (Nd × Value)) (wl : List Nat), k ≤ N ∧ s10 = .int .i64 (k : Int) ∧ vS = s6 ∧ vW = s8 ∧ Hid (wl.length = k) ∧ Hid (sps.length ≤ lim i + k) ∧ Hid ((markL seen0 L).1 = wl ++ (markL (sps.map (·.1)) (L.drop k)).1 ∧ (markL seen0 L).2 = (markL (sps.map (·.1)) (L.drop k)).2) ∧ Hid (∀ p ∈ sps, Fs w (Lo B) p.2 p.1.c ∧ p.1.c.size ≤ 100000) ∧ Hid (Fam wr B (M4 vW k (wl.map nv) (.slice aN N cNp) N cN (rowT 24 4 vS sps.length (sps.flatMap ndC) :: rowT 27 1 vO us.length us :: inn us K))) ∧ Hid (Below B w wr)) (fun _ _ s _ => N - (intOf s).toNat)
      case atStart => exact ⟨0, _, _, sps, [], Nat.zero_le _, rfl, rfl, rfl, rfl, HSL0.out, ⟨by rw [Hs0.out]; rfl, by rw [Hs0.out]; rfl⟩, HSP.out, HF1.out, HB1.out⟩
      case round =>
        clear HF1 HB1 HSP HSL Hs0
        obtain ⟨k, vS, vW, sps, wl, hk, rfl, rfl, rfl, HWL, HSL, HMK, HSP, HF, HB⟩ := hrel
        by_cases hkl : k < N
        · have hkl' : (k : Int) < (N : Int) := by omega
          have hk0 : (0 : Int) ≤ (k : Int) := by omega
          have HKL := Lib.hid hkl
          obtain ⟨gN, rfl⟩ : ∃ gN, aN = some ⟨gN, 0, none⟩ := by
            obtain ⟨g', c', h', _, _⟩ := HF.out.sliceAt (i := 1) rfl (by omega)
            injection h' with h' _ _
            exact ⟨g', h'⟩
          obtain ⟨⟨nk, nx, ny, nc⟩, hnd⟩ : ∃ nd, L[k]? = some nd := ⟨_, List.getElem?_eq_getElem (by rw [HN.out]; exact hkl)⟩
          obtain ⟨s, hs⟩ := nps_at HNP.out hnd
          have hsf : Fs w (Lo B) s nc := HNS.out _ (List.mem_of_getElem? hs)
          obtain ⟨As2, Cs2, rfl, _, _⟩ := hsf.slice
          have hnz := HLS.out k _ hnd
          obtain ⟨ln2, hln2⟩ : ∃ ln, nc.len = ln := ⟨_, rfl⟩
          rw [hln2] at hs hsf
          have HNS2 := Lib.hid hs
          have HSF := Lib.hid hsf
          have HNZ := Lib.hid hnz
          have hdk : L.drop k = ⟨nk, nx, ny, nc⟩ :: L.drop (k + 1) := by
            rw [List.drop_eq_getElem_cons (by rw [HN.out]; exact hkl)]
            congr 1
            exact Option.some.inj ((List.getElem?_eq_getElem _).symm.trans hnd)
          have HMK2 : Hid ((markL seen0 L).1 = wl ++ (firstAt (sps.map (·.1)) ⟨nk, nx, ny, nc⟩ :: (markL (seeN (sps.map (·.1)) ⟨nk, nx, ny, nc⟩) (L.drop (k + 1))).1) ∧ (markL seen0 L).2 = (markL (seeN (sps.map (·.1)) ⟨nk, nx, ny, nc⟩) (L.drop (k + 1))).2) := by
            have h := HMK.out
            rw [hdk] at h
            exact h
          obtain ⟨nS, hnS⟩ : ∃ nS, sps.length = nS := ⟨_, rfl⟩
          rw [hnS] at HF
          obtain ⟨aS, cSp, rfl, _, _⟩ := HF.out.slice (i := 2) rfl
          obtain ⟨wm, rfl⟩ : ∃ wm, wm = wr := ⟨_, rfl⟩
          have hN5 : N ≤ 100000 := HNL.out
          have hnS5 : nS ≤ 6000000 := by have h1 := HSL.out; have h2 := lim_le (show i ≤ 50 by omega); omega
          have HNSl := Lib.hid hnS
          clear hnd hs hsf hnz hln2 hdk HMK hnS
          go_wp2
          go_loopw [11] (fun s11 wr2 => ∃ a : Nat, a ≤ nS ∧ s11 = .int .i64 (a : Int) ∧ Hid (∀ b, b < a → ∀ s, (sps.map (·.1))[b]? = some s → sameN s ⟨nk, nx, ny, nc⟩ = false) ∧ Hid (Below wm.heap.size wm wr2)) (fun s _ => nS - (intOf s).toNat)
          case atStart => exact ⟨0, Nat.zero_le _, rfl, (fun b hb => absurd hb (Nat.not_lt_zero b)), Below.refl _ _⟩
          case round =>
            obtain ⟨at', ha, rfl, HNO, HB2⟩ := hrel
            have HA := Lib.hid ha
            by_cases hal : at' < nS
            · have hal' : (at' : Int) < (nS : Int) := by omega
              have ha0 : (0 : Int) ≤ (at' : Int) := by omega
              have HAL := Lib.hid hal
              obtain ⟨gS, rfl⟩ : ∃ gS, aS = some ⟨gS, 0, none⟩ := by
                obtain ⟨g', c', h', _, _⟩ := HF.out.sliceAt (i := 2) rfl (by omega)
                injection h' with h' _ _
                exact ⟨g', h'⟩
              obtain ⟨⟨⟨ek, ex, ey, ec⟩, se⟩, hse⟩ : ∃ p, sps[at']? = some p := ⟨_, List.getElem?_eq_getElem (by rw [HNSl.out]; exact hal)⟩
              have hsp : Fs w (Lo B) se ec ∧ ec.size ≤ 100000 := HSP.out _ (List.mem_of_getElem? hse)
              obtain ⟨As3, Cs3, rfl, _, _⟩ := hsp.1.slice
              obtain ⟨ln3, hln3⟩ : ∃ ln, ec.len = ln := ⟨_, rfl⟩
              rw [hln3] at hse hsp
              have HSE := Lib.hid hse
              have HEA : Hid ((sps.map (·.1))[at']? = some ⟨ek, ex, ey, ec⟩) := by show _ = _; rw [List.getElem?_map, hse]; rfl
              obtain ⟨bq, hbq⟩ : ∃ bq, sameN ⟨ek, ex, ey, ec⟩ ⟨nk, nx, ny, nc⟩ = bq := ⟨_, rfl⟩
              have HSM : Hid (∀ W, Below wm.heap.size wm W → Calls Tryd.prog 13 #[.agg #[.int .i64 ek, .string ex, .string ey, .slice As3 ln3 Cs3], .agg #[.int .i64 nk, .string nx, .string ny, .slice As2 ln2 Cs2]] W fun e w' => e = .returned (.bool bq) ∧ Below W.heap.size W w') := fun W hW => by
                have hWB := HB.out.trans (hW.mono HF.out.B)
                have hWs : B ≤ W.heap.size := Nat.le_trans HF.out.B hW.size
                have := rsame_any ec.size ek ex ey As3 ln3 Cs3 ec nk nx ny As2 ln2 Cs2 nc W (Nat.le_refl _) hsp.2 ((hsp.1.below hWB (Nat.le_refl _)).up hWs) ((HSF.out.below hWB (Nat.le_refl _)).up hWs)
                rwa [show sameT ek ex ey ec nk nx ny nc = bq from hbq] at this
              have HBQ := Lib.hid hbq
              clear hse hsp hln3 hbq hal
              cases bq with
              | false =>
                go_wp2
                refine region_rel (fun W W' => Below W.heap.size W W') [Cd.is (.int .i64 (at' : Int)), Cd.is (.slice (some ⟨gS, 0, none⟩) nS cSp), Cd.is (.int .i64 (nS : Int)), Cd.is (.bool true), Cd.is (.bool true), Cd.is (.slice (some ⟨gS, 0, none⟩) nS cSp), Cd.is (.int .i64 (at' : Int)), Cd.is (.pointer (some ⟨gS, at' * 4, none⟩)), Cd.is (.agg #[.int .i64 ek, .string ex, .string ey, .slice As3 ln3 Cs3]), Cd.is (.slice (some ⟨gN, 0, none⟩) N cNp), Cd.is (.int .i64 (k : Int)), Cd.is (.pointer (some ⟨gN, k * 4, none⟩)), Cd.is (.agg #[.int .i64 nk, .string nx, .string ny, .slice As2 ln2 Cs2]), Cd.is (.bool false), Cd.is (.bool true), Cd.is (.bool true)] (by kernel_rfl) (by decide) (by kernel_rfl) (Below.refl _ _) (fun _ _ _ h k => h.trans (k.mono h.size)) ?steps ?behind
                case steps =>
                  intro xv W hW a ha
                  replace hW := undrew hW
                  simp only [fillA] at ha
                  simp only [List.setIfInBounds_toArray, List.set_cons_succ, List.set_cons_zero, Nat.zero_add, Nat.reduceAdd] at ha
                  subst ha
                  refine ⟨fun hd K hK => ?s0, fun hd K hK => ?s1, fun hd K hK => ?s2, fun hd K hK => ?s3, fun hd K hK => ?s4, fun hd K hK => ?s5, fun hd K hK => ?s6, fun hd K hK => ?s7, fun hd K hK => ?s8, fun hd K hK => ?s9, fun hd K hK => ?s10, fun hd K hK => ?s11, fun hd K hK => ?s12, fun hd K hK => ?s13, fun hd K hK => ?s14, fun hd K hK => ?s15, trivial⟩
                  case s0 =>
                    clear hd
                    simp only [Act.put, List.setIfInBounds_toArray, List.set_cons_succ, List.set_cons_zero] at hK
                    refine (if_pos (by rfl)).mpr ?_
                    go_simp
                    exact hK.out _ _ (Below.refl _ _) rfl
                  case s1 =>
                    clear hd
                    simp only [Act.put, List.setIfInBounds_toArray, List.set_cons_succ, List.set_cons_zero] at hK
                    refine (if_pos (by rfl)).mpr ?_
                    go_simp
                    exact hK.out _ _ (Below.refl _ _) rfl
                  case s2 =>
                    have hx1 : xv 1 = .slice (some ⟨gS, 0, none⟩) nS cSp := hd 1 (by kernel_rfl)
                    clear hd
                    simp only [Act.put, List.setIfInBounds_toArray, List.set_cons_succ, List.set_cons_zero] at hK
                    rw [hx1] at hK ⊢
                    refine (if_pos (by rfl)).mpr ?_
                    go_simp
                    exact hK.out _ _ (Below.refl _ _) rfl
                  case s3 =>
                    have hx0 : xv 0 = .int .i64 (at' : Int) := hd 0 (by kernel_rfl)
                    have hx2 : xv 2 = .int .i64 (nS : Int) := hd 2 (by kernel_rfl)
                    clear hd
                    simp only [Act.put, List.setIfInBounds_toArray, List.set_cons_succ, List.set_cons_zero] at hK
                    rw [hx0] at hK ⊢
                    rw [hx2] at hK ⊢
                    refine (if_pos (by rfl)).mpr ?_
                    go_simp
                    exact hK.out _ _ (Below.refl _ _) rfl
                  case s4 =>
                    have hx3 : xv 3 = .bool true := hd 3 (by kernel_rfl)
                    clear hd
                    simp only [Act.put, List.setIfInBounds_toArray, List.set_cons_succ, List.set_cons_zero] at hK
                    rw [hx3] at hK ⊢
                    refine (if_pos (by rfl)).mpr ?_
                    go_simp
                    exact hK.out _ _ (Below.refl _ _) rfl
                  case s5 =>
                    have hx4 : xv 4 = .bool true := hd 4 (by kernel_rfl)
                    clear hd
                    simp only [Act.put, List.setIfInBounds_toArray, List.set_cons_succ, List.set_cons_zero] at hK
                    rw [hx4] at hK ⊢
                    refine (if_pos (by rfl)).mpr ?_
                    go_simp
                    exact hK.out _ _ (Below.refl _ _) rfl
                  case s6 =>
                    have hx4 : xv 4 = .bool true := hd 4 (by kernel_rfl)
                    clear hd
                    simp only [Act.put, List.setIfInBounds_toArray, List.set_cons_succ, List.set_cons_zero] at hK
                    rw [hx4] at hK ⊢
                    refine (if_pos (by rfl)).mpr ?_
                    go_simp
                    exact hK.out _ _ (Below.refl _ _) rfl
                  case s7 =>
                    have hx4 : xv 4 = .bool true := hd 4 (by kernel_rfl)
                    have hx5 : xv 5 = .slice (some ⟨gS, 0, none⟩) nS cSp := hd 5 (by kernel_rfl)
                    have hx6 : xv 6 = .int .i64 (at' : Int) := hd 6 (by kernel_rfl)
                    clear hd
                    simp only [Act.put, List.setIfInBounds_toArray, List.set_cons_succ, List.set_cons_zero] at hK
                    rw [hx4] at hK ⊢
                    rw [hx5] at hK ⊢
                    rw [hx6] at hK ⊢
                    refine (if_pos (by rfl)).mpr ?_
                    go_simp
                    exact hK.out _ _ (Below.refl _ _) rfl
                  case s8 =>
                    have hx4 : xv 4 = .bool true := hd 4 (by kernel_rfl)
                    have hx7 : xv 7 = .pointer (some ⟨gS, at' * 4, none⟩) := hd 7 (by kernel_rfl)
                    clear hd
                    simp only [Act.put, List.setIfInBounds_toArray, List.set_cons_succ, List.set_cons_zero] at hK
                    rw [hx4] at hK ⊢
                    rw [hx7] at hK ⊢
                    refine (if_pos (by rfl)).mpr ?_
                    have hF := HF.out.later (HB2.out.trans (hW.mono HB2.out.size))
                    obtain ⟨y0, y1, y2, y3⟩ := node_at (j := 2) (nps := sps) hF (by rfl) HSE.out
                    go_simp
                    exact hK.out _ _ (Below.refl _ _) rfl
                  case s9 =>
                    have hx4 : xv 4 = .bool true := hd 4 (by kernel_rfl)
                    clear hd
                    simp only [Act.put, List.setIfInBounds_toArray, List.set_cons_succ, List.set_cons_zero] at hK
                    rw [hx4] at hK ⊢
                    refine (if_pos (by rfl)).mpr ?_
                    go_simp
                    exact hK.out _ _ (Below.refl _ _) rfl
                  case s10 =>
                    have hx4 : xv 4 = .bool true := hd 4 (by kernel_rfl)
                    clear hd
                    simp only [Act.put, List.setIfInBounds_toArray, List.set_cons_succ, List.set_cons_zero] at hK
                    rw [hx4] at hK ⊢
                    refine (if_pos (by rfl)).mpr ?_
                    go_simp
                    exact hK.out _ _ (Below.refl _ _) rfl
                  case s11 =>
                    have hx4 : xv 4 = .bool true := hd 4 (by kernel_rfl)
                    have hx9 : xv 9 = .slice (some ⟨gN, 0, none⟩) N cNp := hd 9 (by kernel_rfl)
                    have hx10 : xv 10 = .int .i64 (k : Int) := hd 10 (by kernel_rfl)
                    clear hd
                    simp only [Act.put, List.setIfInBounds_toArray, List.set_cons_succ, List.set_cons_zero] at hK
                    rw [hx4] at hK ⊢
                    rw [hx9] at hK ⊢
                    rw [hx10] at hK ⊢
                    refine (if_pos (by rfl)).mpr ?_
                    go_simp
                    exact hK.out _ _ (Below.refl _ _) rfl
                  case s12 =>
                    have hx4 : xv 4 = .bool true := hd 4 (by kernel_rfl)
                    have hx11 : xv 11 = .pointer (some ⟨gN, k * 4, none⟩) := hd 11 (by kernel_rfl)
                    clear hd
                    simp only [Act.put, List.setIfInBounds_toArray, List.set_cons_succ, List.set_cons_zero] at hK
                    rw [hx4] at hK ⊢
                    rw [hx11] at hK ⊢
                    refine (if_pos (by rfl)).mpr ?_
                    have hF := HF.out.later (HB2.out.trans (hW.mono HB2.out.size))
                    obtain ⟨y0, y1, y2, y3⟩ := node_at (j := 1) (nps := nps) hF (by rw [HCN.out]; rfl) HNS2.out
                    go_simp
                    exact hK.out _ _ (Below.refl _ _) rfl
                  case s13 =>
                    have hx4 : xv 4 = .bool true := hd 4 (by kernel_rfl)
                    have hx8 : xv 8 = .agg #[.int .i64 ek, .string ex, .string ey, .slice As3 ln3 Cs3] := hd 8 (by kernel_rfl)
                    have hx12 : xv 12 = .agg #[.int .i64 nk, .string nx, .string ny, .slice As2 ln2 Cs2] := hd 12 (by kernel_rfl)
                    clear hd
                    simp only [Act.put, List.setIfInBounds_toArray, List.set_cons_succ, List.set_cons_zero] at hK
                    rw [hx4] at hK ⊢
                    rw [hx8] at hK ⊢
                    rw [hx12] at hK ⊢
                    refine (if_pos (by rfl)).mpr ?_
                    go_simp
                    go_at_call 13
                    refine (HSM.out W (HB2.out.trans (hW.mono HB2.out.size))).mono ?_
                    rintro e W' ⟨rfl, hb⟩
                    exact hK.out _ _ hb rfl
                  case s14 =>
                    have hx4 : xv 4 = .bool true := hd 4 (by kernel_rfl)
                    have hx13 : xv 13 = .bool false := hd 13 (by kernel_rfl)
                    clear hd
                    simp only [Act.put, List.setIfInBounds_toArray, List.set_cons_succ, List.set_cons_zero] at hK
                    rw [hx4] at hK ⊢
                    rw [hx13] at hK ⊢
                    refine (if_pos (by rfl)).mpr ?_
                    go_simp
                    exact hK.out _ _ (Below.refl _ _) rfl
                  case s15 =>
                    have hx4 : xv 4 = .bool true := hd 4 (by kernel_rfl)
                    have hx14 : xv 14 = .bool true := hd 14 (by kernel_rfl)
                    clear hd
                    simp only [Act.put, List.setIfInBounds_toArray, List.set_cons_succ, List.set_cons_zero] at hK
                    rw [hx4] at hK ⊢
                    rw [hx14] at hK ⊢
                    refine (if_pos (by rfl)).mpr ?_
                    go_simp
                    exact hK.out _ _ (Below.refl _ _) rfl
                case behind =>
                  intro xv W hW hx a ha
                  replace hW := undrew hW
                  simp only [fillA] at ha
                  simp only [List.setIfInBounds_toArray, List.set_cons_succ, List.set_cons_zero, Nat.zero_add, Nat.reduceAdd] at ha
                  subst ha
                  have hx15 : xv 15 = .bool true := hx 15 (by decide)
                  rw [hx15]
                  clear hx HSM
                  go_wp2
                  go_roundw
                  case rel => exact ⟨at' + 1, (by have := HAL.out; omega), by go_num, (fun b hb s hs => by
                        by_cases e : b = at'
                        · subst e; rw [HEA.out] at hs; injection hs with hs; rw [← hs]; exact HBQ.out
                        · exact HNO.out b (by omega) s hs), HB2.out.trans (hW.mono HB2.out.size)⟩
                  case measure => have := HAL.out; simp [intOf]; omega
              | true =>
                go_wp2
                refine region_rel (fun W W' => Below W.heap.size W W') [Cd.is (.int .i64 (at' : Int)), Cd.is (.slice (some ⟨gS, 0, none⟩) nS cSp), Cd.is (.int .i64 (nS : Int)), Cd.is (.bool true), Cd.is (.bool true), Cd.is (.slice (some ⟨gS, 0, none⟩) nS cSp), Cd.is (.int .i64 (at' : Int)), Cd.is (.pointer (some ⟨gS, at' * 4, none⟩)), Cd.is (.agg #[.int .i64 ek, .string ex, .string ey, .slice As3 ln3 Cs3]), Cd.is (.slice (some ⟨gN, 0, none⟩) N cNp), Cd.is (.int .i64 (k : Int)), Cd.is (.pointer (some ⟨gN, k * 4, none⟩)), Cd.is (.agg #[.int .i64 nk, .string nx, .string ny, .slice As2 ln2 Cs2]), Cd.is (.bool true), Cd.is (.bool false), Cd.is (.bool false)] (by kernel_rfl) (by decide) (by kernel_rfl) (Below.refl _ _) (fun _ _ _ h k => h.trans (k.mono h.size)) ?steps ?behind
                case steps =>
                  intro xv W hW a ha
                  replace hW := undrew hW
                  simp only [fillA] at ha
                  simp only [List.setIfInBounds_toArray, List.set_cons_succ, List.set_cons_zero, Nat.zero_add, Nat.reduceAdd] at ha
                  subst ha
                  refine ⟨fun hd K hK => ?s0, fun hd K hK => ?s1, fun hd K hK => ?s2, fun hd K hK => ?s3, fun hd K hK => ?s4, fun hd K hK => ?s5, fun hd K hK => ?s6, fun hd K hK => ?s7, fun hd K hK => ?s8, fun hd K hK => ?s9, fun hd K hK => ?s10, fun hd K hK => ?s11, fun hd K hK => ?s12, fun hd K hK => ?s13, fun hd K hK => ?s14, fun hd K hK => ?s15, trivial⟩
                  case s0 =>
                    clear hd
                    simp only [Act.put, List.setIfInBounds_toArray, List.set_cons_succ, List.set_cons_zero] at hK
                    refine (if_pos (by rfl)).mpr ?_
                    go_simp
                    exact hK.out _ _ (Below.refl _ _) rfl
                  case s1 =>
                    clear hd
                    simp only [Act.put, List.setIfInBounds_toArray, List.set_cons_succ, List.set_cons_zero] at hK
                    refine (if_pos (by rfl)).mpr ?_
                    go_simp
                    exact hK.out _ _ (Below.refl _ _) rfl
                  case s2 =>
                    have hx1 : xv 1 = .slice (some ⟨gS, 0, none⟩) nS cSp := hd 1 (by kernel_rfl)
                    clear hd
                    simp only [Act.put, List.setIfInBounds_toArray, List.set_cons_succ, List.set_cons_zero] at hK
                    rw [hx1] at hK ⊢
                    refine (if_pos (by rfl)).mpr ?_
                    go_simp
                    exact hK.out _ _ (Below.refl _ _) rfl
                  case s3 =>
                    have hx0 : xv 0 = .int .i64 (at' : Int) := hd 0 (by kernel_rfl)
                    have hx2 : xv 2 = .int .i64 (nS : Int) := hd 2 (by kernel_rfl)
                    clear hd
                    simp only [Act.put, List.setIfInBounds_toArray, List.set_cons_succ, List.set_cons_zero] at hK
                    rw [hx0] at hK ⊢
                    rw [hx2] at hK ⊢
                    refine (if_pos (by rfl)).mpr ?_
                    go_simp
                    exact hK.out _ _ (Below.refl _ _) rfl
                  case s4 =>
                    have hx3 : xv 3 = .bool true := hd 3 (by kernel_rfl)
                    clear hd
                    simp only [Act.put, List.setIfInBounds_toArray, List.set_cons_succ, List.set_cons_zero] at hK
                    rw [hx3] at hK ⊢
                    refine (if_pos (by rfl)).mpr ?_
                    go_simp
                    exact hK.out _ _ (Below.refl _ _) rfl
                  case s5 =>
                    have hx4 : xv 4 = .bool true := hd 4 (by kernel_rfl)
                    clear hd
                    simp only [Act.put, List.setIfInBounds_toArray, List.set_cons_succ, List.set_cons_zero] at hK
                    rw [hx4] at hK ⊢
                    refine (if_pos (by rfl)).mpr ?_
                    go_simp
                    exact hK.out _ _ (Below.refl _ _) rfl
                  case s6 =>
                    have hx4 : xv 4 = .bool true := hd 4 (by kernel_rfl)
                    clear hd
                    simp only [Act.put, List.setIfInBounds_toArray, List.set_cons_succ, List.set_cons_zero] at hK
                    rw [hx4] at hK ⊢
                    refine (if_pos (by rfl)).mpr ?_
                    go_simp
                    exact hK.out _ _ (Below.refl _ _) rfl
                  case s7 =>
                    have hx4 : xv 4 = .bool true := hd 4 (by kernel_rfl)
                    have hx5 : xv 5 = .slice (some ⟨gS, 0, none⟩) nS cSp := hd 5 (by kernel_rfl)
                    have hx6 : xv 6 = .int .i64 (at' : Int) := hd 6 (by kernel_rfl)
                    clear hd
                    simp only [Act.put, List.setIfInBounds_toArray, List.set_cons_succ, List.set_cons_zero] at hK
                    rw [hx4] at hK ⊢
                    rw [hx5] at hK ⊢
                    rw [hx6] at hK ⊢
                    refine (if_pos (by rfl)).mpr ?_
                    go_simp
                    exact hK.out _ _ (Below.refl _ _) rfl
                  case s8 =>
                    have hx4 : xv 4 = .bool true := hd 4 (by kernel_rfl)
                    have hx7 : xv 7 = .pointer (some ⟨gS, at' * 4, none⟩) := hd 7 (by kernel_rfl)
                    clear hd
                    simp only [Act.put, List.setIfInBounds_toArray, List.set_cons_succ, List.set_cons_zero] at hK
                    rw [hx4] at hK ⊢
                    rw [hx7] at hK ⊢
                    refine (if_pos (by rfl)).mpr ?_
                    have hF := HF.out.later (HB2.out.trans (hW.mono HB2.out.size))
                    obtain ⟨y0, y1, y2, y3⟩ := node_at (j := 2) (nps := sps) hF (by rfl) HSE.out
                    go_simp
                    exact hK.out _ _ (Below.refl _ _) rfl
                  case s9 =>
                    have hx4 : xv 4 = .bool true := hd 4 (by kernel_rfl)
                    clear hd
                    simp only [Act.put, List.setIfInBounds_toArray, List.set_cons_succ, List.set_cons_zero] at hK
                    rw [hx4] at hK ⊢
                    refine (if_pos (by rfl)).mpr ?_
                    go_simp
                    exact hK.out _ _ (Below.refl _ _) rfl
                  case s10 =>
                    have hx4 : xv 4 = .bool true := hd 4 (by kernel_rfl)
                    clear hd
                    simp only [Act.put, List.setIfInBounds_toArray, List.set_cons_succ, List.set_cons_zero] at hK
                    rw [hx4] at hK ⊢
                    refine (if_pos (by rfl)).mpr ?_
                    go_simp
                    exact hK.out _ _ (Below.refl _ _) rfl
                  case s11 =>
                    have hx4 : xv 4 = .bool true := hd 4 (by kernel_rfl)
                    have hx9 : xv 9 = .slice (some ⟨gN, 0, none⟩) N cNp := hd 9 (by kernel_rfl)
                    have hx10 : xv 10 = .int .i64 (k : Int) := hd 10 (by kernel_rfl)
                    clear hd
                    simp only [Act.put, List.setIfInBounds_toArray, List.set_cons_succ, List.set_cons_zero] at hK
                    rw [hx4] at hK ⊢
                    rw [hx9] at hK ⊢
                    rw [hx10] at hK ⊢
                    refine (if_pos (by rfl)).mpr ?_
                    go_simp
                    exact hK.out _ _ (Below.refl _ _) rfl
                  case s12 =>
                    have hx4 : xv 4 = .bool true := hd 4 (by kernel_rfl)
                    have hx11 : xv 11 = .pointer (some ⟨gN, k * 4, none⟩) := hd 11 (by kernel_rfl)
                    clear hd
                    simp only [Act.put, List.setIfInBounds_toArray, List.set_cons_succ, List.set_cons_zero] at hK
                    rw [hx4] at hK ⊢
                    rw [hx11] at hK ⊢
                    refine (if_pos (by rfl)).mpr ?_
                    have hF := HF.out.later (HB2.out.trans (hW.mono HB2.out.size))
                    obtain ⟨y0, y1, y2, y3⟩ := node_at (j := 1) (nps := nps) hF (by rw [HCN.out]; rfl) HNS2.out
                    go_simp
                    exact hK.out _ _ (Below.refl _ _) rfl
                  case s13 =>
                    have hx4 : xv 4 = .bool true := hd 4 (by kernel_rfl)
                    have hx8 : xv 8 = .agg #[.int .i64 ek, .string ex, .string ey, .slice As3 ln3 Cs3] := hd 8 (by kernel_rfl)
                    have hx12 : xv 12 = .agg #[.int .i64 nk, .string nx, .string ny, .slice As2 ln2 Cs2] := hd 12 (by kernel_rfl)
                    clear hd
                    simp only [Act.put, List.setIfInBounds_toArray, List.set_cons_succ, List.set_cons_zero] at hK
                    rw [hx4] at hK ⊢
                    rw [hx8] at hK ⊢
                    rw [hx12] at hK ⊢
                    refine (if_pos (by rfl)).mpr ?_
                    go_simp
                    go_at_call 13
                    refine (HSM.out W (HB2.out.trans (hW.mono HB2.out.size))).mono ?_
                    rintro e W' ⟨rfl, hb⟩
                    exact hK.out _ _ hb rfl
                  case s14 =>
                    have hx4 : xv 4 = .bool true := hd 4 (by kernel_rfl)
                    have hx13 : xv 13 = .bool true := hd 13 (by kernel_rfl)
                    clear hd
                    simp only [Act.put, List.setIfInBounds_toArray, List.set_cons_succ, List.set_cons_zero] at hK
                    rw [hx4] at hK ⊢
                    rw [hx13] at hK ⊢
                    refine (if_pos (by rfl)).mpr ?_
                    go_simp
                    exact hK.out _ _ (Below.refl _ _) rfl
                  case s15 =>
                    have hx4 : xv 4 = .bool true := hd 4 (by kernel_rfl)
                    have hx14 : xv 14 = .bool false := hd 14 (by kernel_rfl)
                    clear hd
                    simp only [Act.put, List.setIfInBounds_toArray, List.set_cons_succ, List.set_cons_zero] at hK
                    rw [hx4] at hK ⊢
                    rw [hx14] at hK ⊢
                    refine (if_pos (by rfl)).mpr ?_
                    go_simp
                    exact hK.out _ _ (Below.refl _ _) rfl
                case behind =>
                  intro xv W hW hx a ha
                  replace hW := undrew hW
                  simp only [fillA] at ha
                  simp only [List.setIfInBounds_toArray, List.set_cons_succ, List.set_cons_zero, Nat.zero_add, Nat.reduceAdd] at ha
                  subst ha
                  have hx15 : xv 15 = .bool false := hx 15 (by decide)
                  rw [hx15]
                  have hF := HF.out.later (HB2.out.trans (hW.mono HB2.out.size))
                  have hBW := HB.out.trans ((HB2.out.trans (hW.mono HB2.out.size)).mono HF.out.B)
                  have HFW := Lib.hid hF
                  have HBW := Lib.hid hBW
                  have hfa := firstAt_is (n := ⟨nk, nx, ny, nc⟩) (by rw [List.length_map, HNSl.out]; exact HA.out) HNO.out (.inr ⟨_, HEA.out, HBQ.out⟩)
                  have HM3 := HMK2.out
                  unfold seeN at HM3
                  rw [hfa, if_neg (by rw [List.length_map, HNSl.out]; have := HAL.out; omega)] at HM3
                  have HM3 := Lib.hid HM3
                  have hne : ((at' : Int) == (nS : Int)) = false := by have := HAL.out; simp; omega
                  clear hx HSM hF hBW hfa HF HB hW HB2 HMK2
                  go_wp2_with (at_builtin; refine list_app1 (i := 0) HFW.out rfl rfl _ _ rfl Tryd.underlying27 hi0 hz0 hz1 hz2 rfl (by decide) rfl _ 1 (by simp) rfl rfl (by have := HNL.out; have := HKL.out; omega) ?_)
                  intro v2 w2 hf2 hb2
                  have hf3 : Fam w2 B (M4 v2 (k + 1) ((wl ++ [at']).map nv) (.slice (some ⟨gN, 0, none⟩) N cNp) N cN (rowT 24 4 (.slice (some ⟨gS, 0, none⟩) nS cSp) (nS) (sps.flatMap ndC) :: rowT 27 1 vO us.length us :: inn us K)) := by
                    rw [List.map_append]
                    exact hf2
                  have HF3 := Lib.hid hf3
                  have HB3 := Lib.hid (HBW.out.trans hb2)
                  clear hf2 hf3 hb2 HFW HBW
                  go_wp2
                  go_roundw
                  case rel =>
                    refine ⟨k + 1, _, _, sps, wl ++ [at'], (by have := HKL.out; omega), by go_num, rfl, rfl, ?_, ?_, ?_, HSP.out, ?_, HB3.out⟩
                    · show _ = _; rw [List.length_append, HWL.out]; rfl
                    · show _ ≤ _; have := HSL.out; omega
                    · refine ⟨?_, HM3.out.2⟩; rw [HM3.out.1]; simp
                    · rw [HNSl.out]; exact HF3.out
                  case measure => have := HKL.out; simp [intOf]; omega
            · obtain rfl : nS = at' := by omega
              have hal' : ¬ (nS : Int) < (nS : Int) := by omega
              clear hal
              go_wp2
              refine region_rel (fun W W' => Below W.heap.size W W') [Cd.is (.int .i64 (nS : Int)), Cd.is (.slice aS nS cSp), Cd.is (.int .i64 (nS : Int)), Cd.is (.bool false), Cd.is (.bool false), Cd.any, Cd.any, Cd.any, Cd.any, Cd.any, Cd.any, Cd.any, Cd.any, Cd.any, Cd.any, Cd.is (.bool false)] (by kernel_rfl) (by decide) (by kernel_rfl) (Below.refl _ _) (fun _ _ _ h k => h.trans (k.mono h.size)) ?steps ?behind
              case steps =>
                intro xv W hW a ha
                replace hW := undrew hW
                simp only [fillA] at ha
                simp only [List.setIfInBounds_toArray, List.set_cons_succ, List.set_cons_zero, Nat.zero_add, Nat.reduceAdd] at ha
                subst ha
                refine ⟨fun hd K hK => ?s0, fun hd K hK => ?s1, fun hd K hK => ?s2, fun hd K hK => ?s3, fun hd K hK => ?s4, fun hd K hK => ?s5, fun hd K hK => ?s6, fun hd K hK => ?s7, fun hd K hK => ?s8, fun hd K hK => ?s9, fun hd K hK => ?s10, fun hd K hK => ?s11, fun hd K hK => ?s12, fun hd K hK => ?s13, fun hd K hK => ?s14, fun hd K hK => ?s15, trivial⟩
                case s0 =>
                  clear hd
                  simp only [Act.put, List.setIfInBounds_toArray, List.set_cons_succ, List.set_cons_zero] at hK
                  refine (if_pos (by rfl)).mpr ?_
                  go_simp
                  exact hK.out _ _ (Below.refl _ _) rfl
                case s1 =>
                  clear hd
                  simp only [Act.put, List.setIfInBounds_toArray, List.set_cons_succ, List.set_cons_zero] at hK
                  refine (if_pos (by rfl)).mpr ?_
                  go_simp
                  exact hK.out _ _ (Below.refl _ _) rfl
                case s2 =>
                  have hx1 : xv 1 = .slice aS nS cSp := hd 1 (by kernel_rfl)
                  clear hd
                  simp only [Act.put, List.setIfInBounds_toArray, List.set_cons_succ, List.set_cons_zero] at hK
                  rw [hx1] at hK ⊢
                  refine (if_pos (by rfl)).mpr ?_
                  go_simp
                  exact hK.out _ _ (Below.refl _ _) rfl
                case s3 =>
                  have hx0 : xv 0 = .int .i64 (nS : Int) := hd 0 (by kernel_rfl)
                  have hx2 : xv 2 = .int .i64 (nS : Int) := hd 2 (by kernel_rfl)
                  clear hd
                  simp only [Act.put, List.setIfInBounds_toArray, List.set_cons_succ, List.set_cons_zero] at hK
                  rw [hx0] at hK ⊢
                  rw [hx2] at hK ⊢
                  refine (if_pos (by rfl)).mpr ?_
                  go_simp
                  exact hK.out _ _ (Below.refl _ _) rfl
                case s4 =>
                  have hx3 : xv 3 = .bool false := hd 3 (by kernel_rfl)
                  clear hd
                  simp only [Act.put, List.setIfInBounds_toArray, List.set_cons_succ, List.set_cons_zero] at hK
                  rw [hx3] at hK ⊢
                  refine (if_pos (by rfl)).mpr ?_
                  go_simp
                  exact hK.out _ _ (Below.refl _ _) rfl
                case s5 =>
                  have hx4 : xv 4 = .bool false := hd 4 (by kernel_rfl)
                  clear hd
                  simp only [Act.put, List.setIfInBounds_toArray, List.set_cons_succ, List.set_cons_zero] at hK
                  rw [hx4] at hK ⊢
                  refine (if_neg (ne_true_of_eq_false (by rfl))).mpr ?_
                  exact hK.out _ _ (Below.refl _ _) trivial
                case s6 =>
                  have hx4 : xv 4 = .bool false := hd 4 (by kernel_rfl)
                  clear hd
                  simp only [Act.put, List.setIfInBounds_toArray, List.set_cons_succ, List.set_cons_zero] at hK
                  rw [hx4] at hK ⊢
                  refine (if_neg (ne_true_of_eq_false (by rfl))).mpr ?_
                  exact hK.out _ _ (Below.refl _ _) trivial
                case s7 =>
                  have hx4 : xv 4 = .bool false := hd 4 (by kernel_rfl)
                  clear hd
                  simp only [Act.put, List.setIfInBounds_toArray, List.set_cons_succ, List.set_cons_zero] at hK
                  rw [hx4] at hK ⊢
                  refine (if_neg (ne_true_of_eq_false (by rfl))).mpr ?_
                  exact hK.out _ _ (Below.refl _ _) trivial
                case s8 =>
                  have hx4 : xv 4 = .bool false := hd 4 (by kernel_rfl)
                  clear hd
                  simp only [Act.put, List.setIfInBounds_toArray, List.set_cons_succ, List.set_cons_zero] at hK
                  rw [hx4] at hK ⊢
                  refine (if_neg (ne_true_of_eq_false (by rfl))).mpr ?_
                  exact hK.out _ _ (Below.refl _ _) trivial
                case s9 =>
                  have hx4 : xv 4 = .bool false := hd 4 (by kernel_rfl)
                  clear hd
                  simp only [Act.put, List.setIfInBounds_toArray, List.set_cons_succ, List.set_cons_zero] at hK
                  rw [hx4] at hK ⊢
                  refine (if_neg (ne_true_of_eq_false (by rfl))).mpr ?_
                  exact hK.out _ _ (Below.refl _ _) trivial
                case s10 =>
                  have hx4 : xv 4 = .bool false := hd 4 (by kernel_rfl)
                  clear hd
                  simp only [Act.put, List.setIfInBounds_toArray, List.set_cons_succ, List.set_cons_zero] at hK
                  rw [hx4] at hK ⊢
                  refine (if_neg (ne_true_of_eq_false (by rfl))).mpr ?_
                  exact hK.out _ _ (Below.refl _ _) trivial
                case s11 =>
                  have hx4 : xv 4 = .bool false := hd 4 (by kernel_rfl)
                  clear hd
                  simp only [Act.put, List.setIfInBounds_toArray, List.set_cons_succ, List.set_cons_zero] at hK
                  rw [hx4] at hK ⊢
                  refine (if_neg (ne_true_of_eq_false (by rfl))).mpr ?_
                  exact hK.out _ _ (Below.refl _ _) trivial
                case s12 =>
                  have hx4 : xv 4 = .bool false := hd 4 (by kernel_rfl)
                  clear hd
                  simp only [Act.put, List.setIfInBounds_toArray, List.set_cons_succ, List.set_cons_zero] at hK
                  rw [hx4] at hK ⊢
                  refine (if_neg (ne_true_of_eq_false (by rfl))).mpr ?_
                  exact hK.out _ _ (Below.refl _ _) trivial
                case s13 =>
                  have hx4 : xv 4 = .bool false := hd 4 (by kernel_rfl)
                  clear hd
                  simp only [Act.put, List.setIfInBounds_toArray, List.set_cons_succ, List.set_cons_zero] at hK
                  rw [hx4] at hK ⊢
                  refine (if_neg (ne_true_of_eq_false (by rfl))).mpr ?_
                  exact hK.out _ _ (Below.refl _ _) trivial
                case s14 =>
                  have hx4 : xv 4 = .bool false := hd 4 (by kernel_rfl)
                  clear hd
                  simp only [Act.put, List.setIfInBounds_toArray, List.set_cons_succ, List.set_cons_zero] at hK
                  rw [hx4] at hK ⊢
                  refine (if_neg (ne_true_of_eq_false (by rfl))).mpr ?_
                  exact hK.out _ _ (Below.refl _ _) trivial
                case s15 =>
                  have hx4 : xv 4 = .bool false := hd 4 (by kernel_rfl)
                  clear hd
                  simp only [Act.put, List.setIfInBounds_toArray, List.set_cons_succ, List.set_cons_zero] at hK
                  rw [hx4] at hK ⊢
                  refine (if_pos (by rfl)).mpr ?_
                  go_simp
                  exact hK.out _ _ (Below.refl _ _) rfl
              case behind =>
                intro xv W hW hx a ha
                replace hW := undrew hW
                simp only [fillA] at ha
                simp only [List.setIfInBounds_toArray, List.set_cons_succ, List.set_cons_zero, Nat.zero_add, Nat.reduceAdd] at ha
                subst ha
                have hx15 : xv 15 = .bool false := hx 15 (by decide)
                rw [hx15]
                have hF := HF.out.later (HB2.out.trans (hW.mono HB2.out.size))
                have hBW := HB.out.trans ((HB2.out.trans (hW.mono HB2.out.size)).mono HF.out.B)
                have HFW := Lib.hid hF
                have HBW := Lib.hid hBW
                have hfa := firstAt_is (n := ⟨nk, nx, ny, nc⟩) (a := nS) (by rw [List.length_map, HNSl.out]; exact Nat.le_refl _) HNO.out (.inl (by rw [List.length_map, HNSl.out]))
                have HM3 := HMK2.out
                unfold seeN at HM3
                rw [hfa, if_pos (by rw [List.length_map, HNSl.out])] at HM3
                have HM3 := Lib.hid HM3
                have hne : ((nS : Int) == (nS : Int)) = true := by simp
                obtain ⟨y0, y1, y2, y3⟩ := node_at (j := 1) (nps := nps) HFW.out (by rw [HCN.out]; rfl) HNS2.out
                clear hx hF hBW hfa HF HB hW HB2 HMK2
                go_wp2_with (at_builtin; refine list_app4 (i := 2) HFW.out rfl rfl _ _ rfl Tryd.underlying22 hi4 hx0 hx1 hx2 rfl (by decide) rfl _ 1 (by simp) rfl rfl rfl rfl rfl (by omega) ?_)
                intro v5 w5 hf5 hb5
                obtain ⟨a5, c5, rfl, _, _⟩ := hf5.slice (i := 2) rfl
                have HF5 : Hid (Fam w5 B (M4 vW k (wl.map nv) (.slice (some ⟨gN, 0, none⟩) N cNp) N cN (rowT 24 4 (.slice a5 (nS + 1) c5) (nS + 1) (sps.flatMap ndC ++ [.int .i64 nk, .string nx, .string ny, .slice As2 ln2 Cs2]) :: rowT 27 1 vO us.length us :: inn us K))) := hf5
                have HB5 := Lib.hid (HBW.out.trans hb5)
                clear hf5 hb5 HFW HBW y0 y1 y2 y3
                go_wp2_with (at_builtin; refine list_app1 (i := 0) HF5.out rfl rfl _ _ rfl Tryd.underlying27 hi0 hz0 hz1 hz2 rfl (by decide) rfl _ 1 (by simp) rfl rfl (by have := HNL.out; have := HKL.out; omega) ?_)
                intro v2 w2 hf2 hb2
                have hf3 : Fam w2 B (M4 v2 (k + 1) ((wl ++ [nS]).map nv) (.slice (some ⟨gN, 0, none⟩) N cNp) N cN (rowT 24 4 (.slice a5 (nS + 1) c5) (nS + 1) (sps.flatMap ndC ++ [.int .i64 nk, .string nx, .string ny, .slice As2 ln2 Cs2]) :: rowT 27 1 vO us.length us :: inn us K)) := by
                  rw [List.map_append]
                  exact hf2
                have HF3 := Lib.hid hf3
                have HB3 := Lib.hid (HB5.out.trans hb2)
                clear hf2 hf3 hb2 HF5 HB5
                go_wp2
                go_roundw
                case rel =>
                  refine ⟨k + 1, _, _, sps ++ [(⟨nk, nx, ny, nc⟩, .slice As2 ln2 Cs2)], wl ++ [nS], (by have := HKL.out; omega), by go_num, rfl, rfl, ?_, ?_, ?_, ?_, ?_, HB3.out⟩
                  · show _ = _; rw [List.length_append, HWL.out]; rfl
                  · show _ ≤ _; have := HSL.out; rw [List.length_append]; simp only [List.length_cons, List.length_nil]; omega
                  · refine ⟨?_, ?_⟩
                    · rw [HM3.out.1, List.map_append]; simp
                    · rw [HM3.out.2, List.map_append]; rfl
                  · intro p hp
                    rcases List.mem_append.1 hp with hp | hp
                    · exact HSP.out p hp
                    · rw [List.mem_singleton.1 hp]; exact ⟨HSF.out, HNZ.out⟩
                  · rw [List.length_append, List.flatMap_append, HNSl.out]; exact HF3.out
                case measure => have := HKL.out; simp [intOf]; omega
        · obtain rfl : N = k := by omega
          have hkl' : ¬ (N : Int) < (N : Int) := by omega
          obtain ⟨aW, cW, rfl, _, _⟩ := HF.out.slice (i := 0) rfl
          have HM3 : Hid ((markL seen0 L).1 = wl ∧ (markL seen0 L).2 = sps.map (·.1)) := by
            have h := HMK.out
            rw [List.drop_of_length_le (by rw [HN.out]; exact Nat.le_refl _)] at h
            exact ⟨by rw [h.1]; simp [markL], h.2⟩
          have hUL : us.length ≤ 50 := by rw [HUK.out, HKI.out]; omega
          clear hkl HMK
          go_wp2_with (at_builtin; refine list_app1 (i := 3) HF.out rfl rfl _ _ rfl Tryd.underlying28 hi1 hy0 hy1 hy2 rfl (by decide) rfl _ 1 (by simp) rfl rfl (by omega) ?_)
          intro v3 w3 hf3 hb3
          have hf4 := m2_of (us' := us ++ [.slice aW N cW]) (l := wl) hf3 HWL.out.symm HUK.out rfl (by simp)
          have HF4 := Lib.hid hf4
          have HB4 := Lib.hid (HB.out.trans hb3)
          clear hf3 hf4 hb3 HF HB hUL
          go_wp2
          go_roundw
          case rel =>
            refine ⟨i + 1, v3, vS, us ++ [Value.slice aW N cW], K ++ [wl], sps, (by have := HLT.out; omega), by go_num, rfl, rfl, ?_, ?_, ?_, ?_, HSP.out, ?_, HB4.out⟩
            · show _ = _; rw [List.length_append, List.length_append, HUK.out]; rfl
            · show _ = _; rw [List.length_append, HKI.out]; rfl
            · show _ ≤ _; have h1 := HSL.out; have h2 := HNL.out; rw [lim_next]; omega
            · show _ = _; rw [HEQ2.out, HM3.out.1, HM3.out.2]; simp
            · exact HF4.out
          case measure => have := HLT.out; simp [intOf]; omega
    · obtain rfl : n = i := by omega
      have hlt' : ¬ (n : Int) < (n : Int) := by omega
      have HE : Hid (K = marksF [] l) := by
        have h := HEQ.out
        rw [F.drop_all n l (by rw [HLN.out]; exact Nat.le_refl _)] at h
        show _ = _
        rw [h]
        simp [marksF]
      clear hlt
      go_wp2
      go_ret
      refine ⟨by rw [HBB.out]; exact HB.out, vO, us, rfl, ?_, by rw [← HE.out]; exact HUK.out⟩
      rw [HBB.out, ← HE.out]
      exact HF.out.sub (List.sublist_cons_self _ _)
end Go.Proofs.YtmknghhgcecafaaDoor.Shape
