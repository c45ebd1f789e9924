/-
  Layer 10 (shape): the walk of ShapeSums. Written by gen_shapesums.py.
-/
import Derived.Test.YtmknghhgcecafaaDoorShapeKnown
namespace Go.Proofs.YtmknghhgcecafaaDoor.Shape
open Go.ChangeShapes Go.WideShapes Go.ChangeAt Go.RowKit Mem Tree MemC
set_option linter.unusedVariables false

/-- A row that is read, at all later worlds. -/
theorem sl_read {w : World} {S : Nat → Prop} {v : Value} {zs : List Value} (h : SlAt w S v zs) (hS : ∀ b, S b → b < w.heap.size) (hn : 0 < zs.length) :
    ∃ (b o c : Nat), v = .slice (some ⟨b, o, none⟩) zs.length c ∧ ∀ W, Below w.heap.size w W → ∀ (i : Nat) (z : Value), zs[i]? = some z → W.cell? ⟨b, o + i, none⟩ = some z := by
  obtain ⟨A, c, e, _, _, hr⟩ := h
  rcases hr with hr | ⟨b, o, e2, hb, hc⟩
  · rw [hr] at hn; exact absurd hn (Nat.lt_irrefl _)
  · exact ⟨b, o, c, by rw [e, e2], fun W hW i z hz => (hW.cell (p := ⟨b, o + i, none⟩) (hS b hb)).trans (hc i z hz)⟩
theorem rows_read {w : World} {S : Nat → Prop} {v : Value} {K : List (List Int)} (h : RowsAt w S v K) (hS : ∀ b, S b → b < w.heap.size) (hn : 0 < K.length) :
    ∃ (b o c : Nat) (us : List Value), v = .slice (some ⟨b, o, none⟩) K.length c ∧ us.length = K.length ∧ (∀ W, Below w.heap.size w W → ∀ (i : Nat) (z : Value), us[i]? = some z → W.cell? ⟨b, o + i, none⟩ = some z) ∧
      ∀ (i : Nat) (l : List Int), K[i]? = some l → ∃ A c, us[i]? = some (.slice A l.length c) ∧ ∀ W, Below w.heap.size w W → RI W W.heap.size A l := by
  obtain ⟨us, hu, hs, hk⟩ := h
  obtain ⟨b, o, c, e, hc⟩ := sl_read hs hS (by rw [hu]; exact hn)
  refine ⟨b, o, c, us, by rw [e, hu], hu, hc, fun i l hl => ?_⟩
  obtain ⟨u, hi⟩ : ∃ u, us[i]? = some u := ⟨_, List.getElem?_eq_getElem (by rw [hu]; exact (List.getElem?_eq_some_iff.1 hl).1)⟩
  obtain ⟨A, c', e', hr⟩ := ri_of (B := w.heap.size) (hk i u l hi hl) hS
  exact ⟨A, c', by rw [hi, e'], fun W hW => (hr.below hW (Nat.le_refl _)).more hW.size⟩
/-- How many Kids the first nodes have together. -/
def kidSum (K : List (List Nat)) (i : Nat) : Nat := ((K.take i).map List.length).sum
theorem kidSum_next {K : List (List Nat)} {i : Nat} {l : List Nat} (h : K[i]? = some l) : kidSum K (i + 1) = kidSum K i + l.length := by
  unfold kidSum
  rw [List.take_add_one, h]
  simp
theorem kidSum_le : ∀ (K : List (List Nat)) (i : Nat), kidSum K i ≤ (K.map List.length).sum
  | [], i => by simp [kidSum]
  | l :: K, 0 => by simp [kidSum]
  | l :: K, i + 1 => by
    have h := kidSum_le K i
    unfold kidSum at *
    simp only [List.take_succ_cons, List.map_cons, List.sum_cons]
    omega
theorem kids_all : ∀ (a : Nat) (f : F), ((kidF a f).map List.length).sum + f.len = f.size
  | _, .nil => rfl
  | a, .cons k x y c r => by
    have h1 := kids_all (a + 1) c
    have h2 := kids_all (a + 1 + c.size) r
    simp only [kidF, F.len, F.size, List.map_cons, List.map_append, List.sum_cons, List.sum_append, places_len]
    omega
theorem kidSum_all (k : Int) (x y : ByteArray) (c : F) : kidSum (kidF 0 (one k x y c)) (one k x y c).size + 1 = (one k x y c).size := by
  have h := kids_all 0 (one k x y c)
  unfold kidSum
  rw [List.take_of_length_le (by rw [kidF_len]; exact Nat.le_refl _)]
  exact h
theorem kidI_at {T : F} {i : Nat} {l : List Nat} (h : (kidF 0 T)[i]? = some l) : (kidI T)[i]? = some (ints l) := by
  unfold kidI
  rw [List.getElem?_map, h]
  rfl
theorem ints_at {l : List Nat} {j q : Nat} (h : l[j]? = some q) : (ints l)[j]? = some (q : Int) := by
  unfold ints
  rw [List.getElem?_map, h]
  rfl
theorem ri_at {w : World} {B : Nat} {A : Option Addr} {l : List Int} (h : RI w B A l) {j : Nat} {z : Int} (hj : l[j]? = some z) : ∃ b o, A = some ⟨b, o, none⟩ ∧ w.cell? ⟨b, o + j, none⟩ = some (.int .i64 z) := by
  obtain ⟨hlt, e⟩ := List.getElem?_eq_some_iff.1 hj
  obtain ⟨b, o, e1, _, hc⟩ := h.at_ hlt
  refine ⟨b, o, e1, ?_⟩
  rw [hc, List.getD_eq_getElem?_getD, hj]
  rfl
set_option maxRecDepth 100000 in
set_option maxHeartbeats 16000000 in
theorem shapeSums_walk (HO : OfSpec) (HMk : MarksSpec) (HTr : TreeSpec) (k : Int) (x y : ByteArray) (A : Option Addr) (n C : Nat) (c : F) (w : World) (hf : Fs w (Lo w.heap.size) (.slice A n C) c) (hP : Pow w) :
    Calls Tryd.prog 7 #[.agg #[.int .i64 k, .string x, .string y, .slice A n C]] w fun e w' => e = .returned (.bool true) ∧ Below w.heap.size w w' := by
  have b1 := bel1 w (.cells #[.int .i64 k, .string x, .string y, .slice A n C] 24)
  have HX := Lib.hid (box_cl' w k x y (.slice A n C))
  have HF := Lib.hid (hf.later b1)
  have HFEW := Lib.hid (few10_any k x y A n C c 1000 _ (hf.later b1) (by decide))
  have HB1 := Lib.hid b1
  have HOO := Lib.hid HO
  have HKN := Lib.hid (fun W hW => known_any HO HMk HTr W hW)
  have HPW := Lib.hid hP
  clear hP
  obtain ⟨q0, q1, q2, q3⟩ := HX.out _ (Below.refl _ _)
  obtain ⟨fb, hfb⟩ : ∃ fb, fewS k x y c 1000 = fb := ⟨_, rfl⟩
  rw [hfb] at HFEW
  have HFB := Lib.hid hfb
  clear hf b1 hfb HO HMk HTr
  go_enter Tryd.func7, Tryd.ntmps7
  go_wp2_with fail
  obtain ⟨w0, hw0⟩ : ∃ w0, w.alloc (.cells #[.int .i64 k, .string x, .string y, .slice A n C] 24) = w0 := ⟨_, rfl⟩
  rw [hw0] at HX HF HFEW HB1 q0 q1 q2 q3 ⊢
  clear hw0
  refine HFEW.out.mono ?_
  rintro e w1 ⟨rfl, hb⟩
  have HB01 := Lib.hid hb
  have HB2 := Lib.hid (HB1.out.trans (hb.mono HB1.out.size))
  clear hb q0 q1 q2 q3 HFEW
  cases fb with
  | false =>
    go_wp2_with fail
    refine (HKN.out w1 (HPW.out.on HB2.out)).mono ?_
    rintro e w2 ⟨rfl, hb⟩
    have HB3 := Lib.hid (HB2.out.trans (hb.mono HB2.out.size))
    clear hb
    go_wp2
    go_ret
    exact ⟨rfl, HB3.out⟩
  | true =>
    have hN : c.size + 1 ≤ 1000 := by
      have := HFB.out
      unfold fewS at this
      rw [Bool.and_eq_true, decide_eq_true_eq] at this
      exact this.2
    have H3 := Lib.hid (HOO.out k x y A n C c w1 (HF.out.later HB01.out) (by omega))
    have HKA := Lib.hid (kidSum_all k x y c)
    have HT1 : Hid ((one k x y c).size ≤ 1000 ∧ 1 ≤ (one k x y c).size) := by rw [one_size]; exact ⟨hN, by omega⟩
    obtain ⟨p0, p1, p2, p3⟩ := HX.out w1 HB01.out
    clear hN HOO
    obtain ⟨T, hTE⟩ : ∃ T, one k x y c = T := ⟨_, rfl⟩
    rw [hTE] at H3 HKA HT1
    have HTE := Lib.hid hTE
    clear hTE
    go_wp2_with fail
    refine H3.out.mono ?_
    rintro e w2 ⟨hb, v2, rfl, hp⟩
    obtain ⟨vN, vP, vS, vK, rfl, pN, pP, pS, pK⟩ := hp
    have hIn : ∀ b, In w1.heap.size w2.heap.size b → b < w2.heap.size := fun b h => h.2
    obtain ⟨aN, cN, rfl, _, _⟩ := pN.slice
    obtain ⟨bP, oP, cP, rfl, rP⟩ := sl_read pP hIn (by rw [List.length_map, parF_len]; exact HT1.out.2)
    obtain ⟨bS, oS, cS, rfl, rS⟩ := sl_read pS hIn (by rw [List.length_map, sizF_len]; exact HT1.out.2)
    obtain ⟨bK, oK, cK, us, rfl, hus, rK, rKK⟩ := rows_read pK hIn (by unfold kidI; rw [List.length_map, kidF_len]; exact HT1.out.2)
    obtain ⟨N, hN⟩ : ∃ N, T.size = N := ⟨_, rfl⟩
    have e1 : (ofL (nodes T)).len = N := by rw [ofL_len, nodes_len, hN]
    have e2 : ((parF (-1) 0 T).map iv).length = N := by rw [List.length_map, parF_len, hN]
    have e3 : ((sizF T).map iv).length = N := by rw [List.length_map, sizF_len, hN]
    have e4 : (kidI T).length = N := by unfold kidI; rw [List.length_map, kidF_len, hN]
    rw [e1, e2, e3, e4]
    rw [hN] at HT1
    have HN := Lib.hid hN
    have HB3 := Lib.hid (HB2.out.trans (hb.mono HB2.out.size))
    have hb6 := bel1 w2 (.cells #[.slice aN N cN, .slice (some ⟨bP, oP, none⟩) N cP, .slice (some ⟨bS, oS, none⟩) N cS, .slice (some ⟨bK, oK, none⟩) N cK] 30)
    have HY : Hid (∀ W, Below (w2.alloc (.cells #[.slice aN N cN, .slice (some ⟨bP, oP, none⟩) N cP, .slice (some ⟨bS, oS, none⟩) N cS, .slice (some ⟨bK, oK, none⟩) N cK] 30)).heap.size (w2.alloc (.cells #[.slice aN N cN, .slice (some ⟨bP, oP, none⟩) N cP, .slice (some ⟨bS, oS, none⟩) N cS, .slice (some ⟨bK, oK, none⟩) N cK] 30)) W → W.cell? ⟨w2.heap.size, 0, none⟩ = some (.slice aN N cN) ∧ W.cell? ⟨w2.heap.size, 1, none⟩ = some (.slice (some ⟨bP, oP, none⟩) N cP) ∧ W.cell? ⟨w2.heap.size, 2, none⟩ = some (.slice (some ⟨bS, oS, none⟩) N cS) ∧ W.cell? ⟨w2.heap.size, 3, none⟩ = some (.slice (some ⟨bK, oK, none⟩) N cK)) := fun W hW => by
      have h : W.heap[w2.heap.size]? = _ := (hW.block w2.heap.size (by simp)).trans (heap_alloc_new w2 _)
      refine ⟨?_, ?_, ?_, ?_⟩ <;> simp [World.cell?, h]
    obtain ⟨w3, hw3⟩ : ∃ w3, w2.alloc (.cells #[.slice aN N cN, .slice (some ⟨bP, oP, none⟩) N cP, .slice (some ⟨bS, oS, none⟩) N cS, .slice (some ⟨bK, oK, none⟩) N cK] 30) = w3 := ⟨_, rfl⟩
    rw [hw3] at HY hb6
    have HW3 := Lib.hid hw3
    have RP := Lib.hid (fun W (hW : Below w3.heap.size w3 W) => rP W (hb6.trans (hW.mono hb6.size)))
    have RS := Lib.hid (fun W (hW : Below w3.heap.size w3 W) => rS W (hb6.trans (hW.mono hb6.size)))
    have RK := Lib.hid (fun W (hW : Below w3.heap.size w3 W) => rK W (hb6.trans (hW.mono hb6.size)))
    have RKK : Hid (∀ (i : Nat) (l : List Int), (kidI T)[i]? = some l → ∃ A c, us[i]? = some (.slice A l.length c) ∧ ∀ W, Below w3.heap.size w3 W → RI W W.heap.size A l) := fun i l hl => by
      obtain ⟨A', c', h1, h2⟩ := rKK i l hl
      exact ⟨A', c', h1, fun W hW => h2 W (hb6.trans (hW.mono hb6.size))⟩
    have HB4 := Lib.hid (HB3.out.trans (hb6.mono HB3.out.size))
    obtain ⟨g, hg⟩ : ∃ g, w2.heap.size = g := ⟨_, rfl⟩
    rw [hg] at HY
    have hN5 : N ≤ 1000 := HT1.out.1
    have HKL : Hid (∀ i, kidSum (kidF 0 T) i ≤ 1000) := fun i => by
      have h1 := kidSum_le (kidF 0 T) i
      have h2 := kids_all 0 T
      have h3 := HN.out
      omega
    clear hb pN pP pS pK rP rS rK rKK hus hIn e1 e2 e3 e4 hN hb6 hw3 p0 p1 p2 p3 H3 HX HB3 HF HB01 HB1
    go_wp2
    rw [HW3.out]
    clear hg HW3
    go_loopw [4, 5] (fun s4 s5 wr => ∃ i : Nat, i ≤ N ∧ s5 = .int .i64 (i : Int) ∧ s4 = .int .i64 ((kidSum (kidF 0 T) i : Nat) : Int) ∧ wr = w3) (fun _ s _ => N - (intOf s).toNat)
    case atStart => exact ⟨0, Nat.zero_le _, rfl, rfl, rfl⟩
    case round =>
      obtain ⟨i, hi, rfl, rfl, rfl⟩ := hrel
      obtain ⟨q0, q1, q2, q3⟩ := HY.out wr (Below.refl _ _)
      have hks5 := HKL.out i
      by_cases hlt : i < N
      · have hlt' : (i : Int) < (N : Int) := by omega
        have hi0 : (0 : Int) ≤ (i : Int) := by omega
        have HLT := Lib.hid hlt
        obtain ⟨⟨nk, nx, ny, nc⟩, hnd⟩ : ∃ nd, (nodes T)[i]? = some nd := ⟨_, List.getElem?_eq_getElem (by rw [nodes_len, HN.out]; exact hlt)⟩
        have HND := Lib.hid hnd
        have HKI : Hid ((kidF 0 T)[i]? = some (places (i + 1) nc)) := by
          have := kidF_at T 0 i _ hnd
          rwa [Nat.zero_add] at this
        obtain ⟨Al, cl, hul, hrl⟩ := RKK.out i _ (kidI_at HKI.out)
        have HRL := Lib.hid (hrl wr (Below.refl _ _))
        have hku := RK.out wr (Below.refl _ _) i _ hul
        obtain ⟨ln, hln⟩ : ∃ ln, nc.len = ln := ⟨_, rfl⟩
        have hil : (ints (places (i + 1) nc)).length = ln := by unfold ints; rw [List.length_map, places_len, hln]
        rw [hil] at hku
        have HSI := Lib.hid (RS.out wr (Below.refl _ _) i _ (show ((sizF T).map iv)[i]? = some (.int .i64 ((nc.size + 1 : Nat) : Int)) by rw [List.getElem?_map, siz_at hnd]; rfl))
        have HKN2 : Hid (kidSum (kidF 0 T) (i + 1) = kidSum (kidF 0 T) i + ln) := by
          show _ = _
          rw [kidSum_next HKI.out, places_len, hln]
        have HLN := Lib.hid hln
        have hnz := (sub_nodes T i _ hnd).1
        simp only at hnz
        rw [HN.out] at hnz
        have hln5 : ln ≤ 1000 := by have := F.len_le_size nc; omega
        have hk15 := HKL.out (i + 1)
        rw [HKN2.out] at hk15
        generalize kidSum (kidF 0 T) i = ks at *
        clear hnd hul hrl hil hln
        go_wp2
        go_loopw [4, 6, 7] (fun s4 s6 s7 wr' => ∃ (j kp : Nat), j ≤ ln ∧ kp ≤ 2000 ∧ s7 = .int .i64 (j : Int) ∧ s6 = .int .i64 (kp : Int) ∧ s4 = .int .i64 ((ks + j : Nat) : Int) ∧ Hid (PosAt (i + 1) nc j kp) ∧ Hid (kp + (nc.drop j).size = i + 1 + nc.size) ∧ wr' = wr) (fun _ _ s _ => ln - (intOf s).toNat)
        case atStart => exact ⟨0, i + 1, Nat.zero_le _, by omega, rfl, by go_num, rfl, posAt_start _ _, rfl, rfl⟩
        case round =>
          obtain ⟨j, kp, hj, hkp5, rfl, rfl, rfl, HPO, HKP, rfl⟩ := hrel
          by_cases hjl : j < ln
          · have hj0 : (0 : Int) ≤ (j : Int) := by omega
            have hjl' : (j : Int) < (ln : Int) := by omega
            have HJL := Lib.hid hjl
            obtain ⟨kk', kx', ky', kc', kr', hdr, hdr2⟩ := F.drop_cons (n := j) (f := nc) (by rw [HLN.out]; exact hjl)
            obtain ⟨hkp1, hkp2, hkp3, hkp4⟩ := posAt_step HND.out HPO.out hdr
            rw [HN.out] at hkp4
            have hpar := (par_at T (-1) 0 i kp _ HKI.out (List.mem_of_getElem? hkp1)).1
            rw [Nat.sub_zero, Nat.zero_add] at hpar
            obtain ⟨bl, ol, rfl, hcl⟩ := ri_at HRL.out (ints_at hkp1)
            have hcp := RP.out _ (Below.refl _ _) kp _ (show ((parF (-1) 0 T).map iv)[kp]? = some (.int .i64 (i : Int)) by rw [List.getElem?_map, hpar]; rfl)
            have hcs := RS.out _ (Below.refl _ _) kp _ (show ((sizF T).map iv)[kp]? = some (.int .i64 ((kc'.size + 1 : Nat) : Int)) by rw [List.getElem?_map, siz_at hkp3]; rfl)
            have HKP2 : Hid (kp + (kc'.size + 1) + (nc.drop (j + 1)).size = i + 1 + nc.size) := by
              have h := HKP.out
              rw [hdr] at h
              simp only [F.size] at h
              show _ = _
              rw [hdr2]
              omega
            have HPO2 := Lib.hid hkp2
            have hk6 : kp + (kc'.size + 1) ≤ 2000 := by have := HKP2.out; omega
            obtain ⟨sz, hsz⟩ : ∃ sz, kc'.size + 1 = sz := ⟨_, rfl⟩
            rw [hsz] at hcs HKP2 HPO2 hk6
            have hk0 : (0 : Int) ≤ (kp : Int) := by omega
            have hk4' : (kp : Int) < (N : Int) := by omega
            have hne1 : ((kp : Int) != (kp : Int)) = false := by simp
            have hne2 : ((i : Int) != (i : Int)) = false := by simp
            clear hdr hdr2 hkp1 hkp2 hkp3 hkp4 hpar hsz
            go_wp2
            go_roundw
            case rel => exact ⟨j + 1, kp + sz, by have := HJL.out; omega, hk6, by go_num, by go_num, by go_num, HPO2.out, HKP2.out, trivial⟩
            case measure => have := HJL.out; simp [intOf]; omega
          · obtain rfl : ln = j := by omega
            have hjl' : ¬ (ln : Int) < (ln : Int) := by omega
            have hkp : kp = i + (nc.size + 1) := by
              have h := HKP.out
              rw [F.drop_all ln nc (by rw [HLN.out]; exact Nat.le_refl _)] at h
              simp only [F.size] at h
              omega
            have hsi := HSI.out
            obtain ⟨sz, hsz⟩ : ∃ sz, nc.size + 1 = sz := ⟨_, rfl⟩
            rw [hsz] at hsi hkp
            subst hkp
            have hsub : ((i + sz : Nat) : Int) - (i : Int) = (sz : Int) := by omega
            have hne : ((sz : Int) != (sz : Int)) = false := by simp
            have hs5 : sz ≤ 1000 := by omega
            clear hjl hsz
            go_wp2
            go_roundw
            case rel => exact ⟨i + 1, by have := HLT.out; omega, by go_num, by rw [HKN2.out], trivial⟩
            case measure => have := HLT.out; simp [intOf]; omega
      · obtain rfl : N = i := by omega
        have hlt' : ¬ (N : Int) < (N : Int) := by omega
        have hka := HKA.out
        rw [HN.out] at hka
        have heq : (((kidSum (kidF 0 T) N : Nat) : Int) == (N : Int) - 1) = true := by simp; omega
        generalize kidSum (kidF 0 T) N = ks at *
        clear hlt hka
        go_wp2_with fail
        refine (HKN.out wr (HPW.out.on HB4.out)).mono ?_
        rintro e w4 ⟨rfl, hb⟩
        obtain ⟨p0, p1, p2, p3⟩ := HY.out w4 hb
        have HB5 := Lib.hid (HB4.out.trans (hb.mono HB4.out.size))
        clear hb q0 q1 q2 q3
        go_wp2
        go_ret
        exact ⟨rfl, HB5.out⟩
end Go.Proofs.YtmknghhgcecafaaDoor.Shape
