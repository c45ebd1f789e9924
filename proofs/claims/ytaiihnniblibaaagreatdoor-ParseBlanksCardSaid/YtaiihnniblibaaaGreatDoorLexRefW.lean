/-
 Layer 4 (lex): the walk of the document's Tokens.
-/
import Derived.Test.YtaiihnniblibaaaGreatDoorLexRefT
namespace Go.Proofs.YtaiihnniblibaaaGreatDoor.Lex
open Go.ChangeShapes Go.WideShapes Go.ChangeAt Go.RowKit Utf MemT
set_option linter.unusedVariables false

set_option maxRecDepth 100000 in
set_option maxHeartbeats 8000000 in
theorem refTokens_any (A : Option Addr) (n cap : Nat) (xs : List Int) (w : World) (B : Nat) (h : RB w B A xs) (hB : B ≤ w.heap.size) (hn : xs.length = n) (hcap : n ≤ cap) (hcap' : cap ≤ maxLen) (hsm : n ≤ 100000) :
  Calls Tryz.prog 20 #[.slice A n cap] w (RefTPost xs w) := by
 have hble : bad xs ≤ n := by rw [← hn]; exact bad_le h.byt
 have hsg := refSigns_any A n cap xs w B h hn hB hcap hcap' (by omega)
 have hE : lexE xs = if bad xs < n then 3 else if left xs = [] then 0 else 4 := by rw [← hn]; rfl
 have hN : lexN xs = if bad xs < n then bad xs else if left xs = [] then 0 else n - (left xs).length := by rw [← hn]; rfl
 have hLT : lexT xs = if lexE xs = 0 then toks xs else [] := rfl
 have hnn : ¬ (16777216 : Int) < (n : Int) := by omega
 by_cases hb : bad xs < n
 ·rw [if_pos hb] at hE hN
  have HS : Hid (Calls Tryz.prog 30 #[.slice A n cap] w fun e w' => e = .returned (.tuple #[.slice none 0 0, .int .i64 (bad xs : Int)]) ∧ Below w.heap.size w w') := hsg.mono fun e w' hp => by
   rcases hp.2 with ⟨_, he⟩ | ⟨he, _⟩
   ·exact ⟨he, hp.1⟩
   ·omega
  have HF : Hid (∀ w', Below w.heap.size w w' → RefTPost xs w (.returned (.tuple #[.slice none 0 0, .int .i64 (bad xs : Int), .int .i64 3])) w') := fun w' hw => refT_post (by rw [hN]) (by rw [hE]) (by rw [hLT, hE]; exact World.ownsRow_nil _ _ _ _) hw
  clear hE hN hLT hsg hble h hn
  generalize bad xs = p at *
  have hpb : (p : Int) < (n : Int) := by omega
  go_enter Tryz.func20, Tryz.ntmps20
  go_wp2_with (go_at_call 30; refine HS.out.mono ?_; rintro e w' ⟨rfl, hbl⟩)
  go_ret3
  exact HF.out _ hbl
 ·rw [if_neg hb] at hE hN
  have HS : Hid (Calls Tryz.prog 30 #[.slice A n cap] w fun e w' => ∃ v, e = .returned (.tuple #[v, .int .i64 (n : Int)]) ∧ Below w.heap.size w w') := hsg.mono fun e w' hp => by
   rcases hp.2 with ⟨he, _⟩ | ⟨_, v, he, _⟩
   ·omega
   ·exact ⟨v, by rw [he, show bad xs = n from by omega], hp.1⟩
  have HF0 : Hid (∀ v w', left xs = [] → OwnR w' w.heap.size v (toks xs) → Below w.heap.size w w' → RefTPost xs w (.returned (.tuple #[v, .int .i64 0, .int .i64 0])) w') := fun v w' hl h1 h2 => by
   rw [if_pos hl] at hE hN
   exact refT_post (by rw [hN]; rfl) hE.symm (by rw [hLT, hE]; exact h1) h2
  have HF4 : Hid (∀ (k : Nat) w', left xs ≠ [] ∧ n - (left xs).length = k → Below w.heap.size w w' → RefTPost xs w (.returned (.tuple #[.slice none 0 0, .int .i64 (k : Int), .int .i64 4])) w') := fun k w' hl h2 => by
   rw [if_neg hl.1] at hE hN
   exact refT_post (by rw [hN, hl.2]) hE.symm (by rw [hLT, hE]; exact World.ownsRow_nil _ _ _ _) h2
  have HIX := one_idx h.byt
  have HX1 : Hid (∀ k, k ≤ n → (strOfNums xs).extract k n = strOfNums (xs.drop k)) := fun k hk => by
   rw [ext_drop xs h.byt, List.take_of_length_le (by rw [List.length_drop]; omega)]
  have HX2 : Hid (∀ k m, (strOfNums xs).extract k (k + m) = strOfNums ((xs.drop k).take m)) := fun k m => by
   rw [ext_drop xs h.byt, show k + m - k = m from by omega]
  have HONE : Hid (∀ k, k < n → blk (xs.getD k 0) = false → xs.getD k 0 ≠ 10 → ∀ K, (if (piece (xs.drop k)).2 = 0 then 0 else (piece (xs.drop k)).1) = K → ∀ W, Calls Tryz.prog 32 #[.string ((strOfNums xs).extract k n)] W fun e w' => e = .returned (.tuple #[.int .i64 K, .int .i64 ((piece (xs.drop k)).2 : Int)]) ∧ Below W.heap.size W w') := fun k hk h7 h8 K hK W => by
   have hg : (xs.drop k).getD 0 0 = xs.getD k 0 := by rw [getD_drop]; rfl
   rw [HX1.out k (by omega)]
   exact one_any (xs.drop k) (h.byt.drop k) (by rw [List.length_drop]; omega) (by rw [List.length_drop]; omega) (by rw [hg]; exact h7) (by rw [hg]; exact h8) K hK W
  have CV : Hid (∀ W, Below w.heap.size w W → (convert 30 9 (.slice A n cap)).run Tryz.prog W = .ok (.string (strOfNums xs)) W) := fun W hW => by
   have := run_conv (P := Tryz.prog) W 30 9 5 Tryz.underlying30 Tryz.underlying5 Tryz.underlying9 (h.below hW hB) cap
   rw [hn] at this; exact this
  have HBY := Lib.hid h.byt
  have hsz : (strOfNums xs).size = n := by rw [strOfNums_size, hn]
  have HM0 := Lib.hid (mid_start hn)
  have HBL : Hid (∀ c W, Calls Tryz.prog 31 #[.int .u8 c] W fun e w' => e = .returned (.bool (blk c)) ∧ W = w') := blank_any
  rw [hn] at HIX
  generalize strOfNums xs = s at *
  clear hE hN hLT hsg hble h hn hb hcap'
  go_enter Tryz.func20, Tryz.ntmps20
  go_wp2_with fail
  refine HS.out.mono ?_
  rintro e w1 ⟨v0, rfl, hb1⟩
  have cv := CV.out w1 hb1
  have HB1 := Lib.hid hb1
  clear hb1 HS CV
  go_wp2
  go_loopw [8, 9, 10, 11, 12, 13, 14] (fun v8 v9 v10 v11 _ _ _ wr => ∃ (k ln : Nat) (P : List (Tok × Nat)) (m : Nat) (a8 a9 : Option Addr) (c8 c9 : Nat), k ≤ n ∧ m ≤ k ∧ ln ≤ k ∧ v11 = .int .i64 k ∧ v10 = .int .i64 ln ∧ v8 = .slice a8 m c8 ∧ v9 = .slice a9 m c9 ∧ Hid (P.length = m) ∧ Hid (Mid xs n k P ln) ∧ Hid (FI wr w.heap.size (.slice a8 m c8) (.slice a9 m c9) P) ∧ Hid (Below w.heap.size w wr)) (fun _ _ _ v11 _ _ _ _ => n - (intOf v11).toNat)
  case atStart => exact ⟨0, 0, [], 0, none, none, 0, 0, by omega, by omega, by omega, rfl, rfl, rfl, rfl, rfl, HM0.out, ⟨World.ownsRow_nil _ _ _ _, World.ownsRow_nil _ _ _ _⟩, HB1.out⟩
  case round =>
   obtain ⟨k, ln, P, m, a8, a9, c8, c9, hk, hmk, hlnk, rfl, rfl, rfl, rfl, hpl, hmid, hfi, hbel⟩ := hrel
   by_cases hlk : k < n
   ·have hix := HIX.out k hlk
    have hlk' : (k : Int) < (n : Int) := by omega
    have HM1 : Hid (xs.getD k 0 = 10 → Mid xs n (k + 1) P (ln + 1)) := fun e => mid_nl hmid.out hlk e
    have HM2 : Hid (blk (xs.getD k 0) = true → Mid xs n (k + 1) P ln) := fun e => mid_blk hmid.out hlk e
    have HM3 : Hid (blk (xs.getD k 0) = false → xs.getD k 0 ≠ 10 → ∀ (K : Int) (mm : Nat), piece (xs.drop k) = (K, mm) → mm ≠ 0 → k + mm ≤ n ∧ Mid xs n (k + mm) (P ++ [(⟨K, (xs.drop k).take mm, k, begins P ln⟩, ln)]) ln) := fun e1 e2 K mm a b => mid_tok hmid.out hlk e1 e2 a b
    have HO0 := Lib.hid (HONE.out k hlk)
    by_cases h10 : xs.getD k 0 = 10
    ·have HM := Lib.hid (HM1.out h10)
     rw [h10] at hix
     clear HM1 HM2 HM3 HO0 h10
     go_wp2
     go_roundw
     case rel => exact ⟨k + 1, ln + 1, P, m, a8, a9, c8, c9, by omega, by omega, by omega, by go_num, by go_num, rfl, rfl, hpl, HM, hfi, hbel⟩
     case measure => simp [intOf]; omega
    have n10 := beq_no h10
    cases hblk : blk (xs.getD k 0) with
    | true =>
     have HM := Lib.hid (HM2.out hblk)
     have hcc := HBL.out (xs.getD k 0)
     rw [hblk] at hcc
     have HC := Lib.hid hcc
     clear HM1 HM2 HM3 HO0 h10 hblk hcc
     generalize xs.getD k 0 = c at *
     go_wp2_with (first | (go_at_call 31; refine (HC.out _).mono ?_; rintro e w' ⟨rfl, rfl⟩))
     go_roundw
     case rel => exact ⟨k + 1, ln, P, m, a8, a9, c8, c9, by omega, by omega, by omega, by go_num, rfl, rfl, rfl, hpl, HM, hfi, hbel⟩
     case measure => simp [intOf]; omega
    | false =>
     have hcc := HBL.out (xs.getD k 0)
     rw [hblk] at hcc
     have HC := Lib.hid hcc
     have HM := Lib.hid (HM3.out hblk h10)
     have HO := Lib.hid (HO0.out hblk h10)
     have HST := Lib.hid (mid_stop hmid.out hlk)
     clear HM1 HM2 HM3 HO0 h10 hblk hcc
     generalize xs.getD k 0 = c at *
     obtain ⟨K0, mm, hp⟩ : ∃ K0 mm, piece (xs.drop k) = (K0, mm) := ⟨_, _, rfl⟩
     rw [hp] at HO HST
     by_cases h0 : mm = 0
     ·subst h0
      have HO1 := Lib.hid (HO.out 0 rfl)
      have HST1 := Lib.hid (HST.out rfl)
      clear HM hp HO HST
      go_wp2_with (first | (go_at_call 31; refine (HC.out _).mono ?_; rintro e w' ⟨rfl, rfl⟩) | (go_at_call 32; ((with_reducible refine (HO1.out _).mono ?_)); rintro e w2 ⟨rfl, hb2⟩))
      go_ret3
      exact HF4.out k _ HST1.out (hbel.out.trans (hb2.mono hbel.out.size))
     ·obtain ⟨hkm, hmx⟩ := HM.out K0 mm hp h0
      have HMX := Lib.hid hmx
      have HO1 := Lib.hid (HO.out K0 (if_neg h0))
      have hx2 := HX2.out k mm
      have nz : ((mm : Int) == 0) = false := beq_no (by omega)
      have hkm' : (k : Int) + (mm : Int) ≤ (n : Int) := by omega
      have hmp : 0 < mm := by omega
      clear HM HO hp hmx HST
      obtain ⟨fb, hfb⟩ : ∃ fb, begins P ln = fb := ⟨_, rfl⟩
      rw [hfb] at HMX
      generalize (xs.drop k).take mm = tx at *
      have hlt : (P.map (·.1)).length = m := by rw [List.length_map, hpl.out]
      have hli : (P.map fun x => (x.2 : Int)).length = m := by rw [List.length_map, hpl.out]
      have HLT := Lib.hid hlt; have HLI := Lib.hid hli
      have hsl : ∀ W : World, (Instr.slice 9 (.string s) (some (.int .i64 (k : Int))) (some (.int .i64 ((k : Int) + (mm : Int)))) none).run Tryz.prog W = .ok (.string (strOfNums tx)) W := fun W => by
       rw [run_slice_string (P := Tryz.prog) W 9 s .i64 .i64 (k : Int) ((k : Int) + (mm : Int)) Tryz.underlying9 (by omega) (by omega) (by omega), show ((k : Int) + (mm : Int)).toNat = k + mm from by omega, show (k : Int).toNat = k from by omega, hx2]
      clear hx2
      have hl3 : ∀ t : Tok, (P.map (·.1) ++ [t]).length = P.length + 1 := fun t => by simp
      have hl4 : ∀ y : Int, ((P.map fun x => (x.2 : Int)) ++ [y]).length = P.length + 1 := fun t => by simp
      have HPL : Hid (∀ t : Tok × Nat, (P ++ [t]).length = P.length + 1) := fun t => by simp
      have hplk : P.length ≤ k := by rw [hpl.out]; exact hmk
      clear hlt hli
      have HFB := Lib.hid hfb
      clear hfb h0
      go_wp2_with (first | (go_at_call 31; refine (HC.out _).mono ?_; rintro e w' ⟨rfl, rfl⟩))
      with_reducible refine (HO1.out _).mono ?_
      rintro e w2 ⟨rfl, hb2⟩
      have HB2 := Lib.hid (hbel.out.trans (hb2.mono hbel.out.size))
      have HOR : Hid (OwnR w2 w.heap.size (.slice a8 m c8) (P.map (·.1))) := own_below hfi.out.1 hb2 (Nat.le_refl _)
      have HOI : Hid (OwnI w2 w.heap.size (.slice a9 m c9) (P.map fun x => (x.2 : Int))) := own_below hfi.out.2 hb2 (Nat.le_refl _)
      clear hb2 hfi hbel HC HO1
      have hm0 : m = 0 ∨ ∃ m', m = m' + 1 := by
       cases m with
       | zero => exact .inl rfl
       | succ m' => exact .inr ⟨m', rfl⟩
      rcases hm0 with rfl | ⟨m', rfl⟩
      case' inl =>
       have hfb : fb = true := by
        have hP : P = [] := List.eq_nil_of_length_eq_zero hpl.out
        rw [← HFB.out, hP]; rfl
       subst hfb
      case' inr =>
       have hri : RI w2 w2.heap.size a9 (P.map fun x => (x.2 : Int)) := own_ri (n := m' + 1) (c := c9) (by have := HOI.out; unfold OwnI at this; rw [HLI.out] at this; exact this)
       obtain ⟨b9, off9, rfl, _, hc9⟩ := hri.at_ (i := m') (by rw [HLI.out]; omega)
       have hy : (P.map fun x => (x.2 : Int)).getD m' 0 = ((P.getD m' (⟨0, [], 0, false⟩, 0)).2 : Int) := by
        simp [List.getD, List.getElem?_eq_getElem (show m' < P.length by rw [hpl.out]; omega)]
       have hdy : decide (((P.getD m' (⟨0, [], 0, false⟩, 0)).2 : Int) < (ln : Int)) = fb := by
        rw [← HFB.out, begins_at hpl.out]; simp
       rw [hy] at hc9
       generalize ((P.getD m' (⟨0, [], 0, false⟩, 0)).2 : Int) = y at *
       have nm : ((m' : Int) + 1 == 0) = false := beq_no (by omega)
       clear hri hy
      all_goals
       go_wp2_with (at_builtin; refine app_tokR w2 rfl _ _ rfl w.heap.size (.slice a8 _ c8) _ _ _ ⟨K0, tx, k, _⟩ rfl HOR.out HOI.out w2.heap.size rfl rfl ?c1 HB2.out.size ?_)
       case c1 => rw [HLT.out]; omega
       intro v3 w3 hown3 hoth3 hb3
       obtain ⟨a3, c3, rfl, _, _⟩ := ownR_slice hown3
       rw [hl3] at hown3 ⊢
       have HO3 := Lib.hid hown3; have HI3 := Lib.hid hoth3; have HB3 := Lib.hid (HB2.out.trans (hb3.mono (Nat.le_refl _)))
       clear hown3 hoth3 hb3 HOR HOI HB2
       go_wp2_with (at_builtin; refine app_intR w3 rfl _ _ rfl w.heap.size (.slice _ _ c9) _ _ _ (ln : Int) rfl HI3.out HO3.out w3.heap.size rfl rfl ?c2 HB3.out.size ?_)
       case c2 => rw [HLI.out]; omega
       intro v4 w4 hown4 hoth4 hb4
       obtain ⟨a4, c4, rfl, _, _⟩ := ownI_slice hown4
       rw [hl4] at hown4 ⊢
       have HO4 := Lib.hid hoth4; have HI4 := Lib.hid hown4; have HB4 := Lib.hid (HB3.out.trans (hb4.mono (Nat.le_refl _)))
       clear hown4 hoth4 hb4 HO3 HI3 HB3 hsl
       generalize P.length = pl at *
       go_wp2
       go_roundw
       case rel => exact ⟨k + mm, ln, _, pl + 1, a3, a4, c3, c4, by omega, by omega, by omega, by go_num, rfl, rfl, rfl, HPL.out _, HMX.out, ⟨by rw [List.map_append]; exact HO4.out, by rw [List.map_append]; exact HI4.out⟩, HB4.out⟩
       case measure => simp [intOf]; omega
   ·obtain ⟨hl, hP⟩ := mid_end hmid.out (by omega)
    have hout : outL P = toks xs := by rw [hP]; exact outL_toks hl
    have HPT : Hid (∀ t l, (t, l) ∈ P → Byt t.text ∧ t.place + t.text.length ≤ n) := fun t l hx => by
     have hlen := hmid.out.2.2.2.2
     rw [hP] at hx
     have hc := tiles_cat (tiles_of xs)
     rw [hl, List.append_nil] at hc
     have h := plain_part (pieces xs) 0 0 true (t, l) hx
     rw [← hc, hlen] at h
     refine ⟨fun y hy => HBY.out y (h.2 y hy), ?_⟩
     have h1 := h.1
     simp only at h1; omega
    have HF : Hid (∀ v w', OwnR w' w.heap.size v (outL P) → Below w.heap.size w w' → RefTPost xs w (.returned (.tuple #[v, .int .i64 0, .int .i64 0])) w') := fun v w' a b => HF0.out v w' hl (by rw [← hout]; exact a) b
    have HRT : Hid (RT tokC 4 wr wr.heap.size a8 (P.map (·.1))) := own_rt (n := m) (c := c8) tokC_len (by have h := hfi.out.1; unfold OwnR at h; rw [List.length_map, hpl.out] at h; exact h) (by rw [List.length_map, hpl.out])
    have HRI : Hid (RI wr wr.heap.size a9 (P.map fun x => (x.2 : Int))) := own_ri (n := m) (c := c9) (by have h := hfi.out.2; unfold OwnI at h; rw [List.length_map, hpl.out] at h; exact h)
    have hnk : ¬ (k : Int) < (n : Int) := by omega
    have hmn : m ≤ 100000 := by omega
    clear hl hP hout hmid hfi HF0 HF4 HIX HX1 HX2 HONE HM0 HBL HBY
    obtain ⟨w4, hw4⟩ : ∃ x, x = wr := ⟨_, rfl⟩
    subst hw4
    go_wp2
    go_loopw [15, 16, 17, 18] (fun v15 v16 _ _ w5 => ∃ (i : Nat) (out : List Tok) (a5 : Option Addr) (c5 q : Nat), i ≤ m ∧ v16 = .int .i64 i ∧ v15 = .slice a5 q c5 ∧ Hid (out.length = q) ∧ Hid (OutAt P i out) ∧ Hid (OwnR w5 w4.heap.size (.slice a5 q c5) out) ∧ Hid (Below w4.heap.size w4 w5)) (fun _ v16 _ _ _ => m - (intOf v16).toNat)
    case atStart => exact ⟨0, [], none, 0, 0, by omega, rfl, rfl, rfl, out_start P, World.ownsRow_nil _ _ _ _, Below.refl _ _⟩
    case round =>
     obtain ⟨i, out, a5, c5, q, hi, rfl, rfl, hq, hout, hown, hb5⟩ := hrel
     by_cases him : i < m
     ·have hiP : i < P.length := by rw [hpl.out]; exact him
      obtain ⟨t, l0, hx⟩ : ∃ t l, P[i]? = some (t, l) := ⟨P[i].1, P[i].2, List.getElem?_eq_getElem hiP⟩
      obtain ⟨b8, rfl, hb8, hc8⟩ := HRT.out.at_ (by rw [List.length_map]; omega)
      obtain ⟨b9, off9, rfl, hb9, _⟩ := HRI.out.at_ (i := i) (by rw [List.length_map]; exact hiP)
      have HC8 : Hid (∀ W, Below w4.heap.size w4 W → ∀ j u l, P[j]? = some (u, l) → ∀ z y, (tokC u)[z]? = some y → W.cell? ⟨b8, j * 4 + z, none⟩ = some y) := fun W hW j u l hj z y hz => (hW.cell (p := ⟨b8, j * 4 + z, none⟩) hb8).trans (hc8 j u (by rw [List.getElem?_map, hj]; rfl) z y hz)
      have HC9 : Hid (∀ W, Below w4.heap.size w4 W → ∀ (j : Nat) (u : Tok) (l : Nat), P[j]? = some (u, l) → W.cell? ⟨b9, off9 + j, none⟩ = some (.int .i64 (l : Int))) := fun W hW j u l hj => by
       have hjl : j < P.length := by
        rcases Nat.lt_or_ge j P.length with h' | h'
        ·exact h'
        ·rw [List.getElem?_eq_none h'] at hj; cases hj
       obtain ⟨b', off', e', hb', hc'⟩ := HRI.out.at_ (i := j) (by rw [List.length_map]; exact hjl)
       have e2 := Addr.mk.inj (Option.some.inj e')
       obtain ⟨e3, e4, _⟩ := e2
       rw [e3, e4, hW.cell (p := ⟨b', off' + j, none⟩) hb', hc']
       simp [List.getD, hj]
      have hs12 := out_step hout.out hx
      obtain ⟨ov, hov⟩ : ∃ b, overL l0 (P.drop (i + 1)) = b := ⟨_, rfl⟩
      obtain ⟨cl, hcl⟩ : ∃ b, closes t.kind t.text = b := ⟨_, rfl⟩
      have hcc := fun W => refCloses_any t.kind t.text (HPT.out t l0 (List.mem_of_getElem? hx)).1 (t.place : Int) t.first W
      rw [hov, hcl] at hs12
      rw [hcl] at hcc
      have HCL : Hid (∀ W, Calls Tryz.prog 33 #[.agg #[.int .i64 t.kind, .string (strOfNums t.text), .int .i64 (t.place : Int), .bool t.first]] W fun e w' => e = .returned (.bool cl) ∧ Below W.heap.size W w') := hcc
      have HS12 := Lib.hid hs12
      have HOV := Lib.hid hov
      have d0 : wr.cell? ⟨b8, i * 4, none⟩ = some (.int .i64 t.kind) := HC8.out wr hb5.out i t l0 hx 0 _ rfl
      have d1 : wr.cell? ⟨b8, i * 4 + 1, none⟩ = some (.string (strOfNums t.text)) := HC8.out wr hb5.out i t l0 hx 1 _ rfl
      have d2 : wr.cell? ⟨b8, i * 4 + 2, none⟩ = some (.int .i64 (t.place : Int)) := HC8.out wr hb5.out i t l0 hx 2 _ rfl
      have d3 : wr.cell? ⟨b8, i * 4 + 3, none⟩ = some (.bool t.first) := HC8.out wr hb5.out i t l0 hx 3 _ rfl
      have hlt' : (i : Int) < (m : Int) := by omega
      have HX := Lib.hid hx
      have HPLN := Lib.hid (HPT.out t l0 (List.mem_of_getElem? hx)).2
      clear hcc hs12 hov hcl hx hiP hb8 hb9 hc8
      go_wp2_with (at_builtin; refine app_tokR wr rfl _ _ rfl w4.heap.size (.slice a5 _ c5) (.slice none 0 0) _ [] t rfl hown.out (World.ownsRow_nil _ _ _ _) wr.heap.size rfl rfl ?c3 hb5.out.size ?_)
      case c3 => have := hout.out.2; omega
      intro v6 w6 hown6 _ hb6
      obtain ⟨a6, c6, rfl, _, _⟩ := ownR_slice hown6
      have hl6 : (out ++ [t]).length = q + 1 := by rw [List.length_append, hq.out]; rfl
      rw [hl6] at hown6 ⊢
      obtain ⟨L6, hL6⟩ : ∃ L, out ++ [t] = L := ⟨_, rfl⟩
      have hs12 := HS12.out
      have hl2 := hout.out.2
      rw [hL6] at hs12 hown6 hl6
      have HS12 := Lib.hid hs12
      rw [hq.out] at hl2
      clear hs12 hL6
      have HO6 := Lib.hid hown6
      have HB6 := Lib.hid (hb5.out.trans hb6)
      clear hown6 hb6 hown hb5 d0 d1 d2 d3
      go_wp2
      go_loopw [17] (fun v17 wi => ∃ (j dq : Nat), i + 1 ≤ j ∧ j ≤ m ∧ v17 = .int .i64 j ∧ Hid (overL l0 (P.drop j) = ov) ∧ wi = w6.drewN dq) (fun v17 _ => m - (intOf v17).toNat)
      case atStart => exact ⟨i + 1, 0, by omega, by omega, by go_num, HOV.out, rfl⟩
      case round =>
       obtain ⟨j, dq, hij, hjm, rfl, hov, rfl⟩ := hrel
       have hcs := over_cases hpl.out hov.out
       have e9i : ∀ q, (w6.drewN q).cell? ⟨b9, off9 + i, none⟩ = some (.int .i64 (l0 : Int)) := fun q => HC9.out w6 HB6.out i t l0 HX.out
       have d0 : ∀ q, (w6.drewN q).cell? ⟨b8, i * 4, none⟩ = some (.int .i64 t.kind) := fun q => HC8.out w6 HB6.out i t l0 HX.out 0 _ rfl
       have d1 : ∀ q, (w6.drewN q).cell? ⟨b8, i * 4 + 1, none⟩ = some (.string (strOfNums t.text)) := fun q => HC8.out w6 HB6.out i t l0 HX.out 1 _ rfl
       have d2 : ∀ q, (w6.drewN q).cell? ⟨b8, i * 4 + 2, none⟩ = some (.int .i64 (t.place : Int)) := fun q => HC8.out w6 HB6.out i t l0 HX.out 2 _ rfl
       have d3 : ∀ q, (w6.drewN q).cell? ⟨b8, i * 4 + 3, none⟩ = some (.bool t.first) := fun q => HC8.out w6 HB6.out i t l0 HX.out 3 _ rfl
       have HE8 : Hid (∀ q u l, P[j]? = some (u, l) → (w6.drewN q).cell? ⟨b8, j * 4, none⟩ = some (.int .i64 u.kind)) := fun q u l hu => HC8.out w6 HB6.out j u l hu 0 _ rfl
       have HE9 : Hid (∀ q u (l : Nat), P[j]? = some (u, l) → (w6.drewN q).cell? ⟨b9, off9 + j, none⟩ = some (.int .i64 (l : Int))) := fun q u l hu => HC9.out w6 HB6.out j u l hu
       have hi0 : (0 : Int) ≤ (i : Int) := by omega
       have hj0 : (0 : Int) ≤ (j : Int) := by omega
       rcases hcs with ⟨u, l, hjm', hu, hk5, hll⟩ | ⟨hovt, hT⟩ | ⟨hovf, hT⟩
       ·have f8 : ∀ q, (w6.drewN q).cell? ⟨b8, j * 4, none⟩ = some (.int .i64 5) := fun q => by rw [HE8.out q u l hu, hk5]
        have f9 : ∀ q, (w6.drewN q).cell? ⟨b9, off9 + j, none⟩ = some (.int .i64 (l0 : Int)) := fun q => by rw [HE9.out q u l hu, hll]
        have hjl' : (j : Int) < (m : Int) := by omega
        have HN := Lib.hid ((over_step hov.out hu).1 hk5 hll)
        have hleq : ((l0 : Int) == (l0 : Int)) = true := by simp
        clear d0 d1 d2 d3 hu hk5 hll hov
        go_wp2
        go_quiet (fail)
        go_wp2
        go_roundw
        case rel => exact ⟨j + 1, _, by omega, by omega, by go_num, HN.out, rfl⟩
        case measure => simp [intOf]; omega
       ·have HOT := Lib.hid hovt
        clear hovt
        rcases hT with ⟨u, l, hjm', hu, hk5, hll, hlt⟩ | ⟨u, l, hjm', hu, hk5, hlt⟩ | hjm'
        case' inl =>
         have f8 : ∀ q, (w6.drewN q).cell? ⟨b8, j * 4, none⟩ = some (.int .i64 5) := fun q => by rw [HE8.out q u l hu, hk5]
         have f9 : ∀ q, (w6.drewN q).cell? ⟨b9, off9 + j, none⟩ = some (.int .i64 (l : Int)) := fun q => HE9.out q u l hu
         have hjl' : (j : Int) < (m : Int) := by omega
         have hleq : ((l : Int) == (l0 : Int)) = false := beq_no (by omega)
         have hng : decide ((m : Int) ≤ (j : Int)) = false := decide_eq_false (by omega)
         have hlt' : (l0 : Int) < (l : Int) := by omega
         clear hu hk5 hll hlt hov
         go_wp2
         go_quiet (fail)
        case' inr.inl =>
         have f8 : ∀ q, (w6.drewN q).cell? ⟨b8, j * 4, none⟩ = some (.int .i64 u.kind) := fun q => HE8.out q u l hu
         have f9 : ∀ q, (w6.drewN q).cell? ⟨b9, off9 + j, none⟩ = some (.int .i64 (l : Int)) := fun q => HE9.out q u l hu
         have hjl' : (j : Int) < (m : Int) := by omega
         have hk5' : (u.kind == 5) = false := beq_no hk5
         have hng : decide ((m : Int) ≤ (j : Int)) = false := decide_eq_false (by omega)
         have hlt' : (l0 : Int) < (l : Int) := by omega
         clear hu hk5 hlt hov
         go_wp2
         go_quiet (fail)
        case' inr.inr =>
         obtain rfl : j = m := by omega
         have hjl' : decide ((j : Int) < (j : Int)) = false := decide_eq_false (by omega)
         clear hov
         go_wp2
         go_quiet (fail)
         have hng : (j : Int) ≤ (j : Int) := by omega
        all_goals
         go_wp2
         go_quiet (fail)
         go_wp2_with fail
         with_reducible refine (HCL.out _).mono ?_
         rintro e w7 ⟨rfl, hb7⟩
         have HB7 := Lib.hid ((below_drewN HB6.out _).trans (hb7.mono HB6.out.size))
         have HO7 := Lib.hid (own_below (own_drewN HO6.out _) hb7 (Nat.le_refl _))
         clear hb7 hjl' hng d0 d1 d2 d3 e9i
         cases cl with
         | false =>
          have HN := Lib.hid (HS12.out.2 (.inr rfl))
          go_wp2
          go_roundw
          case rel => exact ⟨i + 1, L6, a6, c6, q + 1, by omega, by go_num, rfl, hl6, HN.out, HO7.out, HB7.out⟩
          case measure => simp [intOf]; omega
         | true =>
          obtain ⟨pe, hpe⟩ : ∃ pe, t.place + t.text.length = pe := ⟨_, rfl⟩
          have hn1 := HS12.out.1 HOT.out rfl
          have hpn := HPLN.out
          rw [hpe] at hn1 hpn
          have HN := Lib.hid hn1
          have f1 : w7.cell? ⟨b8, i * 4 + 1, none⟩ = some (.string (strOfNums t.text)) := HC8.out w7 HB7.out i t l0 HX.out 1 _ rfl
          have f2 : w7.cell? ⟨b8, i * 4 + 2, none⟩ = some (.int .i64 (t.place : Int)) := HC8.out w7 HB7.out i t l0 HX.out 2 _ rfl
          have hts : (strOfNums t.text).size = t.text.length := strOfNums_size _
          have hpe' : (t.place : Int) + (t.text.length : Int) = (pe : Int) := by omega
          have hwp : IntKind.i64.wrap (pe : Int) = (pe : Int) := by rw [IntKind.wrap_i64]; omega
          have HL8 : Hid ((L6 ++ [(⟨6, [], pe, false⟩ : Tok)]).length = q + 2) := by
           show _ = _
           rw [List.length_append, hl6]; rfl
          have hql : L6.length ≤ 10000000 := by rw [hl6]; omega
          clear hn1 hpe
          go_wp2
          have KQ := Lib.hid (fun (W : World) (hW : Below w4.heap.size w4 W) => (⟨HC8.out W hW i t l0 HX.out 1 _ rfl, HC8.out W hW i t l0 HX.out 2 _ rfl, hW⟩ : W.cell? ⟨b8, i * 4 + 1, none⟩ = some (.string (strOfNums t.text)) ∧ W.cell? ⟨b8, i * 4 + 2, none⟩ = some (.int .i64 (t.place : Int)) ∧ Below w4.heap.size w4 W))
          have HBA : Hid (Below w4.heap.size w4 (w7.alloc (.cells (tokC ⟨6, [], pe, false⟩).toArray 51)).drew) := (HB7.out.alloc HB7.out.size _).drew
          go_region_held_law (fun W => W.cell? ⟨b8, i * 4 + 1, none⟩ = some (.string (strOfNums t.text)) ∧ W.cell? ⟨b8, i * 4 + 2, none⟩ = some (.int .i64 (t.place : Int)) ∧ Below w4.heap.size w4 W) (first | assumption | exact KQ.out _ (by assumption) | exact KQ.out _ HB7.out | exact KQ.out _ HB7.out.drew | exact KQ.out _ HBA.out) (first | (refine step_app_tokR rfl (.tmp 162) (.tmp 176) rfl w4.heap.size (.slice a6 _ c6) L6 ⟨6, [], pe, false⟩ rfl (HO7.out.alloc _).drew w7.heap.size rfl (tok_new w7 _) hql HBA.out.size ?_; intro v8 w8 hown8 hb8; have hk8 : Below w4.heap.size w4 w8 := hb8 w4 HBA.out; obtain ⟨a8', c8', rfl, _, _⟩ := ownR_slice hown8; clear hb8))
          rw [HL8.out] at hown8 ⊢
          have HO8 := Lib.hid hown8
          have HB8 := Lib.hid hk8
          clear hown8 hk8 f1 f2 hpe' hts
          go_wp2
          go_roundw
          case rel => exact ⟨i + 1, _, a8', c8', q + 2, by omega, by go_num, rfl, HL8.out, HN.out, HO8.out, HB8.out⟩
          case measure => simp [intOf]; omega
       ·rcases hT with ⟨u, l, hjm', hu, hk5, hll, hlt⟩ | ⟨u, l, hjm', hu, hk5, hlt⟩
        case' inl =>
         have f8 : ∀ q, (w6.drewN q).cell? ⟨b8, j * 4, none⟩ = some (.int .i64 5) := fun q => by rw [HE8.out q u l hu, hk5]
         have f9 : ∀ q, (w6.drewN q).cell? ⟨b9, off9 + j, none⟩ = some (.int .i64 (l : Int)) := fun q => HE9.out q u l hu
         have hjl' : (j : Int) < (m : Int) := by omega
         have hleq : ((l : Int) == (l0 : Int)) = false := beq_no (by omega)
         have hng : decide ((m : Int) ≤ (j : Int)) = false := decide_eq_false (by omega)
         have hlt' : decide ((l0 : Int) < (l : Int)) = false := decide_eq_false (by omega)
         clear hu hk5 hll hlt hov
        case' inr =>
         have f8 : ∀ q, (w6.drewN q).cell? ⟨b8, j * 4, none⟩ = some (.int .i64 u.kind) := fun q => HE8.out q u l hu
         have f9 : ∀ q, (w6.drewN q).cell? ⟨b9, off9 + j, none⟩ = some (.int .i64 (l : Int)) := fun q => HE9.out q u l hu
         have hjl' : (j : Int) < (m : Int) := by omega
         have hk5' : (u.kind == 5) = false := beq_no hk5
         have hng : decide ((m : Int) ≤ (j : Int)) = false := decide_eq_false (by omega)
         have hlt' : decide ((l0 : Int) < (l : Int)) = false := decide_eq_false (by omega)
         clear hu hk5 hlt hov
        all_goals
         have HN := Lib.hid (HS12.out.2 (.inl hovf))
         clear d0 d1 d2 d3 hovf
         go_wp2
         go_quiet (fail)
         go_wp2
         go_quiet (fail)
         have hlt2 : ¬ (l0 : Int) < (l : Int) := of_decide_eq_false hlt'
         go_wp2
         go_roundw
         case rel => exact ⟨i + 1, L6, a6, c6, q + 1, by omega, by go_num, rfl, hl6, HN.out, own_drewN HO6.out _, below_drewN HB6.out _⟩
         case measure => simp [intOf]; omega
     ·have HE : Hid (out = outL P) := out_end hout.out (by rw [hpl.out]; omega)
      have him' : ¬ (i : Int) < (m : Int) := by omega
      go_wp2
      go_ret3
      exact HF.out _ _ (by rw [← HE.out]; exact ownR_base hown.out hbel.out.size) (hbel.out.trans (hb5.out.mono hbel.out.size))

end Go.Proofs.YtaiihnniblibaaaGreatDoor.Lex
