/-
  Layer 5 (tree): the program's nodes: its closure, at every tree. Written by gen_treenodes.py.
-/
import Derived.Test.YtoecimgmghlfpaaDoorTreeNodesAt
import Derived.Test.YtoecimgmghlfpaaDoorMemRel4
import Derived.Shelf.Abstract
namespace Go.Proofs.YtoecimgmghlfpaaDoor.Tree
open Go.ChangeShapes Go.WideShapes Go.ChangeAt Go.RowKit Mem
set_option linter.unusedVariables false

/-- On the way down: ch: the nodes of the chain that have been added; the variable holds the last of them. -/
structure NdAt (w W : World) (B0 B gl ga : Nat) (v v' : Value) (L : List Nd) (nd : Nd) (ch : List Nd) (k : Int) (x y : ByteArray) (s : Value) (c : F) : Prop where
  add : AddP w W B0 B gl ga v v' (L ++ ch)
  no : some w.heap.size ≠ v'.ownBlock
  box : Boxed W w.heap.size k x y s
  fs : Fs W (Mi B0 B) s c
  eq : ch ++ chF c = nd :: chF nd.c
theorem AddP.list {w W : World} {B0 B gl ga : Nat} {v v' : Value} {L L' : List Nd} (h : AddP w W B0 B gl ga v v' L) (e : L = L') : AddP w W B0 B gl ga v v' L' := e ▸ h
def AddSpec (N : Nat) : Prop := ∀ (k : Int) (x y : ByteArray) (A : Option Addr) (n C : Nat) (c : F) (w : World) (gl ga : Nat) (av : Option Addr) (ln Cv : Nat) (L : List Nd) (B0 B : Nat), c.size ≤ N → L.length + c.size + 1 ≤ 1000000 → Fs w (Mi B0 B) (.slice A n C) c → LAt w B0 B gl ga (.slice av ln Cv) L →
  Calls Tryd.prog 34 #[.agg #[.int .i64 k, .string x, .string y, .slice A n C], .pointer (some ⟨gl, 0, none⟩), .pointer (some ⟨ga, 0, none⟩)] w fun e w' => e = .returned (.tuple #[]) ∧ ∃ (av' : Option Addr) (ln' Cv' : Nat), AddP w w' B0 B gl ga (.slice av ln Cv) (.slice av' ln' Cv') (L ++ (⟨k, x, y, c⟩ :: nodes c))

set_option maxRecDepth 100000 in
set_option maxHeartbeats 16000000 in
theorem add_step (N : Nat) (ih : ∀ M, M < N → AddSpec M) : AddSpec N := by
  intro k x y A n C c w gl ga av ln Cv L B0 B hN hbig hf hl
  have HIH := Lib.hid ih
  have HLW := Lib.hid hl
  have b1 := below1 w (.cells #[.int .i64 k, .string x, .string y, .slice A n C] 24)
  have HL0 := Lib.hid (hl.later b1)
  have HA0 : Hid (AddP w (w.alloc (.cells #[.int .i64 k, .string x, .string y, .slice A n C] 24)) B0 B gl ga (.slice av ln Cv) (.slice av ln Cv) L) := (AddP.refl hl).later b1
  have HBN := Lib.hid (boxed_new w k x y (.slice A n C))
  have HF0 := Lib.hid (hf.belowM b1 hl.hB.2.2.2)
  have HGN : Hid (w.heap.size ≠ gl ∧ some w.heap.size ≠ (Value.slice av ln Cv).ownBlock) := ⟨by have := hl.box.lt; omega, fun e => by have := hl.own.lt e.symm; omega⟩
  have HGO : Hid (¬ some w.heap.size = (Value.slice av ln Cv).ownBlock) := fun e => by have := hl.own.lt e.symm; omega
  have HGA : Hid (gl < w.heap.size ∧ ga < w.heap.size ∧ B ≤ w.heap.size) := ⟨hl.box.lt, hl.ha, hl.hB.2.2.2⟩
  have HLN : Hid (L.length = ln) := by
    obtain ⟨_, _, e, _, _⟩ := hl.own.slice
    injection e with _ e2 _
    exact e2.symm
  have HLL : Hid (L.length ≤ 1000000) := by show _ ≤ _; omega
  have hlnb : ln ≤ 1000000 := by have := HLN.out; omega
  have hbc := HL0.out.box.cell
  have HBIG := Lib.hid hbig
  obtain ⟨W0, hW0⟩ : ∃ W0, (w.alloc (.cells #[.int .i64 k, .string x, .string y, .slice A n C] 24)) = W0 := ⟨_, rfl⟩
  have HS0 : Hid (W0.heap.size = w.heap.size + 1) := by show _ = _; rw [← hW0]; simp
  rw [hW0] at HL0 HA0 HBN HF0 hbc
  clear ih hf hl b1 hbig
  go_enter Tryd.func34, Tryd.ntmps34
  go_wp2
  clear hbc hW0
  refine region_rel4 [0, 1, 2, 3, 4] 4 6 7 (fun W W' => Below W.heap.size W W') (fun W => Below W0.heap.size W0 W) (fun q r v' W => PhA W0 W B0 B gl ga (.slice av ln Cv) v' L (⟨k, x, y, c⟩ : Nd) q r) [Cd.any, Cd.any, Cd.any, ⟨fun v W => ∃ (b : Nat), v = .slice (some ⟨b, 0, none⟩) 1 1 ∧ b < W.heap.size ∧ W.cell? ⟨b, 0, none⟩ = some (.int .i64 0) ∧ W.cell? ⟨b, 1, none⟩ = some (.string ⟨#[]⟩) ∧ W.cell? ⟨b, 2, none⟩ = some (.string ⟨#[]⟩) ∧ W.cell? ⟨b, 3, none⟩ = some (.slice none 0 0), fun v W W' hU h => by obtain ⟨b, e, h2, c0, c1, c2, c3⟩ := h; exact ⟨b, e, Nat.lt_of_lt_of_le h2 hU.size, (hU.cell (p := ⟨b, 0, none⟩) h2).trans c0, (hU.cell (p := ⟨b, 1, none⟩) h2).trans c1, (hU.cell (p := ⟨b, 2, none⟩) h2).trans c2, (hU.cell (p := ⟨b, 3, none⟩) h2).trans c3⟩⟩, Cd.any, Cd.any, Cd.any, Cd.any] [(fun v => v = Value.slice av ln Cv), (fun v => v = Value.agg #[.int .i64 k, .string x, .string y, .slice A n C]), (fun v => v = Value.int .i64 (ln : Int)), (fun _ => True), (fun _ => True), (fun _ => True), (fun _ => True), (fun _ => True)] [(fun _ _ => True), (fun _ _ => True), (fun _ _ => True), (fun _ _ => True), (fun _ _ => True), (fun u v => ∀ (g n c : Nat), u = .slice (some ⟨g, 0, none⟩) n c → v = .pointer (some ⟨g, ln * 4, none⟩)), (fun _ _ => True), (fun _ _ => True)] (by kernel_rfl) (by decide) (by kernel_rfl) (by kernel_rfl) (by kernel_rfl) (by kernel_rfl) (by decide) (by decide) (by decide) (by decide) (by decide) ((Below.refl _ _).drew) (fun _ _ hU hS => hS.trans (hU.mono hS.size)) (fun _ _ _ _ _ hU hS => hS.later hU) ?steps ?behind
  case steps =>
    intro xv W a ha
    simp only [fillA] at ha
    simp only [List.setIfInBounds_toArray, List.set_cons_succ, List.set_cons_zero, Nat.zero_add, Nat.reduceAdd] at ha
    subst ha
    refine ⟨fun hI hd hdB pp qq rr hp0 hp1 hpre hpost hq0 hr0 hq1 hr1 K hK => ?s0, fun hI hd hdB pp qq rr hp0 hp1 hpre hpost hq0 hr0 hq1 hr1 K hK => ?s1, fun hI hd hdB pp qq rr hp0 hp1 hpre hpost hq0 hr0 hq1 hr1 K hK => ?s2, fun hI hd hdB pp qq rr hp0 hp1 hpre hpost hq0 hr0 hq1 hr1 K hK => ?s3, fun hI hd hdB pp qq rr hp0 hp1 hpre hpost hq0 hr0 hq1 hr1 K hK => ?s4, fun hI hd hdB pp qq rr hp0 hp1 hpre hpost hq0 hr0 hq1 hr1 K hK => ?s5, fun hI hd hdB pp qq rr hp0 hp1 hpre hpost hq0 hr0 hq1 hr1 K hK => ?s6, fun hI hd hdB pp qq rr hp0 hp1 hpre hpost hq0 hr0 hq1 hr1 K hK => ?s7, trivial⟩
    case s0 =>
      obtain rfl := hpre (.inl (by kernel_rfl))
      obtain ⟨hSW, he⟩ := hp0 rfl
      clear hd hp0 hp1 hpre hpost hq0 hr0 hq1 hr1 he
      simp only [Act.put, List.setIfInBounds_toArray, List.set_cons_succ, List.set_cons_zero] at hK
      refine (if_pos (by rfl)).mpr ?_
      have hbx := (HL0.out.later hSW).box.cell
      go_simp
      exact hK.out _ _ (fun _ _ _ => ⟨Below.refl _ _, trivial⟩) (fun e => absurd e (by decide)) (fun e => absurd e (by decide)) (fun e => absurd e (by decide)) rfl (fun _ => trivial)
    case s1 =>
      obtain rfl := hpre (.inl (by kernel_rfl))
      obtain ⟨hSW, he⟩ := hp0 rfl
      clear hd hp0 hp1 hpre hpost hq0 hr0 hq1 hr1 he
      simp only [Act.put, List.setIfInBounds_toArray, List.set_cons_succ, List.set_cons_zero] at hK
      refine (if_pos (by rfl)).mpr ?_
      obtain ⟨hq0, hq1, hq2, hq3⟩ := (HBN.out.below hSW HBN.out.lt).cells
      go_simp
      exact hK.out _ _ (fun _ _ _ => ⟨Below.refl _ _, trivial⟩) (fun e => absurd e (by decide)) (fun e => absurd e (by decide)) (fun e => absurd e (by decide)) rfl (fun _ => trivial)
    case s2 =>
      have hx0 : xv 0 = Value.slice av ln Cv := hd 0 (by kernel_rfl)
      clear hd hp0 hp1 hpre hpost hq0 hr0 hq1 hr1
      simp only [Act.put, List.setIfInBounds_toArray, List.set_cons_succ, List.set_cons_zero] at hK
      rw [hx0] at hK ⊢
      refine (if_pos (by rfl)).mpr ?_
      go_simp
      exact hK.out _ _ (fun _ _ _ => ⟨Below.refl _ _, trivial⟩) (fun e => absurd e (by decide)) (fun e => absurd e (by decide)) (fun e => absurd e (by decide)) rfl (fun _ => trivial)
    case s3 =>
      clear hd hp0 hp1 hpre hpost hq0 hr0 hq1 hr1
      simp only [Act.put, List.setIfInBounds_toArray, List.set_cons_succ, List.set_cons_zero] at hK
      refine (if_pos (by rfl)).mpr ?_
      go_simp
      have hb := below1 W (.cells #[.int .i64 0, .string ⟨#[]⟩, .string ⟨#[]⟩, .slice none 0 0] 24)
      obtain ⟨z0, z1, z2, z3⟩ := (boxed_new W 0 ⟨#[]⟩ ⟨#[]⟩ (.slice none 0 0)).cells
      exact hK.out _ _ (fun _ _ _ => ⟨hb, W.heap.size, rfl, by simp, z0, z1, z2, z3⟩) (fun e => absurd e (by decide)) (fun e => absurd e (by decide)) (fun e => absurd e (by decide)) trivial (fun _ => trivial)
    case s4 =>
      have hx0 : xv 0 = Value.slice av ln Cv := hd 0 (by kernel_rfl)
      obtain rfl := hpre (.inr rfl)
      obtain ⟨hSW, he⟩ := hp0 rfl
      have he3 : ∃ (b : Nat), xv 3 = .slice (some ⟨b, 0, none⟩) 1 1 ∧ b < W.heap.size ∧ W.cell? ⟨b, 0, none⟩ = some (.int .i64 0) ∧ W.cell? ⟨b, 1, none⟩ = some (.string ⟨#[]⟩) ∧ W.cell? ⟨b, 2, none⟩ = some (.string ⟨#[]⟩) ∧ W.cell? ⟨b, 3, none⟩ = some (.slice none 0 0) := he 3 (by kernel_rfl)
      clear hd hp0 hp1 hpre hpost hq0 hr0 hq1 hr1 he
      simp only [Act.put, List.setIfInBounds_toArray, List.set_cons_succ, List.set_cons_zero] at hK
      rw [hx0] at hK ⊢
      refine (if_pos (by rfl)).mpr ?_
      obtain ⟨b, e3, h2, u0, u1, u2, u3⟩ := he3
      have HLW := HL0.out.later hSW
      rw [e3] at hK ⊢
      refine wp_app_own _ _ rfl (Mi B0 B) (Value.slice av ln Cv) L b 1 ⟨0, ⟨#[]⟩, ⟨#[]⟩, .nil⟩ (.slice none 0 0) rfl rfl ⟨u0, u1, u2, u3⟩ HLW.own (fs_empty _ _) (fun b' hb' => ⟨Nat.lt_of_lt_of_le hb'.2 HLW.hB.2.2.2, fun e => by have := (HLW.d b' e.symm).1; have hb2 : b' < B := hb'.2; omega⟩) HLL.out ?_
      intro v' w' r1 r2 r3
      exact hK.out _ _ (fun e => absurd rfl e) (fun _ => PhA.start HLW hSW r1 r2 r3) (fun e => absurd e (by decide)) (fun e => absurd e (by decide)) trivial (fun _ => trivial)
    case s5 =>
      have hx2 : xv 2 = Value.int .i64 (ln : Int) := hd 2 (by kernel_rfl)
      obtain rfl := hpost (by kernel_rfl)
      have hPh := hp1 rfl
      clear hd hp0 hp1 hpre hpost hq0 hr0 hq1 hr1
      simp only [Act.put, List.setIfInBounds_toArray, List.set_cons_succ, List.set_cons_zero] at hK
      rw [hx2] at hK ⊢
      refine (if_pos (by rfl)).mpr ?_
      obtain ⟨g', c', e4⟩ := hPh.form HLN.out
      rw [e4] at hK ⊢
      have hlt5 : (ln : Int) < (ln : Int) + 1 := by omega
      go_simp
      exact hK.out (.pointer (some ⟨g', ln * 4, none⟩)) _ (fun _ _ _ => ⟨Below.refl _ _, trivial⟩) (fun e => absurd e (by decide)) (fun e => absurd e (by decide)) (fun e => absurd e (by decide)) trivial (fun _ g n c e => by injection e with e1 _ _; injection e1 with e1; injection e1 with e1; rw [e1])
    case s6 =>
      have hx1 : xv 1 = Value.agg #[.int .i64 k, .string x, .string y, .slice A n C] := hd 1 (by kernel_rfl)
      obtain rfl := hpost (by kernel_rfl)
      obtain rfl := hq0 (.inr rfl)
      have hPh := hp1 rfl
      clear hd hp0 hp1 hpre hpost hq0 hr0 hq1 hr1
      simp only [Act.put] at hK
      rw [hx1] at hK ⊢
      refine (if_pos (by rfl)).mpr ?_
      have hb5 : ∀ (g n c : Nat), xv 4 = .slice (some ⟨g, 0, none⟩) n c → xv 5 = .pointer (some ⟨g, ln * 4, none⟩) := hdB 5 (by kernel_rfl) (by kernel_rfl)
      obtain ⟨g', c', e4⟩ := hPh.form HLN.out
      have e5 := hb5 _ _ _ e4
      rw [e4] at hPh hK ⊢
      rw [e5] at hK ⊢
      obtain ⟨⟨kz, xz, yz, sz, z0, z1, z2, z3⟩, y0, y1, y2, y3⟩ := hPh.cells HLN.out
      have hput := hPh.putN (s := .slice A n C) (hPh.fr.lo HL0.out HF0.out)
      unfold put4 at hput
      rw [HLN.out] at hput
      clear hb5 hdB
      go_simp
      exact hK.out undef _ (fun _ e => absurd rfl e) (fun e => absurd e (by decide)) (fun _ => hput) (fun e => absurd e (by decide)) trivial (fun _ => trivial)
    case s7 =>
      obtain rfl := hpost (by kernel_rfl)
      obtain rfl := hr0 (.inr rfl)
      have hPh := hp1 rfl
      clear hd hp0 hp1 hpre hpost hq0 hr0 hq1 hr1
      simp only [Act.put] at hK
      refine (if_pos (by rfl)).mpr ?_
      obtain ⟨g', c', e4⟩ := hPh.form HLN.out
      have hput := hPh.putL
      have hbc := hPh.box.cell
      have hbf := hPh.box.frz
      simp only [Bool.false_eq_true, if_false] at hbc
      rw [e4] at hput hK ⊢
      go_simp
      exact hK.out undef _ (fun _ _ e => absurd rfl e) (fun e => absurd e (by decide)) (fun e => absurd e (by decide)) (fun _ => hput) trivial (fun _ => trivial)
  case behind =>
    intro xv W hW hx hxB a ha
    simp only [fillA] at ha
    simp only [List.setIfInBounds_toArray, List.set_cons_succ, List.set_cons_zero, Nat.zero_add, Nat.reduceAdd] at ha
    subst ha
    obtain ⟨g', c', e4⟩ := hW.form HLN.out
    have hadd := hW.done HL0.out
    rw [e4] at hadd ⊢
    rename World => w5
    have HADD := Lib.hid hadd
    clear hx hxB hW hadd e4
    have HM : Hid (NdAt w w5 B0 B gl ga (.slice av ln Cv) (.slice (some ⟨g', 0, none⟩) (ln + 1) c') L ⟨k, x, y, c⟩ [(⟨k, x, y, c⟩ : Nd)] k x y (.slice A n C) c) := by
      refine ⟨HA0.out.trans HADD.out, fun e => ?_, (HADD.out.keep HBN.out.lt HGN.out.1 HGN.out.2).trans HBN.out, HADD.out.fr.lo HL0.out HF0.out, rfl⟩
      rcases HADD.out.nb with h | ⟨g, h, hg⟩
      · rw [h] at e
        exact HGO.out e
      · rw [h] at e
        have := Option.some.inj e
        have := HS0.out
        omega
    obtain ⟨p0, p1, p2, p3⟩ := HM.out.box.cells
    clear HADD HF0 HBN HGN HLL HA0 HL0
    go_wp2
    go_loopg [16] (c.size + 1) (fun p s16 wr => ∃ (kk : Int) (kx ky : ByteArray) (Ak : Option Addr) (kn Ck : Nat) (kc : F) (av2 : Option Addr) (ln2 Cv2 : Nat) (ch : List Nd), kc.size < p ∧ Hid (NdAt w wr B0 B gl ga (.slice av ln Cv) (.slice av2 ln2 Cv2) L ⟨k, x, y, c⟩ ch kk kx ky (.slice Ak kn Ck) kc))
    case atStart => exact ⟨k, x, y, A, n, C, c, some ⟨g', 0, none⟩, ln + 1, c', _, by omega, HM.out⟩
    case round =>
      clear HM
      obtain ⟨kk, kx, ky, Ak, kn, Ck, kc, av2, ln2, Cv2, ch, hsz, HM⟩ := hrel
      obtain ⟨p0, p1, p2, p3⟩ := HM.out.box.cells
      obtain ⟨_, _, e, _, hkC⟩ := HM.out.fs.slice
      injection e with q1 q2 q3
      have HKN := Lib.hid q2
      have hkC' : Ck ≤ 9223372036854775807 := by omega
      have HLNX : Hid ((L ++ ch).length = ln2) := by
        obtain ⟨_, _, e, _, _⟩ := HM.out.add.at_.own.slice
        injection e with _ e2 _
        exact e2.symm
      clear q1 q2 q3 hkC
      cases hkc : kc with
      | nil =>
        have hkn : kn = 0 := by rw [HKN.out, hkc]; rfl
        have hch : ch = ⟨k, x, y, c⟩ :: chF c := by have := HM.out.eq; rw [hkc] at this; simpa [chF] using this
        subst hkn
        have HADD := Lib.hid HM.out.add
        rw [hch] at HADD HLNX
        have hbl := HM.out.add.at_.box.cell
        obtain ⟨m, hm⟩ : ∃ m, (chF c).length = m := ⟨_, rfl⟩
        have hln : ln2 = ln + 1 + m := by
          have := HLNX.out
          rw [List.length_append, HLN.out, List.length_cons, hm] at this
          omega
        have hmb : m ≤ 1000000 := by
          have h1 := nodes_len c
          rw [nodes_ch, List.length_append, hm] at h1
          have := HBIG.out
          omega
        have HMM := Lib.hid hm
        subst hln
        have hw2 : IntKind.i64.wrap (((ln + 1 + m : Nat) : Int) - 2) = ((ln + m : Nat) : Int) - 1 := by rw [IntKind.wrap_i64]; omega
        have HCH : Hid (∀ j, j ≤ m → ∃ n', (⟨k, x, y, c⟩ :: chF c : List Nd)[j]? = some n' ∧ n'.c = subF j c) := fun j hj => chain_at j ⟨k, x, y, c⟩ (by show j ≤ (chF c).length; omega)
        clear hkc hch HM hm HKN HLNX
        go_wp2
        clear hbl hw2 p0 p1 p2 p3
        go_loopw [5] (fun s5 wq => ∃ (j : Nat) (av3 : Option Addr) (ln3 Cv3 : Nat), j ≤ m ∧ s5 = .int .i64 (((ln + j : Nat) : Int) - 1) ∧ Hid (AddP w wq B0 B gl ga (.slice av ln Cv) (.slice av3 ln3 Cv3) (L ++ ((⟨k, x, y, c⟩ :: chF c) ++ dnF (subF j c))))) (fun s5 _ => (intOf s5 - (ln : Int) + 1).toNat)
        case atStart => exact ⟨m, av2, ln + 1 + m, Cv2, Nat.le_refl _, by rw [show (ln : Int) + 1 + (m : Int) - 2 = ((ln + m : Nat) : Int) - 1 by omega], HADD.out.list (by rw [← HMM.out, subF_end]; simp [dnF])⟩
        case round =>
          clear HADD
          obtain ⟨j, av3, ln3, Cv3, hj, rfl, HADD⟩ := hrel
          rename World => wq
          have hbl := HADD.out.at_.box.cell
          cases j with
          | zero =>
            have hlt' : ¬ (ln : Int) ≤ ((ln + 0 : Nat) : Int) - 1 := by omega
            have HE := Lib.hid (HADD.out.list (L' := L ++ (⟨k, x, y, c⟩ :: nodes c)) (by rw [nodes_ch]; rfl))
            go_wp2
            first | refine bodyPost_end (results_none rfl _ _ _) rfl ?_ | refine bodyPost_ret (results_none rfl _ _ _) rfl ?_
            exact ⟨rfl, av3, ln3, Cv3, HE.out⟩
          | succ j =>
            rw [show ((ln + (j + 1) : Nat) : Int) - 1 = ((ln + j : Nat) : Int) by omega]
            obtain ⟨ij, hij⟩ : ∃ ij, ln + j = ij := ⟨_, rfl⟩
            obtain ⟨k1, x1, y1, c1, r1, hs1, hs2⟩ := subF_cons j c (by rw [HMM.out]; omega)
            obtain ⟨n', hn1, hn2⟩ := HCH.out j (by omega)
            have hnx : (L ++ ((⟨k, x, y, c⟩ :: chF c) ++ dnF (subF (j + 1) c)))[ln + j]? = some n' := by
              have hlt := (List.getElem?_eq_some_iff.1 hn1).1
              rw [List.getElem?_append_right (by rw [HLN.out]; omega), HLN.out, show ln + j - ln = j by omega, List.getElem?_append_left hlt]
              exact hn1
            have hll : ln + j < ln3 := by
              have hlt := (List.getElem?_eq_some_iff.1 hnx).1
              obtain ⟨_, _, e, _, _⟩ := HADD.out.at_.own.slice
              injection e with _ e2 _
              rw [e2]; exact hlt
            obtain ⟨g, s, rfl, hgl, d0, d1, d2, d3, hfs⟩ := HADD.out.at_.own.at_ hnx
            rw [hn2, hs1] at hfs
            obtain ⟨_, _, e, hrC, hrm⟩ := hfs.slice
            have hsh : ∃ ba oa nr Cr, s = .slice (some ⟨ba, oa, none⟩) nr Cr := by
              obtain ⟨b, off, _, _, _, e, _⟩ := hfs
              exact ⟨b, off, _, _, e⟩
            obtain ⟨ba, oa, nr, Cr, rfl⟩ := hsh
            injection e with q1 q2 q3
            obtain ⟨t1, t2, t3, t4, tr1⟩ := hfs.tail
            obtain ⟨A3, nq, Cq, hsl, en, eC, hA3⟩ := tail_slice ba oa nr Cr t1 t2
            have hg1 := tr1 A3 hA3
            rw [← en, ← eC] at hg1
            have HKQ : Hid (∀ (W : World) (v' : Value) (LL : List Nd), AddP w W B0 B gl ga (.slice av ln Cv) v' LL → Fs W (Mi B0 B) (.slice A3 nq Cq) r1) := fun W v' LL hA => hg1.keep fun b hb => by
              have hb' : b < B := hb.2
              have h0 := HLW.out.hB
              have h1 : b < w.heap.size := by omega
              have h2 : some b ≠ (Value.slice av ln Cv).ownBlock := fun e => by have := (HLW.out.d b e.symm).1; omega
              exact (hA.keep h1 (by omega) h2).trans (HADD.out.keep h1 (by omega) h2).symm
            have HNQ : Hid (nq = r1.len) := by show _ = _; omega
            have HIJ := Lib.hid hij
            rw [hij] at d3 hll ⊢
            have hle' : (ln : Int) ≤ (ij : Int) := by omega
            have hll' : (ij : Int) < (ln3 : Int) := by omega
            have hi0 : (0 : Int) ≤ (ij : Int) := by omega
            have hijb : ij ≤ 2000000 := by have := HIJ.out; omega
            have hjm := hj
            have hCqm : Cq ≤ 9223372036854775807 := by omega
            have hnqC : nq ≤ Cq := by omega
            have hr1 : r1.size < c.size := by
              have := subF_size j c
              rw [hs1] at this
              simp only [F.size] at this
              omega
            have hnqb : nq ≤ 1000000 := by have := F.len_le_size r1; have := HBIG.out; have := HNQ.out; omega
            have HTG : Hid (L ++ ((⟨k, x, y, c⟩ :: chF c) ++ dnF (subF (j + 1) c)) ++ nodes (r1.drop 0) = L ++ ((⟨k, x, y, c⟩ :: chF c) ++ dnF (subF j c))) := by
              show _ = _
              rw [hs1, hs2]
              simp only [dnF, F.drop, List.append_assoc]
            have HLT : Hid ((L ++ ((⟨k, x, y, c⟩ :: chF c) ++ dnF (subF j c))).length ≤ 1000000) := by
              show _ ≤ _
              have hsub : ∀ (i : Nat) (f : F), (dnF (subF i f)).length ≤ (dnF f).length := by
                intro i
                induction i with
                | zero => intro f; exact Nat.le_refl _
                | succ i ihi =>
                  intro f
                  cases f with
                  | nil => exact Nat.le_refl _
                  | cons _ _ _ cc rr => have := ihi cc; simp only [subF, dnF, List.length_append]; omega
              have h1 := nodes_len c
              rw [nodes_ch, List.length_append] at h1
              have := hsub j c
              have := HBIG.out
              simp only [List.length_append, List.length_cons]
              omega
            obtain ⟨TG, hTG⟩ : ∃ TG, L ++ ((⟨k, x, y, c⟩ :: chF c : List Nd) ++ dnF (subF j c)) = TG := ⟨_, rfl⟩
            rw [hTG] at HTG HLT
            have HTGE : Hid (TG = L ++ ((⟨k, x, y, c⟩ :: chF c : List Nd) ++ dnF (subF j c))) := hTG.symm
            clear hTG
            clear hij hs1 hs2 hn1 hn2 hnx hll hgl d0 d1 d2 hfs hrC hrm q1 q2 q3 t1 t2 t3 t4 tr1 en eC hA3 hg1
            go_wp2
            clear hbl d3 hle'
            go_loopw [45] (fun s45 W => ∃ (i : Nat) (av4 : Option Addr) (ln4 Cv4 : Nat) (LL : List Nd), i ≤ nq ∧ s45 = .int .i64 (i : Int) ∧ Hid (AddP w W B0 B gl ga (.slice av ln Cv) (.slice av4 ln4 Cv4) LL) ∧ Hid (LL ++ nodes (r1.drop i) = TG)) (fun s45 _ => nq - (intOf s45).toNat)
            case atStart => exact ⟨0, some ⟨g, 0, none⟩, ln3, Cv3, _, Nat.zero_le _, rfl, HADD.out, HTG.out⟩
            case round =>
              clear HADD HTG
              obtain ⟨i, av4, ln4, Cv4, LL, hi, rfl, HADD, HTG⟩ := hrel
              rename World => W
              by_cases hlt : i < nq
              · have hlt' : (i : Int) < (nq : Int) := by omega
                have hi0' : (0 : Int) ≤ (i : Int) := by omega
                obtain ⟨kk, kx, ky, kc, kr, hdr, hdr2⟩ := F.drop_cons (n := i) (f := r1) (by rw [← HNQ.out]; exact hlt)
                obtain ⟨b2, off2, s2, rfl, hb2, _, hat2⟩ := (HKQ.out W _ _ HADD.out).at_ hdr
                obtain ⟨Ak, Ck, rfl, _, _⟩ := hat2.kids.slice
                obtain ⟨kn, hkn⟩ : ∃ kn, kc.len = kn := ⟨_, rfl⟩
                rw [hkn] at hat2
                have e0 := hat2.c0; have e1 := hat2.c1; have e2 := hat2.c2; have e3 := hat2.c3
                have hsz2 := size_drop hdr
                have b5 := below1 W (.cells #[.int .i64 kk, .string kx, .string ky, .slice Ak kn Ck] 24)
                have hL5 := HADD.out.at_.later b5
                have hlen : LL.length + kc.size + 1 ≤ 1000000 := by
                  have h1 := HTG.out
                  have h2 := HLT.out
                  rw [← h1, List.length_append, nodes_len, hdr] at h2
                  simp only [F.size] at h2
                  omega
                have HC := Lib.hid (HIH.out kc.size (by omega) kk kx ky Ak kn Ck kc _ gl ga av4 ln4 Cv4 LL B0 B (Nat.le_refl _) hlen (hat2.kids.belowM b5 HADD.out.at_.hB.2.2.2) hL5)
                have hfn := hL5.fn
                obtain ⟨z0, z1, z2, z3⟩ := (boxed_new W kk kx ky (.slice Ak kn Ck)).cells
                have HA5 := Lib.hid (HADD.out.later b5)
                have HTN : Hid ((LL ++ (⟨kk, kx, ky, kc⟩ :: nodes kc)) ++ nodes (r1.drop (i + 1)) = TG) := by
                  show _ = _
                  rw [← HTG.out, hdr, hdr2]
                  simp only [nodes, List.append_assoc, List.cons_append]
                clear hdr hdr2 hb2 hat2 hkn hsz2 b5 hL5 hlen HADD HTG
                go_wp2_with fail
                refine HC.out.mono ?_
                rintro e w6 ⟨rfl, av5, ln5, Cv5, hadd⟩
                have HA6 := Lib.hid (HA5.out.trans hadd)
                clear hadd HA5 HC hfn z0 z1 z2 z3 e0 e1 e2 e3
                go_wp2
                go_roundw
                case rel => exact ⟨i + 1, av5, ln5, Cv5, _, by omega, by go_num, HA6.out, HTN.out⟩
                case measure => simp [intOf]; omega
              · have hlt' : ¬ (i : Int) < (nq : Int) := by omega
                have HE : Hid (LL = TG) := by
                  show _ = _
                  rw [← HTG.out, F.drop_all _ _ (by rw [← HNQ.out]; omega)]
                  simp [nodes]
                have hwr : IntKind.i64.wrap ((ij : Int) - 1) = (ij : Int) - 1 := by rw [IntKind.wrap_i64]; omega
                clear hlt
                go_wp2
                go_roundw
                case rel => exact ⟨j, av4, ln4, Cv4, by omega, by rw [HIJ.out], HADD.out.list (by rw [HE.out]; exact HTGE.out)⟩
                case measure => have := HIJ.out; simp [intOf]; omega
      | cons k1 x1 y1 c1 r1 =>
        rw [hkc] at HM hsz HKN
        obtain ⟨ba, oa, s1, rfl, hba, _, hat⟩ := HM.out.fs.at_ (i := 0) rfl
        obtain ⟨A1, C1, rfl, _, _⟩ := hat.kids.slice
        obtain ⟨n1, hn1⟩ : ∃ m, c1.len = m := ⟨_, rfl⟩
        rw [hn1] at hat
        have e0 := hat.c0; have e1 := hat.c1; have e2 := hat.c2; have e3 := hat.c3
        simp only [Nat.zero_mul, Nat.add_zero] at e0 e1 e2 e3
        have hkn : (0 : Int) < (kn : Int) := by rw [HKN.out]; simp only [F.len]; omega
        have hkn2 : 0 < kn := by omega
        simp only [F.size] at hsz
        obtain ⟨y0, y1', y2, y3⟩ := frz HM.out.box
        have HGN : Hid (w.heap.size ≠ gl ∧ some w.heap.size ≠ (Value.slice av2 ln2 Cv2).ownBlock) := ⟨by have := HGA.out.1; omega, HM.out.no⟩
        have HBX9 := box_new (k1 := k1) (x1 := x1) (y1 := y1) (s1 := .slice A1 n1 C1) HM.out.box
        have HAS9 := HM.out.add.set4 (g := w.heap.size) (v0 := .int .i64 k1) (v1 := .string x1) (v2' := .string y1) (v3 := .slice A1 n1 C1) (Nat.le_refl _) HGA.out.2.2 HGN.out.1 (by have := HGA.out.2.1; omega) HGN.out.2
        have HFS9 : Fs ((((wr.setCell ⟨w.heap.size, 0, none⟩ (.int .i64 k1)).setCell ⟨w.heap.size, 1, none⟩ (.string x1)).setCell ⟨w.heap.size, 2, none⟩ (.string y1)).setCell ⟨w.heap.size, 3, none⟩ (.slice A1 n1 C1)) (Mi B0 B) (.slice A1 n1 C1) c1 := hat.kids.keep fun b hb => set4_other _ _ _ _ _ _ _ (by have hb' : b < B := hb.2; have := HGA.out.2.2; omega)
        obtain ⟨W9, hW9⟩ : ∃ W9, ((((wr.setCell ⟨w.heap.size, 0, none⟩ (.int .i64 k1)).setCell ⟨w.heap.size, 1, none⟩ (.string x1)).setCell ⟨w.heap.size, 2, none⟩ (.string y1)).setCell ⟨w.heap.size, 3, none⟩ (.slice A1 n1 C1)) = W9 := ⟨_, rfl⟩
        rw [hW9] at HBX9 HAS9 HFS9
        have HB9 := Lib.hid HBX9; have HA9 := Lib.hid HAS9; have HL9 := Lib.hid HAS9.at_; have HF9 := Lib.hid HFS9
        have HEQ := Lib.hid HM.out.eq
        obtain ⟨L2, hL2⟩ : ∃ L2, L ++ ch = L2 := ⟨_, rfl⟩
        have HLE : Hid (L2 = L ++ ch) := hL2.symm
        rw [hL2] at HLNX HL9 HA9
        have HLN2 := HLNX
        have HLL2 : Hid (L2.length ≤ 1000000) := by
          show _ ≤ _
          have h1 := nodes_len c
          rw [nodes_ch, List.length_append] at h1
          have h2 := congrArg List.length HEQ.out
          simp only [List.length_append, List.length_cons] at h2
          have := HBIG.out
          rw [HLE.out, List.length_append]
          omega
        clear HM hba hat hn1 hkc HBX9 HAS9 HFS9 hL2 HLNX
        go_wp2
        clear hW9 p0 p1 p2 p3 y0 y1' y2 y3 e0 e1 e2 e3
        refine region_rel4 [0, 1, 2, 3, 4] 4 6 7 (fun W W' => Below W.heap.size W W') (fun W => Below W9.heap.size W9 W) (fun q r v' W => PhA W9 W B0 B gl ga (.slice av2 ln2 Cv2) v' L2 (⟨k1, x1, y1, c1⟩ : Nd) q r) [Cd.any, Cd.any, Cd.any, ⟨fun v W => ∃ (b : Nat), v = .slice (some ⟨b, 0, none⟩) 1 1 ∧ b < W.heap.size ∧ W.cell? ⟨b, 0, none⟩ = some (.int .i64 0) ∧ W.cell? ⟨b, 1, none⟩ = some (.string ⟨#[]⟩) ∧ W.cell? ⟨b, 2, none⟩ = some (.string ⟨#[]⟩) ∧ W.cell? ⟨b, 3, none⟩ = some (.slice none 0 0), fun v W W' hU h => by obtain ⟨b, e, h2, c0, c1, c2, c3⟩ := h; exact ⟨b, e, Nat.lt_of_lt_of_le h2 hU.size, (hU.cell (p := ⟨b, 0, none⟩) h2).trans c0, (hU.cell (p := ⟨b, 1, none⟩) h2).trans c1, (hU.cell (p := ⟨b, 2, none⟩) h2).trans c2, (hU.cell (p := ⟨b, 3, none⟩) h2).trans c3⟩⟩, Cd.any, Cd.any, Cd.any, Cd.any] [(fun v => v = Value.slice av2 ln2 Cv2), (fun v => v = Value.agg #[.int .i64 k1, .string x1, .string y1, .slice A1 n1 C1]), (fun v => v = Value.int .i64 (ln2 : Int)), (fun _ => True), (fun _ => True), (fun _ => True), (fun _ => True), (fun _ => True)] [(fun _ _ => True), (fun _ _ => True), (fun _ _ => True), (fun _ _ => True), (fun _ _ => True), (fun u v => ∀ (g n c : Nat), u = .slice (some ⟨g, 0, none⟩) n c → v = .pointer (some ⟨g, ln2 * 4, none⟩)), (fun _ _ => True), (fun _ _ => True)] (by kernel_rfl) (by decide) (by kernel_rfl) (by kernel_rfl) (by kernel_rfl) (by kernel_rfl) (by decide) (by decide) (by decide) (by decide) (by decide) ((Below.refl _ _).drew) (fun _ _ hU hS => hS.trans (hU.mono hS.size)) (fun _ _ _ _ _ hU hS => hS.later hU) ?steps ?behind
        case steps =>
          intro xv W a ha
          simp only [fillA] at ha
          simp only [List.setIfInBounds_toArray, List.set_cons_succ, List.set_cons_zero, Nat.zero_add, Nat.reduceAdd] at ha
          subst ha
          refine ⟨fun hI hd hdB pp qq rr hp0 hp1 hpre hpost hq0 hr0 hq1 hr1 K hK => ?s0, fun hI hd hdB pp qq rr hp0 hp1 hpre hpost hq0 hr0 hq1 hr1 K hK => ?s1, fun hI hd hdB pp qq rr hp0 hp1 hpre hpost hq0 hr0 hq1 hr1 K hK => ?s2, fun hI hd hdB pp qq rr hp0 hp1 hpre hpost hq0 hr0 hq1 hr1 K hK => ?s3, fun hI hd hdB pp qq rr hp0 hp1 hpre hpost hq0 hr0 hq1 hr1 K hK => ?s4, fun hI hd hdB pp qq rr hp0 hp1 hpre hpost hq0 hr0 hq1 hr1 K hK => ?s5, fun hI hd hdB pp qq rr hp0 hp1 hpre hpost hq0 hr0 hq1 hr1 K hK => ?s6, fun hI hd hdB pp qq rr hp0 hp1 hpre hpost hq0 hr0 hq1 hr1 K hK => ?s7, trivial⟩
          case s0 =>
            obtain rfl := hpre (.inl (by kernel_rfl))
            obtain ⟨hSW, he⟩ := hp0 rfl
            clear hd hp0 hp1 hpre hpost hq0 hr0 hq1 hr1 he
            simp only [Act.put, List.setIfInBounds_toArray, List.set_cons_succ, List.set_cons_zero] at hK
            refine (if_pos (by rfl)).mpr ?_
            have hbx := (HL9.out.later hSW).box.cell
            go_simp
            exact hK.out _ _ (fun _ _ _ => ⟨Below.refl _ _, trivial⟩) (fun e => absurd e (by decide)) (fun e => absurd e (by decide)) (fun e => absurd e (by decide)) rfl (fun _ => trivial)
          case s1 =>
            obtain rfl := hpre (.inl (by kernel_rfl))
            obtain ⟨hSW, he⟩ := hp0 rfl
            clear hd hp0 hp1 hpre hpost hq0 hr0 hq1 hr1 he
            simp only [Act.put, List.setIfInBounds_toArray, List.set_cons_succ, List.set_cons_zero] at hK
            refine (if_pos (by rfl)).mpr ?_
            obtain ⟨hq0, hq1, hq2, hq3⟩ := (HB9.out.below hSW HB9.out.lt).cells
            go_simp
            exact hK.out _ _ (fun _ _ _ => ⟨Below.refl _ _, trivial⟩) (fun e => absurd e (by decide)) (fun e => absurd e (by decide)) (fun e => absurd e (by decide)) rfl (fun _ => trivial)
          case s2 =>
            have hx0 : xv 0 = Value.slice av2 ln2 Cv2 := hd 0 (by kernel_rfl)
            clear hd hp0 hp1 hpre hpost hq0 hr0 hq1 hr1
            simp only [Act.put, List.setIfInBounds_toArray, List.set_cons_succ, List.set_cons_zero] at hK
            rw [hx0] at hK ⊢
            refine (if_pos (by rfl)).mpr ?_
            go_simp
            exact hK.out _ _ (fun _ _ _ => ⟨Below.refl _ _, trivial⟩) (fun e => absurd e (by decide)) (fun e => absurd e (by decide)) (fun e => absurd e (by decide)) rfl (fun _ => trivial)
          case s3 =>
            clear hd hp0 hp1 hpre hpost hq0 hr0 hq1 hr1
            simp only [Act.put, List.setIfInBounds_toArray, List.set_cons_succ, List.set_cons_zero] at hK
            refine (if_pos (by rfl)).mpr ?_
            go_simp
            have hb := below1 W (.cells #[.int .i64 0, .string ⟨#[]⟩, .string ⟨#[]⟩, .slice none 0 0] 24)
            obtain ⟨z0, z1, z2, z3⟩ := (boxed_new W 0 ⟨#[]⟩ ⟨#[]⟩ (.slice none 0 0)).cells
            exact hK.out _ _ (fun _ _ _ => ⟨hb, W.heap.size, rfl, by simp, z0, z1, z2, z3⟩) (fun e => absurd e (by decide)) (fun e => absurd e (by decide)) (fun e => absurd e (by decide)) trivial (fun _ => trivial)
          case s4 =>
            have hx0 : xv 0 = Value.slice av2 ln2 Cv2 := hd 0 (by kernel_rfl)
            obtain rfl := hpre (.inr rfl)
            obtain ⟨hSW, he⟩ := hp0 rfl
            have he3 : ∃ (b : Nat), xv 3 = .slice (some ⟨b, 0, none⟩) 1 1 ∧ b < W.heap.size ∧ W.cell? ⟨b, 0, none⟩ = some (.int .i64 0) ∧ W.cell? ⟨b, 1, none⟩ = some (.string ⟨#[]⟩) ∧ W.cell? ⟨b, 2, none⟩ = some (.string ⟨#[]⟩) ∧ W.cell? ⟨b, 3, none⟩ = some (.slice none 0 0) := he 3 (by kernel_rfl)
            clear hd hp0 hp1 hpre hpost hq0 hr0 hq1 hr1 he
            simp only [Act.put, List.setIfInBounds_toArray, List.set_cons_succ, List.set_cons_zero] at hK
            rw [hx0] at hK ⊢
            refine (if_pos (by rfl)).mpr ?_
            obtain ⟨b, e3, h2, u0, u1, u2, u3⟩ := he3
            have HLW := HL9.out.later hSW
            rw [e3] at hK ⊢
            refine wp_app_own _ _ rfl (Mi B0 B) (Value.slice av2 ln2 Cv2) L2 b 1 ⟨0, ⟨#[]⟩, ⟨#[]⟩, .nil⟩ (.slice none 0 0) rfl rfl ⟨u0, u1, u2, u3⟩ HLW.own (fs_empty _ _) (fun b' hb' => ⟨Nat.lt_of_lt_of_le hb'.2 HLW.hB.2.2.2, fun e => by have := (HLW.d b' e.symm).1; have hb2 : b' < B := hb'.2; omega⟩) HLL2.out ?_
            intro v' w' r1 r2 r3
            exact hK.out _ _ (fun e => absurd rfl e) (fun _ => PhA.start HLW hSW r1 r2 r3) (fun e => absurd e (by decide)) (fun e => absurd e (by decide)) trivial (fun _ => trivial)
          case s5 =>
            have hx2 : xv 2 = Value.int .i64 (ln2 : Int) := hd 2 (by kernel_rfl)
            obtain rfl := hpost (by kernel_rfl)
            have hPh := hp1 rfl
            clear hd hp0 hp1 hpre hpost hq0 hr0 hq1 hr1
            simp only [Act.put, List.setIfInBounds_toArray, List.set_cons_succ, List.set_cons_zero] at hK
            rw [hx2] at hK ⊢
            refine (if_pos (by rfl)).mpr ?_
            obtain ⟨g', c', e4⟩ := hPh.form HLN2.out
            rw [e4] at hK ⊢
            have hlt5 : (ln2 : Int) < (ln2 : Int) + 1 := by omega
            go_simp
            exact hK.out (.pointer (some ⟨g', ln2 * 4, none⟩)) _ (fun _ _ _ => ⟨Below.refl _ _, trivial⟩) (fun e => absurd e (by decide)) (fun e => absurd e (by decide)) (fun e => absurd e (by decide)) trivial (fun _ g n c e => by injection e with e1 _ _; injection e1 with e1; injection e1 with e1; rw [e1])
          case s6 =>
            have hx1 : xv 1 = Value.agg #[.int .i64 k1, .string x1, .string y1, .slice A1 n1 C1] := hd 1 (by kernel_rfl)
            obtain rfl := hpost (by kernel_rfl)
            obtain rfl := hq0 (.inr rfl)
            have hPh := hp1 rfl
            clear hd hp0 hp1 hpre hpost hq0 hr0 hq1 hr1
            simp only [Act.put] at hK
            rw [hx1] at hK ⊢
            refine (if_pos (by rfl)).mpr ?_
            have hb5 : ∀ (g n c : Nat), xv 4 = .slice (some ⟨g, 0, none⟩) n c → xv 5 = .pointer (some ⟨g, ln2 * 4, none⟩) := hdB 5 (by kernel_rfl) (by kernel_rfl)
            obtain ⟨g', c', e4⟩ := hPh.form HLN2.out
            have e5 := hb5 _ _ _ e4
            rw [e4] at hPh hK ⊢
            rw [e5] at hK ⊢
            obtain ⟨⟨kz, xz, yz, sz, z0, z1, z2, z3⟩, y0, y1, y2, y3⟩ := hPh.cells HLN2.out
            have hput := hPh.putN (s := .slice A1 n1 C1) (hPh.fr.lo HL9.out HF9.out)
            unfold put4 at hput
            rw [HLN2.out] at hput
            clear hb5 hdB
            go_simp
            exact hK.out undef _ (fun _ e => absurd rfl e) (fun e => absurd e (by decide)) (fun _ => hput) (fun e => absurd e (by decide)) trivial (fun _ => trivial)
          case s7 =>
            obtain rfl := hpost (by kernel_rfl)
            obtain rfl := hr0 (.inr rfl)
            have hPh := hp1 rfl
            clear hd hp0 hp1 hpre hpost hq0 hr0 hq1 hr1
            simp only [Act.put] at hK
            refine (if_pos (by rfl)).mpr ?_
            obtain ⟨g', c', e4⟩ := hPh.form HLN2.out
            have hput := hPh.putL
            have hbc := hPh.box.cell
            have hbf := hPh.box.frz
            simp only [Bool.false_eq_true, if_false] at hbc
            rw [e4] at hput hK ⊢
            go_simp
            exact hK.out undef _ (fun _ _ e => absurd rfl e) (fun e => absurd e (by decide)) (fun e => absurd e (by decide)) (fun _ => hput) trivial (fun _ => trivial)
        case behind =>
          intro xv W hW hx hxB a ha
          simp only [fillA] at ha
          simp only [List.setIfInBounds_toArray, List.set_cons_succ, List.set_cons_zero, Nat.zero_add, Nat.reduceAdd] at ha
          subst ha
          obtain ⟨g', c', e4⟩ := hW.form HLN2.out
          have hadd := hW.done HL9.out
          rw [e4] at hadd ⊢
          rename World => w6
          have HADD := Lib.hid hadd
          clear hx hxB hW hadd e4
          have HNX : Hid (NdAt w w6 B0 B gl ga (.slice av ln Cv) (.slice (some ⟨g', 0, none⟩) (ln2 + 1) c') L ⟨k, x, y, c⟩ (ch ++ [(⟨k1, x1, y1, c1⟩ : Nd)]) k1 x1 y1 (.slice A1 n1 C1) c1) := by
            refine ⟨(HA9.out.trans HADD.out).list (by rw [HLE.out, List.append_assoc]), fun e => ?_, (HADD.out.keep HB9.out.lt HGN.out.1 HGN.out.2).trans HB9.out, HADD.out.fr.lo HL9.out HF9.out, ?_⟩
            · rcases HADD.out.nb with h | ⟨g, h, hg⟩
              · rw [h] at e
                exact HGN.out.2 e
              · rw [h] at e
                have := Option.some.inj e
                have := HB9.out.lt
                omega
            · have := HEQ.out
              simpa [chF] using this
          go_wp2
          go_roundg (c1.size + 1)
          case measure => omega
          case rel => exact ⟨k1, x1, y1, A1, n1, C1, c1, some ⟨g', 0, none⟩, ln2 + 1, c', ch ++ [(⟨k1, x1, y1, c1⟩ : Nd)], by omega, HNX.out⟩
end Go.Proofs.YtoecimgmghlfpaaDoor.Tree
