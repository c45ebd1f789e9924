/-
  Layer 7 (doc): the closure that goes through a document hands on its pieces, in order. Written by gen_docgather.py.
-/
import Derived.Test.YtpankfbdlakmcaaDocAt
namespace Go.Proofs.Ytpankfbdlakmcaa.Doc
open Go.ChangeShapes Go.WideShapes Go.ChangeAt Go.RowKit Mem
set_option linter.unusedVariables false

attribute [local go_sem] Oper.semAt_some

/-- On the way down: ch: the nodes behind; cur: where it is. -/
def RD (B0 : Nat) (I : World → List Pc → Prop) (N : Nat) (w : World) (Tt : List Pc) (n : Nat) (s0 s4 : Value) (W : World) : Prop := ∃ (ch : List Lk) (cur : Lk), s0 = ptrV (ad cur) ∧ W.ownsRow w.heap.size 88 1 s4 ch.length ((ch.map ad).map ptrV) ∧
  nsize cur.nd = n ∧ n + ch.length ≤ N ∧ cur.at w ∧ (∀ e ∈ ch, e.at w ∧ e.nd.c.len ≠ 0 ∧ nsize e.nd ≤ N) ∧ Pg B0 I w Tt (pcs1 cur.nd ++ backs ch) W
/-- At the foot. -/
def RF (B0 : Nat) (I : World → List Pc → Prop) (N : Nat) (w : World) (Tt : List Pc) (s4 : Value) (W : World) : Prop := ∃ (ch : List Lk), W.ownsRow w.heap.size 88 1 s4 ch.length ((ch.map ad).map ptrV) ∧
  ch.length ≤ N ∧ (∀ e ∈ ch, e.at w ∧ e.nd.c.len ≠ 0 ∧ nsize e.nd ≤ N) ∧ Pg B0 I w Tt (backs ch) W

section
variable {B0 gto gt gg : Nat} {I : World → List Pc → Prop} {full : List Pc} {caps : Array Value}
set_option maxRecDepth 100000 in
set_option maxHeartbeats 16000000 in
theorem gather_step (hS : Sink B0 I full gto caps) (N : Nat) (hNb : N ≤ 1000000) (ih : ∀ M, M < N → GSpec B0 I full gto caps gt gg M) : GSpec B0 I full gto caps gt gg N := by
  intro nd b off s w X rest hN hnd hbx hI hfull
  obtain ⟨Tt, hTt⟩ : ∃ Tt, X ++ pcs1 nd = Tt := ⟨_, rfl⟩
  have HF : Hid (Tt ++ rest = full) := by show _ = _; rw [← hTt, List.append_assoc]; exact hfull
  have HS := Lib.hid hS
  have HIH := Lib.hid ih
  have HBX := Lib.hid hbx
  have hRD : RD B0 I N w Tt (nsize nd) (.pointer (some ⟨b, off, none⟩)) (.slice none 0 0) w := ⟨[], ⟨b, off, nd, s⟩, rfl, World.ownsRow_nil _ _ _ _, rfl, by simpa using hN, hnd, (fun e he => by cases he), ⟨Kept.refl _ _, X, hI, by simp only [backs, List.append_nil]; exact hTt⟩⟩
  have HRD := Lib.hid hRD
  suffices h : CallsIn Fence.wide 5 Try.prog 47 #[.pointer (some ⟨b, off, none⟩), .pointer (some ⟨gt, 0, none⟩), .pointer (some ⟨gg, 0, none⟩)] w (fun e w' => e = .returned (.tuple #[]) ∧ Pg B0 I w Tt [] w') by
    refine (callsIn_wide.1 h).mono ?_
    rintro e w' ⟨he, hk, X', h1, h2⟩
    rw [List.append_nil] at h2
    subst h2
    rw [hTt]
    exact ⟨he, h1, hk⟩
  clear hRD hS ih hbx hN hnd hI hfull hTt
  refine callsIn_of_wp_marks Try.func47 rfl trivial ?_ rfl
  simp only [Try.ntmps47, List.size_toArray, List.length_cons, List.length_nil, Nat.reduceAdd, Nat.reduceSub, Array.replicate_succ, Array.replicate_zero, List.push_toArray, List.append_toArray, List.nil_append, List.cons_append]
  gi_wp2
  gi_loopw [0, 4] (fun s0 s4 wr => ∃ n, RD B0 I N w Tt n s0 s4 wr) (fun s0 s4 wr => leastOf fun n => RD B0 I N w Tt n s0 s4 wr)
  case atStart => exact ⟨_, HRD.out⟩
  case round =>
    obtain ⟨n, hn⟩ : ∃ n, leastOf (fun n => RD B0 I N w Tt n u0 u4 wr) = n := ⟨_, rfl⟩
    have hrd := (leastOf_spec hrel).1
    rw [hn] at hrd
    have HN := Lib.hid hn
    clear hrel hn
    obtain ⟨ch, ⟨b, off, ⟨k, x, c⟩, s⟩, rfl, hown, hsz, hlen, hcur, hch, hpg⟩ := hrd
    unfold Lk.at at hcur
    dsimp only at hsz hcur hpg
    unfold ptrV ad
    dsimp only
    have hnd := hcur.kept hpg.kept
    obtain ⟨A, C, rfl, hnC, hC⟩ := hnd.form
    dsimp only at hnC hC
    have hq0 := hnd.c0; have hq1 := hnd.c1; have hq2 := hnd.c2
    dsimp only at hq0 hq1 hq2
    have HCH := Lib.hid hch
    have HCUR := Lib.hid hcur
    have HSZ := Lib.hid hsz
    have HLEN := Lib.hid hlen
    cases c with
    | nil =>
      clear HN HSZ
      have hN1 : ch.length ≤ N := by have := HLEN.out; omega
      have hown1 := hown
      gi_wp2
      obtain ⟨kb, hkb⟩ : ∃ kb, (k == 0) = kb := ⟨_, rfl⟩
      have hno := nothing_any k x A 0 C wr
      rw [hkb] at hno
      simp only [beq_self_eq_true, Bool.and_true] at hno
      have HKB := Lib.hid hkb
      clear hkb
      refine ⟨trivial, (callsIn_wide.2 hno).mono ?_⟩
      rintro e wL ⟨rfl, hb⟩
      have HPG0 := Lib.hid (hpg.later HS.out hb)
      have HKW := Lib.hid (hpg.kept.later hb)
      have HND := Lib.hid (hnd.below hb)
      have HOWN := Lib.hid (own_below' hown hb)
      clear hcur hch hpg hnd hq0 hq1 hq2 hown hown1 hb hno hsz hlen hnC hC HRD
      gi_upto_if 40 with (fail)
      gi_cut [4] from 41 (fun s4 W => Hid (RF B0 I N w Tt s4 W))
      case first =>
        cases kb with
        | true =>
          have hk : k = 0 := by simpa using HKB.out
          subst hk
          have HR : Hid (RF B0 I N w Tt u4 wL) := ⟨ch, HOWN.out, hN1, HCH.out, by have := HPG0.out; rw [pcs1_leaf rfl, if_pos rfl] at this; exact this⟩
          gi_wp2
          gi_meet
          case rel => exact HR
        | false =>
          have hk : ¬ k = 0 := by simpa using HKB.out
          have HPG : Hid (Pg B0 I w Tt ((k, x) :: backs ch) wL) := by have := HPG0.out; rw [pcs1_leaf rfl, if_neg hk] at this; exact this
          clear HPG0
          obtain ⟨l, hl⟩ : ∃ l, backs ch = l := ⟨_, rfl⟩
          rw [hl] at HPG
          have HL := Lib.hid hl
          have eg := HS.out.enter
          clear hl
          gi_wp2
          refine wpIn_wide.2 (region_rel2 10 (fun W => Pg B0 I w Tt ((k, x) :: l) W) (fun W W' => Kept B0 W W' ∧ (Pg B0 I w Tt (l) W → Pg B0 I w Tt (l) W')) [Cd.is (Value.func (.func gto) #[] caps), Cd.is (Value.pointer (some ⟨b, off, none⟩)), Cd.is (Value.pointer (some ⟨b, off, none⟩)), Cd.is (Value.pointer (some ⟨b, off, none⟩)), Cd.is (Value.int .i64 k), Cd.is (Value.pointer (some ⟨b, off, none⟩)), Cd.is (Value.pointer (some ⟨b, off, none⟩)), Cd.is (Value.pointer (some ⟨b, off + 1, none⟩)), Cd.is (Value.string x), Cd.is (Value.agg #[.int .i64 k, .string x]), ⟨fun _ W => Pg B0 I w Tt (l) W, fun _ _ _ h q => h.2 q⟩] (by kernel_rfl) (by decide) (by kernel_rfl) (Pg.later HS.out HPG.out ((Below.refl _ wL).drew)) ⟨Kept.refl _ _, id⟩ (fun _ _ _ h k => ⟨h.1.trans k.1, fun q => k.2 (h.2 q)⟩) ?steps ?behind)
          case steps =>
            intro xv W hW a ha
            replace hW : Kept B0 wL W := (Kept.ofB ((Below.refl _ wL).drew)).trans hW.1
            simp only [fillA] at ha
            simp only [List.setIfInBounds_toArray, List.set_cons_succ, List.set_cons_zero, Nat.zero_add, Nat.reduceAdd] at ha
            subst ha
            refine ⟨fun hI hS hd K hK => ?s0, fun hI hS hd K hK => ?s1, fun hI hS hd K hK => ?s2, fun hI hS hd K hK => ?s3, fun hI hS hd K hK => ?s4, fun hI hS hd K hK => ?s5, fun hI hS hd K hK => ?s6, fun hI hS hd K hK => ?s7, fun hI hS hd K hK => ?s8, fun hI hS hd K hK => ?s9, fun hI hS hd K hK => ?s10, trivial⟩
            case s0 =>
              clear hd
              simp only [Act.put, List.setIfInBounds_toArray, List.set_cons_succ, List.set_cons_zero] at hK
              refine (if_pos (by rfl)).mpr ?_
              have hq := (HBX.out.kept (HKW.out.trans hW)).c1
              go_simp
              exact hK.out _ _ ⟨Kept.refl _ _, id⟩ (.inr id) rfl
            case s1 =>
              clear hd
              simp only [Act.put, List.setIfInBounds_toArray, List.set_cons_succ, List.set_cons_zero] at hK
              refine (if_pos (by rfl)).mpr ?_
              go_simp
              exact hK.out _ _ ⟨Kept.refl _ _, id⟩ (.inr id) rfl
            case s2 =>
              have hx1 : xv 1 = Value.pointer (some ⟨b, off, none⟩) := hd 1 (by kernel_rfl)
              clear hd
              simp only [Act.put, List.setIfInBounds_toArray, List.set_cons_succ, List.set_cons_zero] at hK
              rw [hx1] at hK ⊢
              refine (if_pos (by rfl)).mpr ?_
              go_simp
              exact hK.out _ _ ⟨Kept.refl _ _, id⟩ (.inr id) rfl
            case s3 =>
              have hx2 : xv 2 = Value.pointer (some ⟨b, off, none⟩) := hd 2 (by kernel_rfl)
              clear hd
              simp only [Act.put, List.setIfInBounds_toArray, List.set_cons_succ, List.set_cons_zero] at hK
              rw [hx2] at hK ⊢
              refine (if_pos (by rfl)).mpr ?_
              go_simp
              exact hK.out _ _ ⟨Kept.refl _ _, id⟩ (.inr id) rfl
            case s4 =>
              have hx3 : xv 3 = Value.pointer (some ⟨b, off, none⟩) := hd 3 (by kernel_rfl)
              clear hd
              simp only [Act.put, List.setIfInBounds_toArray, List.set_cons_succ, List.set_cons_zero] at hK
              rw [hx3] at hK ⊢
              refine (if_pos (by rfl)).mpr ?_
              obtain ⟨_, hq0, hq1, hq2, _, _⟩ := (HND.out.kept hW)
              go_simp
              exact hK.out _ _ ⟨Kept.refl _ _, id⟩ (.inr id) rfl
            case s5 =>
              clear hd
              simp only [Act.put, List.setIfInBounds_toArray, List.set_cons_succ, List.set_cons_zero] at hK
              refine (if_pos (by rfl)).mpr ?_
              go_simp
              exact hK.out _ _ ⟨Kept.refl _ _, id⟩ (.inr id) rfl
            case s6 =>
              have hx5 : xv 5 = Value.pointer (some ⟨b, off, none⟩) := hd 5 (by kernel_rfl)
              clear hd
              simp only [Act.put, List.setIfInBounds_toArray, List.set_cons_succ, List.set_cons_zero] at hK
              rw [hx5] at hK ⊢
              refine (if_pos (by rfl)).mpr ?_
              go_simp
              exact hK.out _ _ ⟨Kept.refl _ _, id⟩ (.inr id) rfl
            case s7 =>
              have hx6 : xv 6 = Value.pointer (some ⟨b, off, none⟩) := hd 6 (by kernel_rfl)
              clear hd
              simp only [Act.put, List.setIfInBounds_toArray, List.set_cons_succ, List.set_cons_zero] at hK
              rw [hx6] at hK ⊢
              refine (if_pos (by rfl)).mpr ?_
              go_simp
              exact hK.out _ _ ⟨Kept.refl _ _, id⟩ (.inr id) rfl
            case s8 =>
              have hx7 : xv 7 = Value.pointer (some ⟨b, off + 1, none⟩) := hd 7 (by kernel_rfl)
              clear hd
              simp only [Act.put, List.setIfInBounds_toArray, List.set_cons_succ, List.set_cons_zero] at hK
              rw [hx7] at hK ⊢
              refine (if_pos (by rfl)).mpr ?_
              obtain ⟨_, hq0, hq1, hq2, _, _⟩ := (HND.out.kept hW)
              go_simp
              exact hK.out _ _ ⟨Kept.refl _ _, id⟩ (.inr id) rfl
            case s9 =>
              have hx4 : xv 4 = Value.int .i64 k := hd 4 (by kernel_rfl)
              have hx8 : xv 8 = Value.string x := hd 8 (by kernel_rfl)
              clear hd
              simp only [Act.put, List.setIfInBounds_toArray, List.set_cons_succ, List.set_cons_zero] at hK
              rw [hx4] at hK ⊢
              rw [hx8] at hK ⊢
              refine (if_pos (by rfl)).mpr ?_
              go_simp
              exact hK.out _ _ ⟨Kept.refl _ _, id⟩ (.inr id) rfl
            case s10 =>
              have hx0 : xv 0 = Value.func (.func gto) #[] caps := hd 0 (by kernel_rfl)
              have hx9 : xv 9 = Value.agg #[.int .i64 k, .string x] := hd 9 (by kernel_rfl)
              clear hd
              simp only [Act.put, List.setIfInBounds_toArray, List.set_cons_succ, List.set_cons_zero] at hK
              rw [hx0] at hK ⊢
              rw [hx9] at hK ⊢
              refine (if_pos (by rfl)).mpr ?_
              go_simp
              go_at_fn gto
              refine (HS.out.step HF.out (hS (.inr rfl))).mono ?_
              rintro e w' ⟨rfl, hp, hk⟩
              exact hK.out _ _ ⟨hk, fun _ => hp⟩ (.inl trivial) hp
          case behind =>
            intro xv W hW hx a ha
            replace hW : Kept B0 wL W := (Kept.ofB ((Below.refl _ wL).drew)).trans hW.1
            simp only [fillA] at ha
            simp only [List.setIfInBounds_toArray, List.set_cons_succ, List.set_cons_zero, Nat.zero_add, Nat.reduceAdd] at ha
            subst ha
            have hp : Pg B0 I w Tt (l) W := hx 10 (by decide)
            have HR : Hid (RF B0 I N w Tt u4 W) := ⟨ch, hW.own HOWN.out, hN1, HCH.out, by rw [HL.out]; exact hp⟩
            clear hx hW hp HPG HKW HND HOWN eg
            gi_wp2
            gi_meet
            case rel => exact HR
      case rest =>
        have HRF := hcut
        clear hcut HOWN HPG0 HKB HKW HND HLEN HCUR HCH hN1
        obtain ⟨ch, hown, hlen, hch, hpg⟩ := HRF.out
        obtain ⟨a4, c4, hv4, hm4, hC4⟩ : ∃ a c, u4 = .slice a ch.length c ∧ ch.length ≤ c ∧ c ≤ maxLen := by
          rcases hown.2 with ⟨e, h0⟩ | ⟨b, cap, cur, e, _, _, h3, h4, _⟩
          · exact ⟨none, 0, by rw [e, h0], by omega, by unfold maxLen; omega⟩
          · exact ⟨_, _, e, h3, h4⟩
        subst hv4
        obtain ⟨m, hm⟩ : ∃ m, ch.length = m := ⟨_, rfl⟩
        rw [hm] at hown hlen hm4
        rw [hm]
        have HM := Lib.hid hm
        have HCH := Lib.hid hch
        have hb1 := (Below.refl wc.heap.size wc).alloc (Nat.le_refl _) (.cells #[.slice a4 m c4] 89)
        have hbr : BR wc.heap.size w.heap.size m (.slice a4 m c4) ((ch.map ad).map ptrV) (wc.alloc (.cells #[.slice a4 m c4] 89)) := ⟨heap_alloc_new _ _, own_below' hown hb1⟩
        have hp1 := hpg.later HS.out hb1
        have hsz1 : (wc.alloc (.cells #[.slice a4 m c4] 89)).heap.size = wc.heap.size + 1 := World.size_alloc _ _
        have hwc : w.heap.size ≤ wc.heap.size := hpg.kept.size
        clear HRF hm hown hch hpg hb1
        gi_wp2
        refine ⟨trivial, (callsIn_wide.2 (back_any a4 m c4 wc)).mono ?_⟩
        rintro e wB ⟨rfl, hwB⟩
        rw [hwB] at hbr hp1 hsz1
        have HBR := Lib.hid hbr
        have HP1 := Lib.hid hp1
        clear hwB hbr hp1
        gi_wp2
        refine range_told (n := 5) (by omega) (gf := 52) (lb := #[.pointer (some ⟨wc.heap.size, 0, none⟩)]) rfl (enters_of Try.func52 (by kernel_rfl) rfl)
          (back_stops 4 (by omega) wc.heap.size w.heap.size m (.slice a4 m c4) (ch.map ad) (by omega) wB HBR.out.box HBR.out.own) (fun h k => h.trans k) (KpB.put (by omega) (fun a ha => (HBR.out.own.lt a ha).2)) (fun _ => rfl)
          (fun pre W => Pg B0 I w Tt (backs (ch.take (m - pre.length))) W ∧ BR wc.heap.size w.heap.size m (.slice a4 m c4) ((ch.map ad).map ptrV) W)
          (fun _ _ _ => False) (fun W => Pg B0 I w Tt [] W)
          (fun s X Y row hs hg hr => ⟨hs.1.own HS.out (by omega) hg hr, hs.2.nc hg fun r e => (hr r e).2⟩)
          (fun _ _ _ _ _ hs _ _ => hs)
          ⟨by rw [List.length_nil, Nat.sub_zero, List.take_of_length_le (by rw [HM.out]; exact Nat.le_refl _)]; exact HP1.out, HBR.out⟩
          (fun _ _ _ => True) (fun _ _ _ _ _ _ _ _ _ => trivial)
          (fun ys W hSy hi => by rw [hSy, dn_len, Nat.sub_self, List.take_zero] at hi; exact hi.1)
          (fun c pre W _ hi => hi.elim)
          ?round ?rest
        case round =>
          intro xi bz
          obtain ⟨pv, hpv⟩ : ∃ pv, ptrV ((ch.map ad).getD xi ⟨0, 0, none⟩) = pv := ⟨_, rfl⟩
          dsimp only [encB]
          rw [hpv]
          apply Exists.intro
          refine ⟨?_, ?_⟩
          · intro l pre W K hWb hi hR hsp hlt hK
            have HK := Lib.hid (hK W (KeepsFrom.refl _ _) (KpB.refl _ _ _) hi trivial)
            clear hK hi hR hsp hlt
            gi_wp2
            exact HK.out
          · intro lr pre W0 hi _ hsp hlt
            obtain ⟨j, hj, hpre⟩ := hsp
            obtain ⟨_, _, hx⟩ := dn_last hpre
            have hxm : xi < m := by omega
            have hxl : xi < ch.length := by rw [HM.out]; exact hxm
            obtain ⟨⟨b, off, ⟨k, x, c⟩, s⟩, he⟩ : ∃ e, ch[xi]? = some e := ⟨_, List.getElem?_eq_getElem hxl⟩
            have hpv2 : pv = .pointer (some ⟨b, off, none⟩) := by
              rw [← hpv]
              have : (ch.map ad)[xi]? = some ⟨b, off, none⟩ := by rw [List.getElem?_map, he]; rfl
              simp [List.getD, this, ptrV]
            subst hpv2
            obtain ⟨hat, hc0, hns⟩ := HCH.out _ (List.mem_of_getElem? he)
            dsimp only at hc0 hns
            unfold Lk.at at hat
            dsimp only at hat
            have hbk : backs (ch.take (m - pre.length)) = tl ⟨b, off, ⟨k, x, c⟩, s⟩ ++ backs (ch.take xi) := by rw [show m - pre.length = xi + 1 by omega]; exact backs_take he
            have hbk2 : m - (pre ++ [xi]).length = xi := by rw [List.length_append, List.length_singleton]; omega
            have hp0 := hi.1
            rw [hbk] at hp0
            unfold tl at hp0
            dsimp only at hp0
            rw [List.append_assoc] at hp0
            obtain ⟨L2, hL2⟩ : ∃ L2, backs (ch.take xi) = L2 := ⟨_, rfl⟩
            rw [hL2] at hp0
            have HEND : Hid (∀ W, Pg B0 I w Tt L2 W → Pg B0 I w Tt (backs (ch.take (m - (pre ++ [xi]).length))) W) := fun W h => by rw [hbk2, hL2]; exact h
            have hnd := hat.kept hp0.kept
            have HBR := Lib.hid hi.2
            have HKW0 := Lib.hid hp0.kept
            clear hi hpre hx hbk hbk2 hL2 he hpv hxl hj hlt HCH HM HP1
            obtain ⟨A, C, rfl, hnC, hC⟩ := hnd.form
            dsimp only at hnC hC
            obtain ⟨kf, xf, cf, rf, hd0, hd1⟩ := G.drop_cons (n := 0) (f := c) (by omega)
            obtain ⟨ob, oo, _, hA, _, _⟩ := hnd.kids.getN (i := 0) hd0 hnd.ok.2
            subst hA
            obtain ⟨nl, hnl⟩ : ∃ nl, c.len = nl := ⟨_, rfl⟩
            obtain ⟨A7, n7, C7, hsl, e7, hC7, hA7⟩ := tail_slice ob oo nl C (by omega) (by omega)
            have HND0 := Lib.hid hnd
            have HP0 := Lib.hid hp0
            have HNS := Lib.hid hns
            have HNL := Lib.hid hnl
            have HA7 := Lib.hid hA7
            have HE7 := Lib.hid e7
            have hq0 := hnd.c0; have hq1 := hnd.c1; have hq2 := hnd.c2
            dsimp only at hq0 hq1 hq2
            rw [hnl] at hq2
            have hone : (1 : Int) ≤ (nl : Int) := by omega
            obtain ⟨Fin, hFin⟩ : ∃ Fin : World → Prop, (fun W => KeepsFrom wB.heap.size W0 W ∧ KpB wc.heap.size (.slice a4 m c4) W0 W ∧ Pg B0 I w Tt (backs (ch.take (m - (pre ++ [xi]).length))) W ∧ BR wc.heap.size w.heap.size m (.slice a4 m c4) ((ch.map ad).map ptrV) W) = Fin := ⟨_, rfl⟩
            have HFIN : Hid (∀ W, Kept B0 W0 W → Pg B0 I w Tt L2 W → Fin W) := fun W h1 h2 => by
              rw [← hFin]
              exact ⟨h1.from _, HBR.out.kp h1, HEND.out _ h2, HBR.out.kept h1⟩
            refine wpIn_mono (Q := finP Fin) ?_ (fun e a3 W3 hp => by
              subst hFin
              cases e with
              | normal => exact hp
              | ret => exact hp.elim
              | exit id => exact hp.elim
              | goto t => exact hp.elim
              | panic ch => exact hp.elim
              | outgrown => exact hp.elim)
            clear hFin HEND HBR
            clear hnd hp0 hns hat hd0 hd1 hc0 hA7 e7 hnl hC7
            gi_wp2
            gi_loopw [63] (fun s63 wr => ∃ i : Nat, i ≤ n7 ∧ s63 = .int .i64 (i : Int) ∧ Hid (Pg B0 I w Tt (pcs (c.drop (i + 1)) ++ (cls k ++ L2)) wr) ∧ Hid (Kept B0 W0 wr)) (fun s63 _ => n7 - (intOf s63).toNat)
            case atStart => exact ⟨0, Nat.zero_le _, rfl, HP0.out, Kept.refl _ _⟩
            case round =>
              obtain ⟨i, hi, rfl, HPi, HKi⟩ := hrel
              by_cases hlt : i < n7
              · obtain ⟨k', x', c', r', hd, hd2⟩ := G.drop_cons (n := i + 1) (f := c) (by have := HE7.out; have := HNL.out; omega)
                obtain ⟨bk, ok2, s', hA, _, hndk⟩ := (HND0.out.kept HKi.out).kids.getN hd HND0.out.ok.2
                have hA := Option.some.inj hA
                injection hA with hA1 hA2
                subst hA1; subst hA2
                obtain hA7z | hA7e := HA7.out
                · have := HE7.out; omega
                subst hA7e
                obtain ⟨kd, hkd⟩ : ∃ kd : Nd, (⟨k', x', c'⟩ : Nd) = kd := ⟨_, rfl⟩
                have hsk := G.kid_size hd
                have HG : Hid (GSpec B0 I full gto caps gt gg (nsize kd)) := HIH.out (nsize kd) (by
                  have h1 := HNS.out
                  rw [← hkd]
                  simp only [nsize] at h1 ⊢
                  omega)
                have HNZ : Hid (nsize kd ≤ nsize kd) := Nat.le_refl _
                rw [hkd] at hndk
                rw [show oo + (i + 1) * 3 = oo + 3 + i * 3 by omega] at hndk
                have HND := Lib.hid hndk
                have hpi := HPi.out
                rw [pcs_drop hd, hkd] at hpi
                obtain ⟨l, hl⟩ : ∃ l, pcs r' ++ (cls k ++ L2) = l := ⟨_, rfl⟩
                rw [List.append_assoc, hl] at hpi
                have HPG := Lib.hid hpi
                have HKW := Lib.hid hpi.kept
                have HL : Hid (pcs (c.drop (i + 1 + 1)) ++ (cls k ++ L2) = l) := by show _ = _; rw [hd2]; exact hl
                have hlt1 : (i : Int) < (n7 : Int) := by omega
                have hlt2 : (0 : Int) ≤ (i : Int) := by omega
                clear hd hd2 hndk hpi hl hsk hkd HPi
                gi_wp2
                refine region_rel2In 4 (fun W => Pg B0 I w Tt (pcs1 kd ++ l) W) (fun W W' => Kept B0 W W' ∧ (Pg B0 I w Tt (l) W → Pg B0 I w Tt (l) W')) [Cd.is (Value.func (.func 47) #[] #[.pointer (some ⟨gt, 0, none⟩), .pointer (some ⟨gg, 0, none⟩)]), Cd.is (Value.slice (some ⟨ob, oo + 3, none⟩) n7 C7), Cd.is (Value.int .i64 (i : Int)), Cd.is (Value.pointer (some ⟨ob, oo + 3 + i * 3, none⟩)), ⟨fun _ W => Pg B0 I w Tt (l) W, fun _ _ _ h q => h.2 q⟩] (by kernel_rfl) (by decide) (by kernel_rfl) (by kernel_rfl) (fun ⟨_, _, h⟩ => h) (Pg.later HS.out HPG.out ((Below.refl _ wr).drew)) ⟨Kept.refl _ _, id⟩ (fun _ _ _ h k => ⟨h.1.trans k.1, fun q => k.2 (h.2 q)⟩) ?steps ?behind
                case steps =>
                  intro xv W hW a ha
                  replace hW : Kept B0 wr W := (Kept.ofB ((Below.refl _ wr).drew)).trans hW.1
                  simp only [fillA] at ha
                  simp only [List.setIfInBounds_toArray, List.set_cons_succ, List.set_cons_zero, Nat.zero_add, Nat.reduceAdd] at ha
                  subst ha
                  refine ⟨fun hI hS hd K hK => ?s0, fun hI hS hd K hK => ?s1, fun hI hS hd K hK => ?s2, fun hI hS hd K hK => ?s3, fun hI hS hd K hK => ?s4, trivial⟩
                  case s0 =>
                    clear hd
                    simp only [Act.put, List.setIfInBounds_toArray, List.set_cons_succ, List.set_cons_zero] at hK
                    refine (if_pos (by rfl)).mpr ?_
                    have hq := (HBX.out.kept (HKW.out.trans hW)).c2
                    go_simp
                    exact hK.out _ _ ⟨Kept.refl _ _, id⟩ (.inr id) rfl
                  case s1 =>
                    clear hd
                    simp only [Act.put, List.setIfInBounds_toArray, List.set_cons_succ, List.set_cons_zero] at hK
                    refine (if_pos (by rfl)).mpr ?_
                    go_simp
                    exact hK.out _ _ ⟨Kept.refl _ _, id⟩ (.inr id) rfl
                  case s2 =>
                    clear hd
                    simp only [Act.put, List.setIfInBounds_toArray, List.set_cons_succ, List.set_cons_zero] at hK
                    refine (if_pos (by rfl)).mpr ?_
                    go_simp
                    exact hK.out _ _ ⟨Kept.refl _ _, id⟩ (.inr id) rfl
                  case s3 =>
                    have hx1 : xv 1 = Value.slice (some ⟨ob, oo + 3, none⟩) n7 C7 := hd 1 (by kernel_rfl)
                    have hx2 : xv 2 = Value.int .i64 (i : Int) := hd 2 (by kernel_rfl)
                    clear hd
                    simp only [Act.put, List.setIfInBounds_toArray, List.set_cons_succ, List.set_cons_zero] at hK
                    rw [hx1] at hK ⊢
                    rw [hx2] at hK ⊢
                    refine (if_pos (by rfl)).mpr ?_
                    go_simp
                    exact hK.out _ _ ⟨Kept.refl _ _, id⟩ (.inr id) rfl
                  case s4 =>
                    have hx0 : xv 0 = Value.func (.func 47) #[] #[.pointer (some ⟨gt, 0, none⟩), .pointer (some ⟨gg, 0, none⟩)] := hd 0 (by kernel_rfl)
                    have hx3 : xv 3 = Value.pointer (some ⟨ob, oo + 3 + i * 3, none⟩) := hd 3 (by kernel_rfl)
                    clear hd
                    simp only [Act.put, List.setIfInBounds_toArray, List.set_cons_succ, List.set_cons_zero] at hK
                    rw [hx0] at hK ⊢
                    rw [hx3] at hK ⊢
                    refine (if_pos (by rfl)).mpr ?_
                    go_simp
                    go_at_call 47
                    refine (GSpec.step HG.out HF.out HNZ.out (HND.out.kept hW) (HBX.out.kept (HKW.out.trans hW)) (hS (.inr rfl))).mono ?_
                    rintro e w' ⟨rfl, hp, hk⟩
                    exact hK.out _ _ ⟨hk, fun _ => hp⟩ (.inl trivial) hp
                case behind =>
                  intro xv W hW hx a ha
                  replace hW : Kept B0 wr W := (Kept.ofB ((Below.refl _ wr).drew)).trans hW.1
                  simp only [fillA] at ha
                  simp only [List.setIfInBounds_toArray, List.set_cons_succ, List.set_cons_zero, Nat.zero_add, Nat.reduceAdd] at ha
                  subst ha
                  have hp : Pg B0 I w Tt (l) W := hx 4 (by decide)
                  have HKi2 := Lib.hid (HKi.out.trans hW)
                  have HP2 := Lib.hid hp
                  clear hx hW hp HPG HKW HND HKi HG
                  gi_wp2
                  go_roundw
                  case rel => exact ⟨i + 1, by omega, by go_num, by rw [HL.out]; exact HP2.out, HKi2.out⟩
                  case measure => simp [intOf]; omega
              · obtain rfl : i = n7 := by omega
                have hnd := HND0.out.kept HKi.out
                have HND := Lib.hid hnd
                have q0 := hnd.c0
                dsimp only at q0
                have hpi := HPi.out
                rw [G.drop_all (i + 1) c (by have := HE7.out; have := HNL.out; omega)] at hpi
                simp only [pcs, List.nil_append] at hpi
                have hlt1 : ¬ (i : Int) < (i : Int) := by omega
                clear hq0 hq1 hq2 HPi
                by_cases hk : k = 0
                · subst hk
                  have HPE := Lib.hid (show Pg B0 I w Tt L2 wr from hpi)
                  clear hpi hnd
                  gi_wp2
                  exact HFIN.out _ HKi.out HPE.out
                · have hk0 : (k == 0) = false := by simpa using hk
                  have hkw : IntKind.i64.wrap (k + 1) = k + 1 := by have := hnd.ok.1; dsimp only at this; rw [IntKind.wrap_i64]; omega
                  unfold cls at hpi
                  rw [if_neg hk] at hpi
                  have HPG := Lib.hid (show Pg B0 I w Tt ((k + 1, emp) :: L2) wr from hpi)
                  have HKW := Lib.hid hpi.kept
                  have eg := HS.out.enter
                  generalize L2 = l at *
                  clear hpi hnd
                  gi_wp2
                  refine region_rel2In 7 (fun W => Pg B0 I w Tt ((k + 1, emp) :: l) W) (fun W W' => Kept B0 W W' ∧ (Pg B0 I w Tt (l) W → Pg B0 I w Tt (l) W')) [Cd.is (Value.func (.func gto) #[] caps), Cd.is (Value.pointer (some ⟨b, off, none⟩)), Cd.is (Value.pointer (some ⟨b, off, none⟩)), Cd.is (Value.pointer (some ⟨b, off, none⟩)), Cd.is (Value.int .i64 k), Cd.is (Value.int .i64 (k + 1)), Cd.is (Value.agg #[.int .i64 (k + 1), .string ⟨#[]⟩]), ⟨fun _ W => Pg B0 I w Tt (l) W, fun _ _ _ h q => h.2 q⟩] (by kernel_rfl) (by decide) (by kernel_rfl) (by kernel_rfl) (fun ⟨_, _, h⟩ => h) (Pg.later HS.out HPG.out ((Below.refl _ wr).drew)) ⟨Kept.refl _ _, id⟩ (fun _ _ _ h k => ⟨h.1.trans k.1, fun q => k.2 (h.2 q)⟩) ?steps ?behind
                  case steps =>
                    intro xv W hW a ha
                    replace hW : Kept B0 wr W := (Kept.ofB ((Below.refl _ wr).drew)).trans hW.1
                    simp only [fillA] at ha
                    simp only [List.setIfInBounds_toArray, List.set_cons_succ, List.set_cons_zero, Nat.zero_add, Nat.reduceAdd] at ha
                    subst ha
                    refine ⟨fun hI hS hd K hK => ?s0, fun hI hS hd K hK => ?s1, fun hI hS hd K hK => ?s2, fun hI hS hd K hK => ?s3, fun hI hS hd K hK => ?s4, fun hI hS hd K hK => ?s5, fun hI hS hd K hK => ?s6, fun hI hS hd K hK => ?s7, trivial⟩
                    case s0 =>
                      clear hd
                      simp only [Act.put, List.setIfInBounds_toArray, List.set_cons_succ, List.set_cons_zero] at hK
                      refine (if_pos (by rfl)).mpr ?_
                      have hq := (HBX.out.kept (HKW.out.trans hW)).c1
                      go_simp
                      exact hK.out _ _ ⟨Kept.refl _ _, id⟩ (.inr id) rfl
                    case s1 =>
                      clear hd
                      simp only [Act.put, List.setIfInBounds_toArray, List.set_cons_succ, List.set_cons_zero] at hK
                      refine (if_pos (by rfl)).mpr ?_
                      go_simp
                      exact hK.out _ _ ⟨Kept.refl _ _, id⟩ (.inr id) rfl
                    case s2 =>
                      have hx1 : xv 1 = Value.pointer (some ⟨b, off, none⟩) := hd 1 (by kernel_rfl)
                      clear hd
                      simp only [Act.put, List.setIfInBounds_toArray, List.set_cons_succ, List.set_cons_zero] at hK
                      rw [hx1] at hK ⊢
                      refine (if_pos (by rfl)).mpr ?_
                      go_simp
                      exact hK.out _ _ ⟨Kept.refl _ _, id⟩ (.inr id) rfl
                    case s3 =>
                      have hx2 : xv 2 = Value.pointer (some ⟨b, off, none⟩) := hd 2 (by kernel_rfl)
                      clear hd
                      simp only [Act.put, List.setIfInBounds_toArray, List.set_cons_succ, List.set_cons_zero] at hK
                      rw [hx2] at hK ⊢
                      refine (if_pos (by rfl)).mpr ?_
                      go_simp
                      exact hK.out _ _ ⟨Kept.refl _ _, id⟩ (.inr id) rfl
                    case s4 =>
                      have hx3 : xv 3 = Value.pointer (some ⟨b, off, none⟩) := hd 3 (by kernel_rfl)
                      clear hd
                      simp only [Act.put, List.setIfInBounds_toArray, List.set_cons_succ, List.set_cons_zero] at hK
                      rw [hx3] at hK ⊢
                      refine (if_pos (by rfl)).mpr ?_
                      obtain ⟨_, hq0, hq1, hq2, _, _⟩ := (HND.out.kept hW)
                      go_simp
                      exact hK.out _ _ ⟨Kept.refl _ _, id⟩ (.inr id) rfl
                    case s5 =>
                      have hx4 : xv 4 = Value.int .i64 k := hd 4 (by kernel_rfl)
                      clear hd
                      simp only [Act.put, List.setIfInBounds_toArray, List.set_cons_succ, List.set_cons_zero] at hK
                      rw [hx4] at hK ⊢
                      refine (if_pos (by rfl)).mpr ?_
                      go_simp
                      exact hK.out _ _ ⟨Kept.refl _ _, id⟩ (.inr id) rfl
                    case s6 =>
                      have hx5 : xv 5 = Value.int .i64 (k + 1) := hd 5 (by kernel_rfl)
                      clear hd
                      simp only [Act.put, List.setIfInBounds_toArray, List.set_cons_succ, List.set_cons_zero] at hK
                      rw [hx5] at hK ⊢
                      refine (if_pos (by rfl)).mpr ?_
                      go_simp
                      exact hK.out _ _ ⟨Kept.refl _ _, id⟩ (.inr id) rfl
                    case s7 =>
                      have hx0 : xv 0 = Value.func (.func gto) #[] caps := hd 0 (by kernel_rfl)
                      have hx6 : xv 6 = Value.agg #[.int .i64 (k + 1), .string ⟨#[]⟩] := hd 6 (by kernel_rfl)
                      clear hd
                      simp only [Act.put, List.setIfInBounds_toArray, List.set_cons_succ, List.set_cons_zero] at hK
                      rw [hx0] at hK ⊢
                      rw [hx6] at hK ⊢
                      refine (if_pos (by rfl)).mpr ?_
                      go_simp
                      go_at_fn gto
                      refine (HS.out.step HF.out (hS (.inr rfl))).mono ?_
                      rintro e w' ⟨rfl, hp, hk⟩
                      exact hK.out _ _ ⟨hk, fun _ => hp⟩ (.inl trivial) hp
                  case behind =>
                    intro xv W hW hx a ha
                    replace hW : Kept B0 wr W := (Kept.ofB ((Below.refl _ wr).drew)).trans hW.1
                    simp only [fillA] at ha
                    simp only [List.setIfInBounds_toArray, List.set_cons_succ, List.set_cons_zero, Nat.zero_add, Nat.reduceAdd] at ha
                    subst ha
                    have hp : Pg B0 I w Tt (l) W := hx 7 (by decide)
                    exact HFIN.out _ (HKi.out.trans hW) hp
        case rest =>
          intro D W hD hJ hK
          have HE := Lib.hid (Pg.own HS.out (B := wB.heap.size) (by omega) hJ (grownBy_putObj' W D (.deferred none)) (fun r e => by cases e; exact ⟨hD, _, hK, rfl⟩))
          clear hJ
          gi_wp2
          refine ⟨by simp, .inl ⟨_, _, rfl, run_takeDeferred hK, ?_⟩⟩
          refine ⟨_, results_none rfl _ _ _, ?_⟩
          exact ⟨rfl, HE.out⟩
    | cons k' x' c' r' =>
      obtain ⟨b', off', s', hA, _, hnd'⟩ := hcur.kids.getN (i := 0) rfl hcur.ok.2
      subst hA
      simp only [Nat.zero_mul, Nat.add_zero] at hnd'
      have hpg2 : Pg B0 I w Tt (opn k ++ (pcs1 ⟨k', x', c'⟩ ++ backs (ch ++ [⟨b, off, ⟨k, x, .cons k' x' c' r'⟩, .slice (some ⟨b', off', none⟩) (r'.len + 1) C⟩]))) wr := by
        rw [backs_snoc]
        rw [pcs1_node] at hpg
        simp only [tl, G.drop]
        simp only [List.append_assoc] at hpg ⊢
        exact hpg
      obtain ⟨ch2, hch2⟩ : ∃ ch2, ch ++ [(⟨b, off, ⟨k, x, .cons k' x' c' r'⟩, .slice (some ⟨b', off', none⟩) (r'.len + 1) C⟩ : Lk)] = ch2 := ⟨_, rfl⟩
      rw [hch2] at hpg2
      have HCH2 : Hid (∀ e ∈ ch2, e.at w ∧ e.nd.c.len ≠ 0 ∧ nsize e.nd ≤ N) := fun e he => by
        rw [← hch2, List.mem_append, List.mem_singleton] at he
        rcases he with he | rfl
        · exact HCH.out e he
        · exact ⟨HCUR.out, by simp [G.len], by have h1 := HSZ.out; have h2 := HLEN.out; show nsize (⟨k, x, .cons k' x' c' r'⟩ : Nd) ≤ N; omega⟩
      have HPG2 := Lib.hid hpg2
      have HND1 := Lib.hid hnd
      have HND' := Lib.hid hnd'
      have hcl : ch.length ≤ 1000000 := by omega
      have hown2 : (ch.map ad).map ptrV ++ [ptrV ⟨b, off, none⟩] = (ch2.map ad).map ptrV := by rw [← hch2]; simp [ad]
      have HOW2 := Lib.hid hown2
      have hl2 : ch2.length = ch.length + 1 := by rw [← hch2]; simp
      have HL2 := Lib.hid hl2
      obtain ⟨l0, hl0⟩ : ∃ l0, pcs1 (⟨k', x', c'⟩ : Nd) ++ backs ch2 = l0 := ⟨_, rfl⟩
      have HOWN := Lib.hid hown
      have HSZ2 : Hid (nsize (⟨k', x', c'⟩ : Nd) + 1 ≤ n) := by
        show _ ≤ _
        have := HSZ.out
        simp only [nsize, G.size] at this ⊢
        omega
      have hlt0 : (0 : Int) < ((r'.len + 1 : Nat) : Int) := by omega
      obtain ⟨m, hm⟩ : ∃ m, r'.len + 1 = m := ⟨_, rfl⟩
      have hbw : w.heap.size ≤ wr.heap.size := hpg.kept.size
      have hl : ((ch.map ad).map ptrV).length = ch.length := by simp
      simp only [G.len] at hq2 hnC ⊢
      rw [hm] at hq2 hnC hlt0
      clear hcur hch hpg hpg2 hnd hnd' hch2 hown2 hsz hlen HRD hl2 hC
      by_cases hk : k = 0
      · subst hk
        have hl00 : Hid (Pg B0 I w Tt l0 wr) := by
          show Pg _ _ _ _ _ _
          rw [← hl0]
          exact HPG2.out
        have HL0 := Lib.hid hl0
        clear HPG2 hl0
        gi_wp2_with (gi_at_builtin; refine appIn_ptr wr rfl _ _ rfl w.heap.size u4 ch.length ((ch.map ad).map ptrV) (.pointer (some ⟨b, off, none⟩)) rfl HOWN.out rfl wr.heap.size rfl rfl (by omega) hbw ?_; intro v' w1 hown' hgrow hat; obtain ⟨hqk, hpg1⟩ := app_facts HS.out (Nat.le_refl _) hbw HOWN.out hl00.out hgrow; have hnd1 := QK.nd HND1.out hqk; obtain ⟨_, r0, r1, r2, _, _⟩ := hnd1; have HO' := Lib.hid hown'; have HPG1 := Lib.hid hpg1; clear hown' hgrow hat hqk hpg1 hq0 hq1 hq2 HND1)
        have hrd' : RD B0 I N w Tt (nsize (⟨k', x', c'⟩ : Nd)) (.pointer (some ⟨b', off', none⟩)) v' w1 := ⟨ch2, ⟨b', off', ⟨k', x', c'⟩, s'⟩, rfl, by rw [HL2.out, ← HOW2.out]; exact HO'.out, rfl, by have h1 := HSZ2.out; have h2 := HLEN.out; rw [HL2.out]; omega, HND'.out, HCH2.out, by have := HPG1.out; rw [← HL0.out] at this; exact this⟩
        have HRD' := Lib.hid hrd'
        clear hrd' r0 r1 r2
        go_roundw
        case rel => exact ⟨_, HRD'.out⟩
        case measure => exact Nat.lt_of_le_of_lt ((leastOf_spec ⟨_, HRD'.out⟩).2 _ HRD'.out) (Nat.lt_of_lt_of_eq HSZ2.out (Eq.symm HN.out))
      · have hl00 : Hid (Pg B0 I w Tt ((k, emp) :: l0) wr) := by
          show Pg _ _ _ _ _ _
          have := HPG2.out
          unfold opn at this
          rw [if_neg hk, ← hl0] at *
          exact this
        have HL0 := Lib.hid hl0
        have hk0 : (k == 0) = false := by simpa using hk
        clear HPG2 hl0
        gi_wp2_with (gi_at_builtin; refine appIn_ptr wr rfl _ _ rfl w.heap.size u4 ch.length ((ch.map ad).map ptrV) (.pointer (some ⟨b, off, none⟩)) rfl HOWN.out rfl wr.heap.size rfl rfl (by omega) hbw ?_; intro v' w1 hown' hgrow hat; obtain ⟨hqk, hpg1⟩ := app_facts HS.out (Nat.le_refl _) hbw HOWN.out hl00.out hgrow; have hnd1 := QK.nd HND1.out hqk; have HND := Lib.hid hnd1; obtain ⟨_, r0, r1, r2, _, _⟩ := hnd1; have HO' := Lib.hid hown'; have HPG := Lib.hid hpg1; have HKW := Lib.hid hpg1.kept; clear hown' hgrow hat hqk hpg1 hq0 hq1 hq2 HND1)
        generalize l0 = l at *
        generalize w1 = wA at *
        have eg := HS.out.enter
        refine wpIn_wide.2 (region_rel2 6 (fun W => Pg B0 I w Tt ((k, emp) :: l) W) (fun W W' => Kept B0 W W' ∧ (Pg B0 I w Tt (l) W → Pg B0 I w Tt (l) W')) [Cd.is (Value.func (.func gto) #[] caps), Cd.is (Value.pointer (some ⟨b, off, none⟩)), Cd.is (Value.pointer (some ⟨b, off, none⟩)), Cd.is (Value.pointer (some ⟨b, off, none⟩)), Cd.is (Value.int .i64 k), Cd.is (Value.agg #[.int .i64 k, .string ⟨#[]⟩]), ⟨fun _ W => Pg B0 I w Tt (l) W, fun _ _ _ h q => h.2 q⟩] (by kernel_rfl) (by decide) (by kernel_rfl) (Pg.later HS.out HPG.out ((Below.refl _ wA).drew)) ⟨Kept.refl _ _, id⟩ (fun _ _ _ h k => ⟨h.1.trans k.1, fun q => k.2 (h.2 q)⟩) ?steps ?behind)
        case steps =>
          intro xv W hW a ha
          replace hW : Kept B0 wA W := (Kept.ofB ((Below.refl _ wA).drew)).trans hW.1
          simp only [fillA] at ha
          simp only [List.setIfInBounds_toArray, List.set_cons_succ, List.set_cons_zero, Nat.zero_add, Nat.reduceAdd] at ha
          subst ha
          refine ⟨fun hI hS hd K hK => ?s0, fun hI hS hd K hK => ?s1, fun hI hS hd K hK => ?s2, fun hI hS hd K hK => ?s3, fun hI hS hd K hK => ?s4, fun hI hS hd K hK => ?s5, fun hI hS hd K hK => ?s6, trivial⟩
          case s0 =>
            clear hd
            simp only [Act.put, List.setIfInBounds_toArray, List.set_cons_succ, List.set_cons_zero] at hK
            refine (if_pos (by rfl)).mpr ?_
            have hq := (HBX.out.kept (HKW.out.trans hW)).c1
            go_simp
            exact hK.out _ _ ⟨Kept.refl _ _, id⟩ (.inr id) rfl
          case s1 =>
            clear hd
            simp only [Act.put, List.setIfInBounds_toArray, List.set_cons_succ, List.set_cons_zero] at hK
            refine (if_pos (by rfl)).mpr ?_
            go_simp
            exact hK.out _ _ ⟨Kept.refl _ _, id⟩ (.inr id) rfl
          case s2 =>
            have hx1 : xv 1 = Value.pointer (some ⟨b, off, none⟩) := hd 1 (by kernel_rfl)
            clear hd
            simp only [Act.put, List.setIfInBounds_toArray, List.set_cons_succ, List.set_cons_zero] at hK
            rw [hx1] at hK ⊢
            refine (if_pos (by rfl)).mpr ?_
            go_simp
            exact hK.out _ _ ⟨Kept.refl _ _, id⟩ (.inr id) rfl
          case s3 =>
            have hx2 : xv 2 = Value.pointer (some ⟨b, off, none⟩) := hd 2 (by kernel_rfl)
            clear hd
            simp only [Act.put, List.setIfInBounds_toArray, List.set_cons_succ, List.set_cons_zero] at hK
            rw [hx2] at hK ⊢
            refine (if_pos (by rfl)).mpr ?_
            go_simp
            exact hK.out _ _ ⟨Kept.refl _ _, id⟩ (.inr id) rfl
          case s4 =>
            have hx3 : xv 3 = Value.pointer (some ⟨b, off, none⟩) := hd 3 (by kernel_rfl)
            clear hd
            simp only [Act.put, List.setIfInBounds_toArray, List.set_cons_succ, List.set_cons_zero] at hK
            rw [hx3] at hK ⊢
            refine (if_pos (by rfl)).mpr ?_
            obtain ⟨_, hq0, hq1, hq2, _, _⟩ := (HND.out.kept hW)
            go_simp
            exact hK.out _ _ ⟨Kept.refl _ _, id⟩ (.inr id) rfl
          case s5 =>
            have hx4 : xv 4 = Value.int .i64 k := hd 4 (by kernel_rfl)
            clear hd
            simp only [Act.put, List.setIfInBounds_toArray, List.set_cons_succ, List.set_cons_zero] at hK
            rw [hx4] at hK ⊢
            refine (if_pos (by rfl)).mpr ?_
            go_simp
            exact hK.out _ _ ⟨Kept.refl _ _, id⟩ (.inr id) rfl
          case s6 =>
            have hx0 : xv 0 = Value.func (.func gto) #[] caps := hd 0 (by kernel_rfl)
            have hx5 : xv 5 = Value.agg #[.int .i64 k, .string ⟨#[]⟩] := hd 5 (by kernel_rfl)
            clear hd
            simp only [Act.put, List.setIfInBounds_toArray, List.set_cons_succ, List.set_cons_zero] at hK
            rw [hx0] at hK ⊢
            rw [hx5] at hK ⊢
            refine (if_pos (by rfl)).mpr ?_
            go_simp
            go_at_fn gto
            refine (HS.out.step HF.out (hS (.inr rfl))).mono ?_
            rintro e w' ⟨rfl, hp, hk⟩
            exact hK.out _ _ ⟨hk, fun _ => hp⟩ (.inl trivial) hp
        case behind =>
          intro xv W hW hx a ha
          replace hW : Kept B0 wA W := (Kept.ofB ((Below.refl _ wA).drew)).trans hW.1
          simp only [fillA] at ha
          simp only [List.setIfInBounds_toArray, List.set_cons_succ, List.set_cons_zero, Nat.zero_add, Nat.reduceAdd] at ha
          subst ha
          have hp : Pg B0 I w Tt (l) W := hx 6 (by decide)
          have hnd2 := HND.out.kept hW
          obtain ⟨_, r0, r1, r2, _, _⟩ := hnd2
          have HOW := Lib.hid (hW.own HO'.out)
          have HPG1 := Lib.hid hp
          clear hx hW hp HPG HKW HND HO' eg
          gi_wp2
          have hrd' : RD B0 I N w Tt (nsize (⟨k', x', c'⟩ : Nd)) (.pointer (some ⟨b', off', none⟩)) v' W := ⟨ch2, ⟨b', off', ⟨k', x', c'⟩, s'⟩, rfl, by rw [HL2.out, ← HOW2.out]; exact HOW.out, rfl, by have h1 := HSZ2.out; have h2 := HLEN.out; rw [HL2.out]; omega, HND'.out, HCH2.out, by have := HPG1.out; rw [← HL0.out] at this; exact this⟩
          have HRD' := Lib.hid hrd'
          clear hrd' r0 r1 r2
          go_roundw
          case rel => exact ⟨_, HRD'.out⟩
          case measure => exact Nat.lt_of_le_of_lt ((leastOf_spec ⟨_, HRD'.out⟩).2 _ HRD'.out) (Nat.lt_of_lt_of_eq HSZ2.out (Eq.symm HN.out))
theorem gather_any (hS : Sink B0 I full gto caps) : ∀ N, N ≤ 1000000 → GSpec B0 I full gto caps gt gg N := fun N => Nat.strongRecOn N fun N ih hN => gather_step hS N hN fun M hM => ih M hM (by omega)
end
end Go.Proofs.Ytpankfbdlakmcaa.Doc
