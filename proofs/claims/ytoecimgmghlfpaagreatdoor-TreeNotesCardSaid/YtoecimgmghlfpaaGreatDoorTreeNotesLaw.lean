/-
  Layer 5 (tree): the walk of TreeNotes: remarks among a file's Kids. Written by gen_treenoteslaw.py.
-/
import Derived.Test.YtoecimgmghlfpaaGreatDoorTreeNotesSt
import Derived.Test.YtoecimgmghlfpaaGreatDoorMemRel3
namespace Go.Proofs.YtoecimgmghlfpaaGreatDoor.Tree
open Go.ChangeShapes Go.WideShapes Go.ChangeAt Go.RowKit Mem
set_option linter.unusedVariables false

def nt : ByteArray := ⟨#[47, 47, 32, 110]⟩
theorem nt_remark : tkB nt 5 = true := by decide +kernel

set_option maxRecDepth 100000 in
set_option maxHeartbeats 16000000 in
theorem treeNotes_walk (k : Int) (x y : ByteArray) (A : Option Addr) (n C : Nat) (c : F) (at0 : Int) (w : World) (hf : Fs w (Lo w.heap.size) (.slice A n C) c) (hT : Lex.Tab w) :
    Calls Tryz.prog 6 #[.agg #[.int .i64 k, .string x, .string y, .slice A n C], .int .i64 at0] w fun e w' => e = .returned (.bool true) ∧ Below w.heap.size w w' := by
  have b1 := below1 w (.cells #[.int .i64 k, .string x, .string y, .slice A n C] 24)
  have HFW := Lib.hid (few_any k x y A n C c (w.alloc (.cells #[.int .i64 k, .string x, .string y, .slice A n C] 24)) (hf.later b1))
  have HT0 : Hid (∀ W, Below w.heap.size w W → Lex.Tab W) := fun W hW => hT.below hW hT.pos
  have HF0 : Hid (∀ W, Below w.heap.size w W → Fs W (Lo W.heap.size) (.slice A n C) c) := fun W hW => hf.later hW
  have HFB : Hid (Fs w (Lo w.heap.size) (.slice A n C) c) := hf
  have HBX0 : Hid (∀ W, Below (w.alloc (.cells #[.int .i64 k, .string x, .string y, .slice A n C] 24)).heap.size (w.alloc (.cells #[.int .i64 k, .string x, .string y, .slice A n C] 24)) W → Boxed W w.heap.size k x y (.slice A n C)) := fun W hW => (boxed_new w k x y (.slice A n C)).below hW (by simp)
  have HB1 := Lib.hid b1
  clear hf hT b1
  cases hfb : fewB k x y c with
  | false =>
    rw [hfb] at HFW
    clear hfb
    go_enter Tryz.func6, Tryz.ntmps6
    go_wp2_with fail
    refine HFW.out.mono ?_
    rintro e w1 ⟨rfl, hb⟩
    have HB := Lib.hid (HB1.out.trans (hb.mono HB1.out.size))
    have HK := Lib.hid (known_any w1 (HT0.out w1 HB.out))
    clear hb
    go_wp2_with fail
    refine HK.out.mono ?_
    rintro e w2 ⟨rfl, hb⟩
    have HB2 := Lib.hid (HB.out.trans (hb.mono HB.out.size))
    clear hb
    go_wp2
    go_ret
    exact ⟨rfl, HB2.out⟩
  | true =>
    rw [hfb] at HFW
    have HIS := Lib.hid (few_is hfb)
    have HST := Lib.hid (few_smallT hfb)
    clear hfb
    cases hr : rightT nmB tkB k x y c with
    | false =>
      have HR := Lib.hid hr
      clear hr
      go_enter Tryz.func6, Tryz.ntmps6
      go_wp2_with fail
      refine HFW.out.mono ?_
      rintro e w1 ⟨rfl, hb⟩
      have HB := Lib.hid (HB1.out.trans (hb.mono HB1.out.size))
      obtain ⟨q0, q1, q2, q3⟩ := (HBX0.out w1 hb).cells
      have HRT := Lib.hid (right_any k x y A n C c w1 (HF0.out w1 HB.out) (by have := HIS.out.hx; omega) (by have := HIS.out.hy; omega) HIS.out.sm (HT0.out w1 HB.out))
      rw [HR.out] at HRT
      clear hb
      go_wp2_with fail
      refine HRT.out.mono ?_
      rintro e w2 ⟨rfl, hb⟩
      have HB2 := Lib.hid (HB.out.trans (hb.mono HB.out.size))
      have HK := Lib.hid (known_any w2 (HT0.out w2 HB2.out))
      clear hb HRT
      go_wp2_with fail
      refine HK.out.mono ?_
      rintro e w3 ⟨rfl, hb⟩
      have HB3 := Lib.hid (HB2.out.trans (hb.mono HB2.out.size))
      clear hb
      go_wp2
      go_ret
      exact ⟨rfl, HB3.out⟩
    | true =>
      obtain ⟨rfl, rfl, rfl⟩ := right_texts nmB tkB hr
      have hr' : rightT nmB tkB 1 ⟨#[]⟩ ⟨#[]⟩ (ofM (toL c)) = true := by rw [ofM_eq, ofL_toL]; exact hr
      have HR := Lib.hid hr
      have HMR : Hid (∀ kz, rightT nmB tkB 1 ⟨#[]⟩ ⟨#[]⟩ (ofL (moreL nt (toL c) kz (toL c).length)) = true) := fun kz => by
        have := more_right nmB tkB (k := kz) nt_remark hr'
        rwa [ofM_eq] at this
      have HLR : Hid (rightT nmB tkB 1 ⟨#[]⟩ ⟨#[]⟩ (ofL (lessL (toL c) (toL c).length)) = true) := by
        show _ = _
        have := less_right nmB tkB hr'
        rwa [ofM_eq] at this
      have HKN : Hid (∀ nd ∈ toL c, rightT nmB tkB nd.k nd.x nd.y nd.c = false) := fun nd hnd => kid_not nmB tkB hr' nd hnd
      have HSL : Hid (∀ nd ∈ toL c, nd.x.size ≤ 100000 ∧ nd.y.size ≤ 100000 ∧ SmallT nd.c) := smallT_toL HST.out
      clear hr hr'
      obtain ⟨A', C', e, hnC, hCm⟩ := HFB.out.slice
      injection e with e1 e2 e3
      subst e1; subst e3
      have HN : Hid ((toL c).length = n) := by show _ = _; rw [toL_len, e2]
      have hn2 : n ≤ 2000 := by have := HIS.out.sz; have := F.len_le_size c; omega
      rw [← e2] at hnC
      clear e2
      have hCm' : C ≤ 9223372036854775807 := hCm
      clear hCm
      go_enter Tryz.func6, Tryz.ntmps6
      go_wp2_with fail
      refine HFW.out.mono ?_
      rintro e w1 ⟨rfl, hb⟩
      have HB := Lib.hid (HB1.out.trans (hb.mono HB1.out.size))
      have HBB1 := Lib.hid hb
      obtain ⟨q0, q1, q2, q3⟩ := (HBX0.out w1 hb).cells
      have HRT := Lib.hid (right_any 1 ⟨#[]⟩ ⟨#[]⟩ A n C c w1 (HF0.out w1 HB.out) (by decide) (by decide) HIS.out.sm (HT0.out w1 HB.out))
      rw [HR.out] at HRT
      clear hb
      go_wp2_with fail
      refine HRT.out.mono ?_
      rintro e w2 ⟨rfl, hb⟩
      have HB2 := Lib.hid (HB.out.trans (hb.mono HB.out.size))
      have HBX2 := Lib.hid (HBX0.out w2 (HBB1.out.trans (hb.mono HBB1.out.size)))
      obtain ⟨p0, p1, p2, p3⟩ := HBX2.out.cells
      have hnn : (0 : Int) < (n : Int) + 1 := by omega
      clear hb HRT q0 q1 q2 q3 HBB1
      have HM : Hid (NSt w ((w2.alloc (.cells #[.int .i64 1, .string ⟨#[]⟩, .string ⟨#[]⟩, .slice none 0 0] 24)).alloc (.cells #[.int .i64 1, .string ⟨#[]⟩, .string ⟨#[]⟩, .slice none 0 0] 24)) w.heap.size w2.heap.size (w2.heap.size + 1) 1 ⟨#[]⟩ ⟨#[]⟩ (.slice A n C) (.slice none 0 0) (.slice none 0 0) (.slice none 0 0) (.slice none 0 0) [] []) := by
        have b3 := below2 w2 (.cells #[.int .i64 1, .string ⟨#[]⟩, .string ⟨#[]⟩, .slice none 0 0] 24) (.cells #[.int .i64 1, .string ⟨#[]⟩, .string ⟨#[]⟩, .slice none 0 0] 24)
        have hlt := HBX2.out.lt
        have hsz := HB2.out.size
        refine ⟨HB2.out.trans (b3.mono hsz), HBX2.out.below b3 hlt, (Below.heap_alloc _ _ _ (by simp)).trans (heap_alloc_new _ _), ?_, OwnS.nil _ _, OwnS.nil _ _, ⟨by omega, by omega, by omega, by omega, by omega, by omega⟩, fun g e => (by cases e), fun g e => (by cases e)⟩
        have e : w2.heap.size + 1 = (w2.alloc (.cells #[.int .i64 1, .string ⟨#[]⟩, .string ⟨#[]⟩, .slice none 0 0] 24)).heap.size := by simp
        rw [e]
        exact heap_alloc_new _ _
      go_wp2
      obtain ⟨z, hz⟩ : ∃ z, wrap64 ((IntKind.u64.wrap at0).tmod ((n : Int) + 1)) = z := ⟨_, rfl⟩
      rw [hz]
      clear hz
      obtain ⟨kz, hkz⟩ : ∃ kz : Nat, ∀ j : Nat, j ≤ n → ((j : Int) = z ↔ j = kz) := by
        by_cases hz0 : 0 ≤ z
        · exact ⟨z.toNat, fun j hj => by omega⟩
        · exact ⟨n + 1, fun j hj => by omega⟩
      have HKZ := Lib.hid hkz
      clear hkz p0 p1 p2 p3
      go_loopw [8] (fun s8 wr => ∃ (j l6 C6 l7 C7 : Nat) (A6 A7 : Option Addr), j ≤ n ∧ s8 = .int .i64 (j : Int) ∧ Hid (NSt w wr w.heap.size w2.heap.size (w2.heap.size + 1) 1 ⟨#[]⟩ ⟨#[]⟩ (.slice A n C) (.slice A6 l6 C6) (.slice A7 l7 C7) (.slice A6 l6 C6) (.slice A7 l7 C7) (moreL nt (toL c) kz j) (lessL (toL c) j))) (fun s8 _ => n - (intOf s8).toNat)
      case atStart => exact ⟨0, 0, 0, 0, 0, none, none, Nat.zero_le _, rfl, by rw [moreL_zero, lessL_zero]; exact HM.out⟩
      case round =>
        clear HM
        obtain ⟨j, l6, C6, l7, C7, A6, A7, hj, rfl, HM⟩ := hrel
        obtain ⟨p0, p1, p2, p3⟩ := HM.out.b2.cells
        by_cases hlt : j < n
        · have hlt' : (j : Int) < (n : Int) := by omega
          have hj0 : (0 : Int) ≤ (j : Int) := by omega
          obtain ⟨kk, kx, ky, kc, kr, hdr, _⟩ := F.drop_cons (n := j) (f := c) (by rw [← toL_len, HN.out]; exact hlt)
          have hnd := toL_drop_take hdr
          obtain ⟨b0, off0, s0, rfl, hb0, _, hat⟩ := HFB.out.at_ hdr
          obtain ⟨Ak, Ck, rfl, _, _⟩ := hat.kids.slice
          generalize kc.len = kn at *
          have HND : Hid (∀ W, Below w.heap.size w W → W.cell? ⟨b0, off0 + j * 4, none⟩ = some (.int .i64 kk) ∧ W.cell? ⟨b0, off0 + j * 4 + 1, none⟩ = some (.string kx) ∧ W.cell? ⟨b0, off0 + j * 4 + 2, none⟩ = some (.string ky) ∧ W.cell? ⟨b0, off0 + j * 4 + 3, none⟩ = some (.slice Ak kn Ck)) := fun W hW =>
            ⟨(hW.cell (p := ⟨b0, off0 + j * 4, none⟩) hb0).trans hat.c0, (hW.cell (p := ⟨b0, off0 + j * 4 + 1, none⟩) hb0).trans hat.c1, (hW.cell (p := ⟨b0, off0 + j * 4 + 2, none⟩) hb0).trans hat.c2, (hW.cell (p := ⟨b0, off0 + j * 4 + 3, none⟩) hb0).trans hat.c3⟩
          have HKF : Hid (∀ W, Below w.heap.size w W → Fs W (Lo w.heap.size) (.slice Ak kn Ck) kc) := fun W hW => hat.kids.below hW (Nat.le_refl _)
          have HE5' : Hid (moreL nt (toL c) kz j ++ (if j = kz then [noteN nt] else []) ++ [(⟨kk, kx, ky, kc⟩ : Nd)] = moreL nt (toL c) kz (j + 1)) := by
            show _ = _
            by_cases e : j = kz
            · subst e; rw [if_pos rfl, moreL_at nt hnd]
            · rw [if_neg e, moreL_step nt e hnd, List.append_nil]
          have HL7S : Hid (kk = 8 → lessL (toL c) (j + 1) = lessL (toL c) j) := fun e => lessL_skip hnd e
          have HL7T : Hid (kk ≠ 8 → lessL (toL c) (j + 1) = lessL (toL c) j ++ [(⟨kk, kx, ky, kc⟩ : Nd)]) := fun e => lessL_take hnd e
          have HLL : Hid ((moreL nt (toL c) kz j).length ≤ 900000 ∧ (lessL (toL c) j).length ≤ 1000000) := ⟨Nat.le_trans (moreL_len ..) (by rw [HN.out]; omega), Nat.le_trans (lessL_len ..) (by rw [HN.out]; omega)⟩
          obtain ⟨L7, hL7⟩ : ∃ L, lessL (toL c) j = L := ⟨_, rfl⟩
          rw [hL7] at HM HL7S HL7T HLL
          obtain ⟨L0, hL0⟩ : ∃ L, moreL nt (toL c) kz j = L := ⟨_, rfl⟩
          rw [hL0] at HM HE5' HLL
          obtain ⟨L5, hL5⟩ : ∃ L, L0 ++ (if j = kz then [noteN nt] else []) = L := ⟨_, rfl⟩
          rw [hL5] at HE5'
          have HL5 := Lib.hid hL5
          clear hnd hL7 hL0 hL5 hdr hat hb0
          go_upto_if 39 with (fail)
          go_cut [8] from 30 to 72 (fun s8 W => ∃ (l5 C5 : Nat) (A5 : Option Addr), s8 = .int .i64 (j : Int) ∧ Hid (NSt w W w.heap.size w2.heap.size (w2.heap.size + 1) 1 ⟨#[]⟩ ⟨#[]⟩ (.slice (some ⟨b0, off0, none⟩) n C) (.slice A5 l5 C5) (.slice A7 l7 C7) (.slice A5 l5 C5) (.slice A7 l7 C7) L5 L7))
          case first =>
            by_cases hjz : j = kz
            · have hz1 : ((j : Int) == z) = true := by simp [(HKZ.out j hj).2 hjz]
              rw [if_pos hjz] at HL5
              have HMN := Lib.hid (HM.out.later (below1 wr (.cells #[.int .i64 8, .string ⟨#[47, 47, 32, 110]⟩, .string ⟨#[]⟩, .slice none 0 0] 24)))
              have HZ := Lib.hid (boxed_new wr 8 ⟨#[47, 47, 32, 110]⟩ ⟨#[]⟩ (.slice none 0 0)).cells
              obtain ⟨v0, v1, v2, v3⟩ := HM.out.b6.cells
              clear hjz
              go_wp2_with (at_builtin; refine wpList_app_own rfl _ _ rfl (Lo w.heap.size) (.slice A6 l6 C6) L0 wr.heap.size 1 (noteN nt) (.slice none 0 0) rfl rfl HZ.out HMN.out.o6 (fs_empty _ _) HMN.out.s6 ?_ ?_)
              · have := HLL.out.1; omega
              intro v' w' r1 r2 r3
              have hA := HMN.out.app6 r1 r2 (r3.imp id fun h => by rw [h]; simp)
              rw [HL5.out] at hA
              obtain ⟨a9, c9, e9, _, _⟩ := hA.o6.slice
              obtain ⟨m9, hm9⟩ : ∃ m, L5.length = m := ⟨_, rfl⟩
              rw [hm9] at e9
              subst e9
              obtain ⟨y0, y1, y2, y3⟩ := frz hA.b6
              obtain ⟨x0, x1, x2, x3⟩ := hA.b6.cells
              have HS := Lib.hid hA.set6
              clear r1 r2 r3 hA hm9 HMN HZ HM v0 v1 v2 v3 p0 p1 p2 p3
              go_wp2
              go_meet
              case rel => exact ⟨m9, c9, a9, rfl, HS.out⟩
            · have hz1 : ((j : Int) == z) = false := by
                have := fun e => hjz ((HKZ.out j hj).1 e)
                simpa using this
              rw [if_neg hjz, List.append_nil] at HL5
              have HM5 := HM
              rw [HL5.out] at HM5
              clear hjz
              go_wp2
              go_meet
              case rel => exact ⟨l6, C6, A6, rfl, HM5.out⟩
          case rest =>
            obtain ⟨l5, C5, A5, rfl, HM5⟩ := hcut
            rename World => W5
            have HE5 := HE5'
            have HBW : Hid (Below w.heap.size w W5) := HM5.out.bel
            have HLL5 : Hid (L5.length ≤ 1000000 ∧ L7.length ≤ 1000000) := ⟨by
              rw [← HL5.out, List.length_append]
              have : (if j = kz then [noteN nt] else []).length ≤ 1 := by split <;> simp
              have := HLL.out.1
              omega, HLL.out.2⟩
            clear HM HL5 HE5' HLL p0 p1 p2 p3
            have HLL := HLL5
            clear HLL5
            go_wp2
            refine region_rel3 [0, 1, 2, 3, 4, 5, 6, 7, 8] 8 10 (fun W W' => Below W.heap.size W W') (fun W => Below W5.heap.size W5 W) (fun v' W => NSt w W w.heap.size w2.heap.size (w2.heap.size + 1) 1 ⟨#[]⟩ ⟨#[]⟩ (.slice (some ⟨b0, off0, none⟩) n C) (Value.slice A5 l5 C5) (.slice A7 l7 C7) v' (.slice A7 l7 C7) (L5 ++ [(⟨kk, kx, ky, kc⟩ : Nd)]) L7) (fun v' W => NSt w W w.heap.size w2.heap.size (w2.heap.size + 1) 1 ⟨#[]⟩ ⟨#[]⟩ (.slice (some ⟨b0, off0, none⟩) n C) v' (.slice A7 l7 C7) v' (.slice A7 l7 C7) (L5 ++ [(⟨kk, kx, ky, kc⟩ : Nd)]) L7) [Cd.any, Cd.any, Cd.any, Cd.any, Cd.any, Cd.any, Cd.any, ⟨fun v W => ∃ (b : Nat), v = .slice (some ⟨b, 0, none⟩) 1 1 ∧ b < W.heap.size ∧ W.cell? ⟨b, 0, none⟩ = some (.int .i64 kk) ∧ W.cell? ⟨b, 1, none⟩ = some (.string kx) ∧ W.cell? ⟨b, 2, none⟩ = some (.string ky) ∧ W.cell? ⟨b, 3, none⟩ = some (.slice Ak kn Ck), fun v W W' hU h => by obtain ⟨b, e, h2, c0, c1, c2, c3⟩ := h; exact ⟨b, e, Nat.lt_of_lt_of_le h2 hU.size, (hU.cell (p := ⟨b, 0, none⟩) h2).trans c0, (hU.cell (p := ⟨b, 1, none⟩) h2).trans c1, (hU.cell (p := ⟨b, 2, none⟩) h2).trans c2, (hU.cell (p := ⟨b, 3, none⟩) h2).trans c3⟩⟩, Cd.any, Cd.any, Cd.any] [(fun v => v = Value.pointer (some ⟨w2.heap.size, 3, none⟩)), (fun v => v = Value.slice A5 l5 C5), (fun v => v = Value.pointer (some ⟨w.heap.size, 3, none⟩)), (fun v => v = Value.slice (some ⟨b0, off0, none⟩) n C), (fun v => v = Value.int .i64 (j : Int)), (fun v => v = Value.pointer (some ⟨b0, off0 + j * 4, none⟩)), (fun v => v = Value.agg #[.int .i64 kk, .string kx, .string ky, .slice Ak kn Ck]), (fun _ => True), (fun _ => True), (fun v => v = Value.pointer (some ⟨w2.heap.size, 3, none⟩)), (fun _ => True)] (by kernel_rfl) (by decide) (by kernel_rfl) (by kernel_rfl) (by kernel_rfl) (by decide) (by decide) (by decide) ((Below.refl _ _).drew) (fun _ _ hU hS => hS.trans (hU.mono hS.size)) (fun _ _ _ hU hS => hS.later hU) (fun _ _ _ hU hS => hS.later hU) ?steps ?behind
            case steps =>
              intro xv W a ha
              simp only [fillA] at ha
              simp only [List.setIfInBounds_toArray, List.set_cons_succ, List.set_cons_zero, Nat.zero_add, Nat.reduceAdd] at ha
              subst ha
              refine ⟨fun hI hS1 hS2 hd he K hK => ?s0, fun hI hS1 hS2 hd he K hK => ?s1, fun hI hS1 hS2 hd he K hK => ?s2, fun hI hS1 hS2 hd he K hK => ?s3, fun hI hS1 hS2 hd he K hK => ?s4, fun hI hS1 hS2 hd he K hK => ?s5, fun hI hS1 hS2 hd he K hK => ?s6, fun hI hS1 hS2 hd he K hK => ?s7, fun hI hS1 hS2 hd he K hK => ?s8, fun hI hS1 hS2 hd he K hK => ?s9, fun hI hS1 hS2 hd he K hK => ?s10, trivial⟩
              case s0 =>
                clear hd he hS1 hS2
                simp only [Act.put, List.setIfInBounds_toArray, List.set_cons_succ, List.set_cons_zero] at hK
                refine (if_pos (by rfl)).mpr ?_
                go_simp
                exact hK.out _ _ (fun _ _ => ⟨Below.refl _ _, trivial⟩) (fun e => absurd e (by decide)) (fun e => absurd e (by decide)) rfl
              case s1 =>
                have hx0 : xv 0 = Value.pointer (some ⟨w2.heap.size, 3, none⟩) := hd 0 (by kernel_rfl)
                have hSW := hS1 (.inl (by kernel_rfl))
                clear hd he hS1 hS2
                simp only [Act.put, List.setIfInBounds_toArray, List.set_cons_succ, List.set_cons_zero] at hK
                rw [hx0] at hK ⊢
                refine (if_pos (by rfl)).mpr ?_
                obtain ⟨hq0, hq1, hq2, hq3⟩ := (HM5.out.later hSW).b6.cells
                go_simp
                exact hK.out _ _ (fun _ _ => ⟨Below.refl _ _, trivial⟩) (fun e => absurd e (by decide)) (fun e => absurd e (by decide)) rfl
              case s2 =>
                clear hd he hS1 hS2
                simp only [Act.put, List.setIfInBounds_toArray, List.set_cons_succ, List.set_cons_zero] at hK
                refine (if_pos (by rfl)).mpr ?_
                go_simp
                exact hK.out _ _ (fun _ _ => ⟨Below.refl _ _, trivial⟩) (fun e => absurd e (by decide)) (fun e => absurd e (by decide)) rfl
              case s3 =>
                have hx2 : xv 2 = Value.pointer (some ⟨w.heap.size, 3, none⟩) := hd 2 (by kernel_rfl)
                have hSW := hS1 (.inl (by kernel_rfl))
                clear hd he hS1 hS2
                simp only [Act.put, List.setIfInBounds_toArray, List.set_cons_succ, List.set_cons_zero] at hK
                rw [hx2] at hK ⊢
                refine (if_pos (by rfl)).mpr ?_
                obtain ⟨hq0, hq1, hq2, hq3⟩ := (HM5.out.later hSW).b2.cells
                go_simp
                exact hK.out _ _ (fun _ _ => ⟨Below.refl _ _, trivial⟩) (fun e => absurd e (by decide)) (fun e => absurd e (by decide)) rfl
              case s4 =>
                clear hd he hS1 hS2
                simp only [Act.put, List.setIfInBounds_toArray, List.set_cons_succ, List.set_cons_zero] at hK
                refine (if_pos (by rfl)).mpr ?_
                go_simp
                exact hK.out _ _ (fun _ _ => ⟨Below.refl _ _, trivial⟩) (fun e => absurd e (by decide)) (fun e => absurd e (by decide)) rfl
              case s5 =>
                have hx3 : xv 3 = Value.slice (some ⟨b0, off0, none⟩) n C := hd 3 (by kernel_rfl)
                have hx4 : xv 4 = Value.int .i64 (j : Int) := hd 4 (by kernel_rfl)
                clear hd he hS1 hS2
                simp only [Act.put, List.setIfInBounds_toArray, List.set_cons_succ, List.set_cons_zero] at hK
                rw [hx3] at hK ⊢
                rw [hx4] at hK ⊢
                refine (if_pos (by rfl)).mpr ?_
                go_simp
                exact hK.out _ _ (fun _ _ => ⟨Below.refl _ _, trivial⟩) (fun e => absurd e (by decide)) (fun e => absurd e (by decide)) rfl
              case s6 =>
                have hx5 : xv 5 = Value.pointer (some ⟨b0, off0 + j * 4, none⟩) := hd 5 (by kernel_rfl)
                have hSW := hS1 (.inl (by kernel_rfl))
                clear hd he hS1 hS2
                simp only [Act.put, List.setIfInBounds_toArray, List.set_cons_succ, List.set_cons_zero] at hK
                rw [hx5] at hK ⊢
                refine (if_pos (by rfl)).mpr ?_
                obtain ⟨hq0, hq1, hq2, hq3⟩ := HND.out W (HBW.out.trans (hSW.mono HBW.out.size))
                go_simp
                exact hK.out _ _ (fun _ _ => ⟨Below.refl _ _, trivial⟩) (fun e => absurd e (by decide)) (fun e => absurd e (by decide)) rfl
              case s7 =>
                have hx6 : xv 6 = Value.agg #[.int .i64 kk, .string kx, .string ky, .slice Ak kn Ck] := hd 6 (by kernel_rfl)
                clear hd he hS1 hS2
                simp only [Act.put, List.setIfInBounds_toArray, List.set_cons_succ, List.set_cons_zero] at hK
                rw [hx6] at hK ⊢
                refine (if_pos (by rfl)).mpr ?_
                go_simp
                have hb := below1 W (.cells #[.int .i64 kk, .string kx, .string ky, .slice Ak kn Ck] 24)
                obtain ⟨z0, z1, z2, z3⟩ := (boxed_new W kk kx ky (.slice Ak kn Ck)).cells
                exact hK.out _ _ (fun _ _ => ⟨hb, W.heap.size, rfl, by simp, z0, z1, z2, z3⟩) (fun e => absurd e (by decide)) (fun e => absurd e (by decide)) trivial
              case s8 =>
                have hx1 : xv 1 = Value.slice A5 l5 C5 := hd 1 (by kernel_rfl)
                have he7 : ∃ (b : Nat), xv 7 = .slice (some ⟨b, 0, none⟩) 1 1 ∧ b < W.heap.size ∧ W.cell? ⟨b, 0, none⟩ = some (.int .i64 kk) ∧ W.cell? ⟨b, 1, none⟩ = some (.string kx) ∧ W.cell? ⟨b, 2, none⟩ = some (.string ky) ∧ W.cell? ⟨b, 3, none⟩ = some (.slice Ak kn Ck) := he (.inr rfl) 7 (by kernel_rfl)
                have hSW := hS1 (.inr rfl)
                clear hd he hS1 hS2
                simp only [Act.put, List.setIfInBounds_toArray, List.set_cons_succ, List.set_cons_zero] at hK
                rw [hx1] at hK ⊢
                refine (if_pos (by rfl)).mpr ?_
                obtain ⟨b, e7, h2, c0, c1, c2, c3⟩ := he7
                have HMW := HM5.out.later hSW
                rw [e7] at hK ⊢
                refine wp_app_own _ _ rfl (Lo w.heap.size) (Value.slice A5 l5 C5) L5 b 1 (⟨kk, kx, ky, kc⟩ : Nd) (.slice Ak kn Ck) rfl rfl ⟨c0, c1, c2, c3⟩ HMW.o6 (HKF.out W (HBW.out.trans (hSW.mono HBW.out.size))) HMW.s6 HLL.out.1 ?_
                intro v' w' r1 r2 r3
                exact hK.out _ _ (fun e => absurd rfl e) (fun _ => HMW.app6 r1 r2 r3) (fun e => absurd e (by decide)) trivial
              case s9 =>
                clear hd he hS1 hS2
                simp only [Act.put, List.setIfInBounds_toArray, List.set_cons_succ, List.set_cons_zero] at hK
                refine (if_pos (by rfl)).mpr ?_
                go_simp
                exact hK.out _ _ (fun _ _ => ⟨Below.refl _ _, trivial⟩) (fun e => absurd e (by decide)) (fun e => absurd e (by decide)) rfl
              case s10 =>
                have hx9 : xv 9 = Value.pointer (some ⟨w2.heap.size, 3, none⟩) := hd 9 (by kernel_rfl)
                have hS2W := hS2 rfl
                clear hd he hS1 hS2
                simp only [Act.put] at hK
                rw [hx9] at hK ⊢
                refine (if_pos (by rfl)).mpr ?_
                obtain ⟨a9, c9, e9, _, _⟩ := hS2W.o6.slice
                obtain ⟨m9, hm9⟩ : ∃ m, (L5 ++ [(⟨kk, kx, ky, kc⟩ : Nd)]).length = m := ⟨_, rfl⟩
                rw [hm9] at e9
                clear hm9
                obtain ⟨y0, y1, y2, y3⟩ := frz hS2W.b6
                obtain ⟨x0, x1, x2, x3⟩ := hS2W.b6.cells
                have hset := hS2W.set6
                rw [e9] at hK hset ⊢
                go_simp
                exact hK.out undef _ (fun _ e => absurd rfl e) (fun e => absurd e (by decide)) (fun _ => hset) trivial
            case behind =>
              intro xv W hW hx a ha
              simp only [fillA] at ha
              simp only [List.setIfInBounds_toArray, List.set_cons_succ, List.set_cons_zero, Nat.zero_add, Nat.reduceAdd] at ha
              subst ha
              obtain ⟨a6, c6, e6, _, _⟩ := hW.o6.slice
              obtain ⟨m6, hm6⟩ : ∃ m, (L5 ++ [(⟨kk, kx, ky, kc⟩ : Nd)]).length = m := ⟨_, rfl⟩
              rw [hm6] at e6
              rw [e6] at hW
              obtain ⟨L6x, hL6⟩ : ∃ L, L5 ++ [(⟨kk, kx, ky, kc⟩ : Nd)] = L := ⟨_, rfl⟩
              rw [hL6] at hW
              rename World => W6
              have HM6 := Lib.hid hW
              obtain ⟨r0, r1, r2, r3⟩ := HM6.out.b2.cells
              obtain ⟨d0, _, _, _⟩ := HND.out W6 HM6.out.bel
              have HE6 : Hid (L6x = moreL nt (toL c) kz (j + 1)) := by show _ = _; rw [← hL6]; exact HE5.out
              clear hx hm6 e6 hW hL6 HM5
              by_cases he8 : kk = 8
              · have HL7 : Hid (lessL (toL c) (j + 1) = L7) := HL7S.out he8
                clear HND HKF HL7S HL7T HE5 HLL
                have he8' : (kk == 8) = true := by simp [he8]
                go_wp2
                go_roundw
                case rel => exact ⟨j + 1, m6, c6, l7, C7, a6, A7, by omega, by go_num, by rw [← HE6.out, HL7.out]; exact HM6.out⟩
                case measure => simp [intOf]; omega
              · have he8' : (kk == 8) = false := by simp [he8]
                have HBW : Hid (Below w.heap.size w W6) := HM6.out.bel
                have HL7 : Hid (lessL (toL c) (j + 1) = L7 ++ [(⟨kk, kx, ky, kc⟩ : Nd)]) := HL7T.out he8
                clear HE5
                go_wp2
                have t8 : (kk != 8) = true := by simp [he8]
                rw [t8]
                clear he8' he8 t8
                refine region_rel3 [0, 1, 2, 3, 4, 5, 6, 7, 8] 8 10 (fun W W' => Below W.heap.size W W') (fun W => Below W6.heap.size W6 W) (fun v' W => NSt w W w.heap.size w2.heap.size (w2.heap.size + 1) 1 ⟨#[]⟩ ⟨#[]⟩ (.slice (some ⟨b0, off0, none⟩) n C) (.slice a6 m6 c6) (Value.slice A7 l7 C7) (.slice a6 m6 c6) v' L6x (L7 ++ [(⟨kk, kx, ky, kc⟩ : Nd)])) (fun v' W => NSt w W w.heap.size w2.heap.size (w2.heap.size + 1) 1 ⟨#[]⟩ ⟨#[]⟩ (.slice (some ⟨b0, off0, none⟩) n C) (.slice a6 m6 c6) v' (.slice a6 m6 c6) v' L6x (L7 ++ [(⟨kk, kx, ky, kc⟩ : Nd)])) [Cd.any, Cd.any, Cd.any, Cd.any, Cd.any, Cd.any, Cd.any, ⟨fun v W => ∃ (b : Nat), v = .slice (some ⟨b, 0, none⟩) 1 1 ∧ b < W.heap.size ∧ W.cell? ⟨b, 0, none⟩ = some (.int .i64 kk) ∧ W.cell? ⟨b, 1, none⟩ = some (.string kx) ∧ W.cell? ⟨b, 2, none⟩ = some (.string ky) ∧ W.cell? ⟨b, 3, none⟩ = some (.slice Ak kn Ck), fun v W W' hU h => by obtain ⟨b, e, h2, c0, c1, c2, c3⟩ := h; exact ⟨b, e, Nat.lt_of_lt_of_le h2 hU.size, (hU.cell (p := ⟨b, 0, none⟩) h2).trans c0, (hU.cell (p := ⟨b, 1, none⟩) h2).trans c1, (hU.cell (p := ⟨b, 2, none⟩) h2).trans c2, (hU.cell (p := ⟨b, 3, none⟩) h2).trans c3⟩⟩, Cd.any, Cd.any, Cd.any] [(fun v => v = Value.pointer (some ⟨w2.heap.size + 1, 3, none⟩)), (fun v => v = Value.slice A7 l7 C7), (fun v => v = Value.pointer (some ⟨w.heap.size, 3, none⟩)), (fun v => v = Value.slice (some ⟨b0, off0, none⟩) n C), (fun v => v = Value.int .i64 (j : Int)), (fun v => v = Value.pointer (some ⟨b0, off0 + j * 4, none⟩)), (fun v => v = Value.agg #[.int .i64 kk, .string kx, .string ky, .slice Ak kn Ck]), (fun _ => True), (fun _ => True), (fun v => v = Value.pointer (some ⟨w2.heap.size + 1, 3, none⟩)), (fun _ => True)] (by kernel_rfl) (by decide) (by kernel_rfl) (by kernel_rfl) (by kernel_rfl) (by decide) (by decide) (by decide) ((Below.refl _ _).drew) (fun _ _ hU hS => hS.trans (hU.mono hS.size)) (fun _ _ _ hU hS => hS.later hU) (fun _ _ _ hU hS => hS.later hU) ?steps ?behind
                case steps =>
                  intro xv W a ha
                  simp only [fillA] at ha
                  simp only [List.setIfInBounds_toArray, List.set_cons_succ, List.set_cons_zero, Nat.zero_add, Nat.reduceAdd] at ha
                  subst ha
                  refine ⟨fun hI hS1 hS2 hd he K hK => ?s0, fun hI hS1 hS2 hd he K hK => ?s1, fun hI hS1 hS2 hd he K hK => ?s2, fun hI hS1 hS2 hd he K hK => ?s3, fun hI hS1 hS2 hd he K hK => ?s4, fun hI hS1 hS2 hd he K hK => ?s5, fun hI hS1 hS2 hd he K hK => ?s6, fun hI hS1 hS2 hd he K hK => ?s7, fun hI hS1 hS2 hd he K hK => ?s8, fun hI hS1 hS2 hd he K hK => ?s9, fun hI hS1 hS2 hd he K hK => ?s10, trivial⟩
                  case s0 =>
                    clear hd he hS1 hS2
                    simp only [Act.put, List.setIfInBounds_toArray, List.set_cons_succ, List.set_cons_zero] at hK
                    refine (if_pos (by rfl)).mpr ?_
                    go_simp
                    exact hK.out _ _ (fun _ _ => ⟨Below.refl _ _, trivial⟩) (fun e => absurd e (by decide)) (fun e => absurd e (by decide)) rfl
                  case s1 =>
                    have hx0 : xv 0 = Value.pointer (some ⟨w2.heap.size + 1, 3, none⟩) := hd 0 (by kernel_rfl)
                    have hSW := hS1 (.inl (by kernel_rfl))
                    clear hd he hS1 hS2
                    simp only [Act.put, List.setIfInBounds_toArray, List.set_cons_succ, List.set_cons_zero] at hK
                    rw [hx0] at hK ⊢
                    refine (if_pos (by rfl)).mpr ?_
                    obtain ⟨hq0, hq1, hq2, hq3⟩ := (HM6.out.later hSW).b7.cells
                    go_simp
                    exact hK.out _ _ (fun _ _ => ⟨Below.refl _ _, trivial⟩) (fun e => absurd e (by decide)) (fun e => absurd e (by decide)) rfl
                  case s2 =>
                    clear hd he hS1 hS2
                    simp only [Act.put, List.setIfInBounds_toArray, List.set_cons_succ, List.set_cons_zero] at hK
                    refine (if_pos (by rfl)).mpr ?_
                    go_simp
                    exact hK.out _ _ (fun _ _ => ⟨Below.refl _ _, trivial⟩) (fun e => absurd e (by decide)) (fun e => absurd e (by decide)) rfl
                  case s3 =>
                    have hx2 : xv 2 = Value.pointer (some ⟨w.heap.size, 3, none⟩) := hd 2 (by kernel_rfl)
                    have hSW := hS1 (.inl (by kernel_rfl))
                    clear hd he hS1 hS2
                    simp only [Act.put, List.setIfInBounds_toArray, List.set_cons_succ, List.set_cons_zero] at hK
                    rw [hx2] at hK ⊢
                    refine (if_pos (by rfl)).mpr ?_
                    obtain ⟨hq0, hq1, hq2, hq3⟩ := (HM6.out.later hSW).b2.cells
                    go_simp
                    exact hK.out _ _ (fun _ _ => ⟨Below.refl _ _, trivial⟩) (fun e => absurd e (by decide)) (fun e => absurd e (by decide)) rfl
                  case s4 =>
                    clear hd he hS1 hS2
                    simp only [Act.put, List.setIfInBounds_toArray, List.set_cons_succ, List.set_cons_zero] at hK
                    refine (if_pos (by rfl)).mpr ?_
                    go_simp
                    exact hK.out _ _ (fun _ _ => ⟨Below.refl _ _, trivial⟩) (fun e => absurd e (by decide)) (fun e => absurd e (by decide)) rfl
                  case s5 =>
                    have hx3 : xv 3 = Value.slice (some ⟨b0, off0, none⟩) n C := hd 3 (by kernel_rfl)
                    have hx4 : xv 4 = Value.int .i64 (j : Int) := hd 4 (by kernel_rfl)
                    clear hd he hS1 hS2
                    simp only [Act.put, List.setIfInBounds_toArray, List.set_cons_succ, List.set_cons_zero] at hK
                    rw [hx3] at hK ⊢
                    rw [hx4] at hK ⊢
                    refine (if_pos (by rfl)).mpr ?_
                    go_simp
                    exact hK.out _ _ (fun _ _ => ⟨Below.refl _ _, trivial⟩) (fun e => absurd e (by decide)) (fun e => absurd e (by decide)) rfl
                  case s6 =>
                    have hx5 : xv 5 = Value.pointer (some ⟨b0, off0 + j * 4, none⟩) := hd 5 (by kernel_rfl)
                    have hSW := hS1 (.inl (by kernel_rfl))
                    clear hd he hS1 hS2
                    simp only [Act.put, List.setIfInBounds_toArray, List.set_cons_succ, List.set_cons_zero] at hK
                    rw [hx5] at hK ⊢
                    refine (if_pos (by rfl)).mpr ?_
                    obtain ⟨hq0, hq1, hq2, hq3⟩ := HND.out W (HBW.out.trans (hSW.mono HBW.out.size))
                    go_simp
                    exact hK.out _ _ (fun _ _ => ⟨Below.refl _ _, trivial⟩) (fun e => absurd e (by decide)) (fun e => absurd e (by decide)) rfl
                  case s7 =>
                    have hx6 : xv 6 = Value.agg #[.int .i64 kk, .string kx, .string ky, .slice Ak kn Ck] := hd 6 (by kernel_rfl)
                    clear hd he hS1 hS2
                    simp only [Act.put, List.setIfInBounds_toArray, List.set_cons_succ, List.set_cons_zero] at hK
                    rw [hx6] at hK ⊢
                    refine (if_pos (by rfl)).mpr ?_
                    go_simp
                    have hb := below1 W (.cells #[.int .i64 kk, .string kx, .string ky, .slice Ak kn Ck] 24)
                    obtain ⟨z0, z1, z2, z3⟩ := (boxed_new W kk kx ky (.slice Ak kn Ck)).cells
                    exact hK.out _ _ (fun _ _ => ⟨hb, W.heap.size, rfl, by simp, z0, z1, z2, z3⟩) (fun e => absurd e (by decide)) (fun e => absurd e (by decide)) trivial
                  case s8 =>
                    have hx1 : xv 1 = Value.slice A7 l7 C7 := hd 1 (by kernel_rfl)
                    have he7 : ∃ (b : Nat), xv 7 = .slice (some ⟨b, 0, none⟩) 1 1 ∧ b < W.heap.size ∧ W.cell? ⟨b, 0, none⟩ = some (.int .i64 kk) ∧ W.cell? ⟨b, 1, none⟩ = some (.string kx) ∧ W.cell? ⟨b, 2, none⟩ = some (.string ky) ∧ W.cell? ⟨b, 3, none⟩ = some (.slice Ak kn Ck) := he (.inr rfl) 7 (by kernel_rfl)
                    have hSW := hS1 (.inr rfl)
                    clear hd he hS1 hS2
                    simp only [Act.put, List.setIfInBounds_toArray, List.set_cons_succ, List.set_cons_zero] at hK
                    rw [hx1] at hK ⊢
                    refine (if_pos (by rfl)).mpr ?_
                    obtain ⟨b, e7, h2, c0, c1, c2, c3⟩ := he7
                    have HMW := HM6.out.later hSW
                    rw [e7] at hK ⊢
                    refine wp_app_own _ _ rfl (Lo w.heap.size) (Value.slice A7 l7 C7) L7 b 1 (⟨kk, kx, ky, kc⟩ : Nd) (.slice Ak kn Ck) rfl rfl ⟨c0, c1, c2, c3⟩ HMW.o7 (HKF.out W (HBW.out.trans (hSW.mono HBW.out.size))) HMW.s7 HLL.out.2 ?_
                    intro v' w' r1 r2 r3
                    exact hK.out _ _ (fun e => absurd rfl e) (fun _ => HMW.app7 r1 r2 r3) (fun e => absurd e (by decide)) trivial
                  case s9 =>
                    clear hd he hS1 hS2
                    simp only [Act.put, List.setIfInBounds_toArray, List.set_cons_succ, List.set_cons_zero] at hK
                    refine (if_pos (by rfl)).mpr ?_
                    go_simp
                    exact hK.out _ _ (fun _ _ => ⟨Below.refl _ _, trivial⟩) (fun e => absurd e (by decide)) (fun e => absurd e (by decide)) rfl
                  case s10 =>
                    have hx9 : xv 9 = Value.pointer (some ⟨w2.heap.size + 1, 3, none⟩) := hd 9 (by kernel_rfl)
                    have hS2W := hS2 rfl
                    clear hd he hS1 hS2
                    simp only [Act.put] at hK
                    rw [hx9] at hK ⊢
                    refine (if_pos (by rfl)).mpr ?_
                    obtain ⟨a9, c9, e9, _, _⟩ := hS2W.o7.slice
                    obtain ⟨m9, hm9⟩ : ∃ m, (L7 ++ [(⟨kk, kx, ky, kc⟩ : Nd)]).length = m := ⟨_, rfl⟩
                    rw [hm9] at e9
                    clear hm9
                    obtain ⟨y0, y1, y2, y3⟩ := frz hS2W.b7
                    obtain ⟨x0, x1, x2, x3⟩ := hS2W.b7.cells
                    have hset := hS2W.set7
                    rw [e9] at hK hset ⊢
                    go_simp
                    exact hK.out undef _ (fun _ e => absurd rfl e) (fun e => absurd e (by decide)) (fun _ => hset) trivial
                case behind =>
                  intro xv W hW hx a ha
                  simp only [fillA] at ha
                  simp only [List.setIfInBounds_toArray, List.set_cons_succ, List.set_cons_zero, Nat.zero_add, Nat.reduceAdd] at ha
                  subst ha
                  obtain ⟨a9, c9, e9, _, _⟩ := hW.o7.slice
                  obtain ⟨m9, hm9⟩ : ∃ m, (L7 ++ [(⟨kk, kx, ky, kc⟩ : Nd)]).length = m := ⟨_, rfl⟩
                  rw [hm9] at e9
                  rw [e9] at hW
                  have HM7 := Lib.hid hW
                  clear hx hm9 e9 hW
                  go_wp2
                  go_roundw
                  case rel => exact ⟨j + 1, m6, c6, m9, c9, a6, a9, by omega, by go_num, by rw [← HE6.out, HL7.out]; exact HM7.out⟩
                  case measure => simp [intOf]; omega
        · obtain rfl : j = n := by omega
          have hlt' : ¬ (j : Int) < (j : Int) := by omega
          clear hlt hj
          go_wp2
          go_loopw [9] (fun s9 wr => ∃ (i : Nat), i ≤ j ∧ s9 = .int .i64 (i : Int) ∧ Hid (NSt w wr w.heap.size w2.heap.size (w2.heap.size + 1) 1 ⟨#[]⟩ ⟨#[]⟩ (.slice A j C) (.slice A6 l6 C6) (.slice A7 l7 C7) (.slice A6 l6 C6) (.slice A7 l7 C7) (moreL nt (toL c) kz j) (lessL (toL c) j))) (fun s9 _ => j - (intOf s9).toNat)
          case atStart => exact ⟨0, Nat.zero_le _, rfl, HM.out⟩
          case round =>
            clear HM p0 p1 p2 p3
            obtain ⟨i, hi, rfl, HM⟩ := hrel
            rename World => wr
            obtain ⟨p0, p1, p2, p3⟩ := HM.out.b2.cells
            by_cases hlt : i < j
            · have hlt' : (i : Int) < (j : Int) := by omega
              have hj0 : (0 : Int) ≤ (i : Int) := by omega
              obtain ⟨kk, kx, ky, kc, kr, hdr, _⟩ := F.drop_cons (n := i) (f := c) (by rw [← toL_len, HN.out]; exact hlt)
              have hnd := toL_drop_take hdr
              obtain ⟨b0, off0, s0, rfl, hb0, _, hat⟩ := HFB.out.at_ hdr
              obtain ⟨Ak, Ck, rfl, _, _⟩ := hat.kids.slice
              generalize kc.len = kn at *
              have HND : Hid (∀ W, Below w.heap.size w W → W.cell? ⟨b0, off0 + i * 4, none⟩ = some (.int .i64 kk) ∧ W.cell? ⟨b0, off0 + i * 4 + 1, none⟩ = some (.string kx) ∧ W.cell? ⟨b0, off0 + i * 4 + 2, none⟩ = some (.string ky) ∧ W.cell? ⟨b0, off0 + i * 4 + 3, none⟩ = some (.slice Ak kn Ck)) := fun W hW =>
                ⟨(hW.cell (p := ⟨b0, off0 + i * 4, none⟩) hb0).trans hat.c0, (hW.cell (p := ⟨b0, off0 + i * 4 + 1, none⟩) hb0).trans hat.c1, (hW.cell (p := ⟨b0, off0 + i * 4 + 2, none⟩) hb0).trans hat.c2, (hW.cell (p := ⟨b0, off0 + i * 4 + 3, none⟩) hb0).trans hat.c3⟩
              have HKF : Hid (∀ W, Below w.heap.size w W → Fs W (Lo w.heap.size) (.slice Ak kn Ck) kc) := fun W hW => hat.kids.below hW (Nat.le_refl _)
              have hmem := List.mem_of_getElem? hnd
              obtain ⟨s1, s2, s3⟩ := HSL.out _ hmem
              have HC := Lib.hid (right_any kk kx ky Ak kn Ck kc wr ((HKF.out wr HM.out.bel).up HM.out.bel.size) (Nat.le_trans s1 (by omega)) (Nat.le_trans s2 (by omega)) (smallT_small s3) (HT0.out wr HM.out.bel))
              rw [HKN.out _ hmem] at HC
              obtain ⟨d0, d1, d2, d3⟩ := HND.out wr HM.out.bel
              clear hnd hmem s1 s2 s3 hdr hat hb0 HKF HND
              go_wp2_with fail
              refine HC.out.mono ?_
              rintro e wk ⟨rfl, hb⟩
              have HMk := Lib.hid (HM.out.later hb)
              clear hb HM HC d0 d1 d2 d3 p0 p1 p2 p3
              go_wp2
              go_roundw
              case rel => exact ⟨i + 1, by omega, by go_num, HMk.out⟩
              case measure => simp [intOf]; omega
            · have hlt' : ¬ (i : Int) < (j : Int) := by omega
              clear hlt
              have HK := Lib.hid (known_any wr (HT0.out wr HM.out.bel))
              go_wp2_with fail
              refine HK.out.mono ?_
              rintro e wk ⟨rfl, hb⟩
              have HM1 := Lib.hid (HM.out.later hb)
              obtain ⟨x0, x1, x2, x3⟩ := HM1.out.b6.cells
              have HSM : Hid (SmallT (ofL (moreL nt (toL c) kz j))) := smallT_ofL fun nd hnd => moreL_mem hnd (by exact ⟨by decide, by decide, trivial⟩) HSL.out
              have HSS : Hid (SmallT (ofL (lessL (toL c) j))) := smallT_ofL fun nd hnd => HSL.out nd (List.mem_of_mem_take (List.mem_filter.1 hnd).1)
              have HV1 : Hid (rightT nmB tkB 1 ⟨#[]⟩ ⟨#[]⟩ (ofL (moreL nt (toL c) kz j)) = true) := by have := HMR.out kz; rwa [HN.out] at this
              have HV2 : Hid (rightT nmB tkB 1 ⟨#[]⟩ ⟨#[]⟩ (ofL (lessL (toL c) j)) = true) := by have := HLR.out; rwa [HN.out] at this
              generalize moreL nt (toL c) kz j = LM at *
              generalize lessL (toL c) j = LS at *
              have HC := Lib.hid (right_any 1 ⟨#[]⟩ ⟨#[]⟩ A6 l6 C6 _ wk HM1.out.fs6 (by decide) (by decide) (smallT_small HSM.out) (HT0.out wk HM1.out.bel))
              rw [HV1.out] at HC
              clear hb HM HK p0 p1 p2 p3
              go_wp2_with fail
              refine HC.out.mono ?_
              rintro e wk2 ⟨rfl, hb⟩
              have HM2 := Lib.hid (HM1.out.later hb)
              obtain ⟨x0', x1', x2', x3'⟩ := HM2.out.b7.cells
              have HC2 := Lib.hid (right_any 1 ⟨#[]⟩ ⟨#[]⟩ A7 l7 C7 _ wk2 HM2.out.fs7 (by decide) (by decide) (smallT_small HSS.out) (HT0.out wk2 HM2.out.bel))
              rw [HV2.out] at HC2
              clear hb HM1 HC x0 x1 x2 x3
              go_wp2_with fail
              refine HC2.out.mono ?_
              rintro e wk3 ⟨rfl, hb⟩
              have HM3 := Lib.hid (HM2.out.later hb)
              obtain ⟨x0, x1, x2, x3⟩ := HM3.out.b6.cells
              have HC3 := Lib.hid (refRight_any 1 ⟨#[]⟩ ⟨#[]⟩ A6 l6 C6 _ wk3 HM3.out.fs6 (by decide) (by decide) HSM.out)
              rw [HV1.out] at HC3
              clear hb HM2 HC2 x0' x1' x2' x3'
              go_wp2_with fail
              refine HC3.out.mono ?_
              rintro e wk4 ⟨rfl, hb⟩
              have HF := Lib.hid (HM3.out.bel.trans (hb.mono HM3.out.bel.size))
              clear hb
              go_wp2
              go_ret
              exact ⟨rfl, HF.out⟩
end Go.Proofs.YtoecimgmghlfpaaGreatDoor.Tree
