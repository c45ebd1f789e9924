/-
  Layer 5 (tree): the walk of TreeSpoils: a tree with one node changed. Written by gen_treespoilslaw.py.
-/
import Derived.Test.YtoecimgmghlfpaaGreatDoorJoinSpoil
import Derived.Test.YtoecimgmghlfpaaGreatDoorJoinCopy
import Derived.Test.YtoecimgmghlfpaaGreatDoorTreeRightLaw
namespace Go.Proofs.YtoecimgmghlfpaaGreatDoor.Tree
open Go.ChangeShapes Go.WideShapes Go.ChangeAt Go.RowKit Mem
set_option linter.unusedVariables false

/-- What is known of the spoilt tree (p) and of the new variable (q), each as soon as it is there. -/
def SpX (B : Nat) : Option Value → Option Value → World → Prop
  | none, none, _ => True
  | some v, none, W => ∃ (k' : Int) (x' y' : ByteArray) (A' : Option Addr) (n' C' : Nat) (c' : F), v = .agg #[.int .i64 k', .string x', .string y', .slice A' n' C'] ∧ Fs W (Rng B W) (.slice A' n' C') c'
  | none, some u, W => ∃ g : Nat, u = .pointer (some ⟨g, 0, none⟩) ∧ B ≤ g ∧ Boxed W g 0 ⟨#[]⟩ ⟨#[]⟩ (.slice none 0 0)
  | some v, some u, W => ∃ (g : Nat) (k' : Int) (x' y' : ByteArray) (A' : Option Addr) (n' C' : Nat) (c' : F), u = .pointer (some ⟨g, 0, none⟩) ∧ v = .agg #[.int .i64 k', .string x', .string y', .slice A' n' C'] ∧ B ≤ g ∧ Boxed W g 0 ⟨#[]⟩ ⟨#[]⟩ (.slice none 0 0) ∧ Fs W (fun b => B ≤ b ∧ b < W.heap.size ∧ b ≠ g) (.slice A' n' C') c'
theorem SpX_mono {B : Nat} {W W' : World} (hb : Below W.heap.size W W') : ∀ {p q : Option Value}, SpX B p q W → SpX B p q W'
  | none, none, _ => trivial
  | some v, none, ⟨k', x', y', A', n', C', c', e, hf⟩ => ⟨k', x', y', A', n', C', c', e, rng_later hf hb⟩
  | none, some u, ⟨g, e, hg, hbx⟩ => ⟨g, e, hg, hbx.below hb hbx.lt⟩
  | some v, some u, ⟨g, k', x', y', A', n', C', c', e1, e2, hg, hbx, hf⟩ => ⟨g, k', x', y', A', n', C', c', e1, e2, hg, hbx.below hb hbx.lt, (hf.keep fun b hb' => hb.block b hb'.2.1).more fun b hb' => ⟨hb'.1, Nat.lt_of_lt_of_le hb'.2.1 hb.size, hb'.2.2⟩⟩
theorem SpX_call {B : Nat} {W W' : World} {k' : Int} {x' y' : ByteArray} {A' : Option Addr} {n' C' : Nat} {c' : F} : ∀ {q : Option Value}, SpX B none q W → B ≤ W.heap.size → Below W.heap.size W W' → Fs W' (Rng W.heap.size W') (.slice A' n' C') c' → SpX B (some (.agg #[.int .i64 k', .string x', .string y', .slice A' n' C'])) q W'
  | none, _, hB, hb, hf => ⟨k', x', y', A', n', C', c', rfl, hf.more fun b hb' => ⟨Nat.le_trans hB hb'.1, hb'.2⟩⟩
  | some u, ⟨g, e, hg, hbx⟩, hB, hb, hf => ⟨g, k', x', y', A', n', C', c', e, rfl, hg, hbx.below hb hbx.lt, hf.more fun b hb' => ⟨Nat.le_trans hB hb'.1, hb'.2, fun e => by have := hbx.lt; have := hb'.1; omega⟩⟩
theorem SpX_alloc {B : Nat} {W : World} : ∀ {p : Option Value}, SpX B p none W → B ≤ W.heap.size → SpX B p (some (.pointer (some ⟨W.heap.size, 0, none⟩))) (W.alloc (.cells #[.int .i64 0, .string ⟨#[]⟩, .string ⟨#[]⟩, .slice none 0 0] 24))
  | none, _, hB => ⟨W.heap.size, rfl, hB, boxed_new _ _ _ _ _⟩
  | some v, ⟨k', x', y', A', n', C', c', e, hf⟩, hB => ⟨W.heap.size, k', x', y', A', n', C', c', rfl, e, hB, boxed_new _ _ _ _ _, by
      have hb := below1 W (.cells #[.int .i64 0, .string ⟨#[]⟩, .string ⟨#[]⟩, .slice none 0 0] 24)
      exact (hf.keep fun b hb' => hb.block b hb'.2).more fun b hb' => ⟨hb'.1, Nat.lt_of_lt_of_le hb'.2 hb.size, by have := hb'.2; omega⟩⟩
theorem SpX_fin {w W : World} {B g : Nat} {k : Int} {x y : ByteArray} {A' : Option Addr} {n' C' : Nat} {c' : F} (hb : Below w.heap.size w W) (hg : w.heap.size ≤ g) (hbx : Boxed W g 0 ⟨#[]⟩ ⟨#[]⟩ (.slice none 0 0)) (hf : Fs W (fun b => B ≤ b ∧ b < W.heap.size ∧ b ≠ g) (.slice A' n' C') c') :
    Below w.heap.size w ((((W.setCell ⟨g, 0, none⟩ (.int .i64 k)).setCell ⟨g, 1, none⟩ (.string x)).setCell ⟨g, 2, none⟩ (.string y)).setCell ⟨g, 3, none⟩ (.slice A' n' C')) ∧ Boxed ((((W.setCell ⟨g, 0, none⟩ (.int .i64 k)).setCell ⟨g, 1, none⟩ (.string x)).setCell ⟨g, 2, none⟩ (.string y)).setCell ⟨g, 3, none⟩ (.slice A' n' C')) g k x y (.slice A' n' C') ∧
      Fs ((((W.setCell ⟨g, 0, none⟩ (.int .i64 k)).setCell ⟨g, 1, none⟩ (.string x)).setCell ⟨g, 2, none⟩ (.string y)).setCell ⟨g, 3, none⟩ (.slice A' n' C')) (Lo ((((W.setCell ⟨g, 0, none⟩ (.int .i64 k)).setCell ⟨g, 1, none⟩ (.string x)).setCell ⟨g, 2, none⟩ (.string y)).setCell ⟨g, 3, none⟩ (.slice A' n' C')).heap.size) (.slice A' n' C') c' := by
  have hbb := box_below W g (.int .i64 k) (.string x) (.string y) (.slice A' n' C')
  exact ⟨hb.trans (hbb.mono hg), box_new hbx, (hf.keep fun b hb => set4_other _ _ _ _ _ _ _ hb.2.2).more fun b hb => Nat.lt_of_lt_of_le hb.2.1 hbb.size⟩

set_option maxRecDepth 100000 in
set_option maxHeartbeats 16000000 in
theorem treeSpoils_walk (k : Int) (x y : ByteArray) (A : Option Addr) (n C : Nat) (c : F) (at0 kind : Int) (text trail : ByteArray) (how : Int) (w : World) (hf : Fs w (Lo w.heap.size) (.slice A n C) c) (hT : Lex.Tab w) :
    Calls Tryz.prog 4 #[.agg #[.int .i64 k, .string x, .string y, .slice A n C], .int .i64 at0, .int .i64 kind, .string text, .string trail, .int .i64 how] w fun e w' => e = .returned (.bool true) ∧ Below w.heap.size w w' := by
  have b1 := below1 w (.cells #[.int .i64 k, .string x, .string y, .slice A n C] 24)
  have HFW := Lib.hid (few_any k x y A n C c (w.alloc (.cells #[.int .i64 k, .string x, .string y, .slice A n C] 24)) (hf.later b1))
  have HT0 : Hid (∀ W, Below w.heap.size w W → Lex.Tab W) := fun W hW => hT.below hW hT.pos
  have HF0 : Hid (∀ W, Below w.heap.size w W → Fs W (Lo W.heap.size) (.slice A n C) c) := fun W hW => hf.later hW
  have HBX0 : Hid (∀ W, Below (w.alloc (.cells #[.int .i64 k, .string x, .string y, .slice A n C] 24)).heap.size (w.alloc (.cells #[.int .i64 k, .string x, .string y, .slice A n C] 24)) W → Boxed W w.heap.size k x y (.slice A n C)) := fun W hW => (boxed_new w k x y (.slice A n C)).below hW (by simp)
  have HB1 := Lib.hid b1
  clear hf hT b1
  cases hfb : fewB k x y c with
  | false =>
    rw [hfb] at HFW
    clear hfb
    go_enter Tryz.func4, Tryz.ntmps4
    go_wp2_with fail
    refine HFW.out.mono ?_
    rintro e w1 ⟨rfl, hb⟩
    have HB := Lib.hid (HB1.out.trans (hb.mono HB1.out.size))
    have HK := Lib.hid (known_any w1 (HT0.out w1 HB.out))
    clear hb
    go_wp2_with fail
    refine HK.out.mono ?_
    rintro e w9 ⟨rfl, hb⟩
    have HBE := Lib.hid (HB.out.trans (hb.mono HB.out.size))
    clear hb
    go_wp2
    go_ret
    exact ⟨rfl, HBE.out⟩
  | true =>
    rw [hfb] at HFW
    have HIS := Lib.hid (few_is hfb)
    clear hfb
    by_cases ht1 : 1000 < text.size
    · have ht1' : (1000 : Int) < (text.size : Int) := by omega
      clear ht1
      go_enter Tryz.func4, Tryz.ntmps4
      go_wp2_with fail
      refine HFW.out.mono ?_
      rintro e w1 ⟨rfl, hb⟩
      have HB := Lib.hid (HB1.out.trans (hb.mono HB1.out.size))
      have HK := Lib.hid (known_any w1 (HT0.out w1 HB.out))
      clear hb
      go_wp2_with fail
      refine HK.out.mono ?_
      rintro e w9 ⟨rfl, hb⟩
      have HBE := Lib.hid (HB.out.trans (hb.mono HB.out.size))
      clear hb
      go_wp2
      go_ret
      exact ⟨rfl, HBE.out⟩
    · have ht1' : ¬ (1000 : Int) < (text.size : Int) := by omega
      by_cases ht2 : 1000 < trail.size
      · have ht2' : (1000 : Int) < (trail.size : Int) := by omega
        clear ht1 ht2
        go_enter Tryz.func4, Tryz.ntmps4
        go_wp2_with fail
        refine HFW.out.mono ?_
        rintro e w1 ⟨rfl, hb⟩
        have HB := Lib.hid (HB1.out.trans (hb.mono HB1.out.size))
        have HK := Lib.hid (known_any w1 (HT0.out w1 HB.out))
        clear hb
        go_wp2_with fail
        refine HK.out.mono ?_
        rintro e w9 ⟨rfl, hb⟩
        have HBE := Lib.hid (HB.out.trans (hb.mono HB.out.size))
        clear hb
        go_wp2
        go_ret
        exact ⟨rfl, HBE.out⟩
      · have ht2' : ¬ (1000 : Int) < (trail.size : Int) := by omega
        clear ht1 ht2
        have hsz2 : c.size ≤ 100000 := by have := HIS.out.sz; omega
        go_enter Tryz.func4, Tryz.ntmps4
        go_wp2_with fail
        refine HFW.out.mono ?_
        rintro e w1 ⟨rfl, hb⟩
        have HB := Lib.hid (HB1.out.trans (hb.mono HB1.out.size))
        have HBXA := Lib.hid (HBX0.out w1 hb)
        obtain ⟨q0, q1, q2, q3⟩ := HBXA.out.cells
        have HSC := Lib.hid (refSize_any k x y A n C c 2001 w1 (HF0.out w1 HB.out) (by omega) (by omega))
        obtain ⟨sz, hsz⟩ : ∃ sz, min (c.size + 1) 2001 = sz := ⟨_, rfl⟩
        rw [hsz] at HSC
        have hs0 : (0 : Int) < (sz : Int) := by omega
        have hs1 : (sz : Int) ≤ 2001 := by omega
        have hw64 : IntKind.u64.wrap (sz : Int) = (sz : Int) := by rw [IntKind.wrap_u64]; omega
        have hne0 : ¬ sz = 0 := by omega
        clear hb hsz
        go_wp2_with fail
        refine HSC.out.mono ?_
        rintro e wr ⟨rfl, hb⟩
        have HBL := Lib.hid (HB.out.trans (hb.mono HB.out.size))
        have HBX : Hid (∀ W, Below wr.heap.size wr W → W.cell? ⟨w.heap.size, 0, none⟩ = some (.int .i64 k) ∧ W.cell? ⟨w.heap.size, 1, none⟩ = some (.string x) ∧ W.cell? ⟨w.heap.size, 2, none⟩ = some (.string y) ∧ W.cell? ⟨w.heap.size, 3, none⟩ = some (.slice A n C)) := fun W hW => ((HBXA.out.below hb HBXA.out.lt).below hW (HBXA.out.below hb HBXA.out.lt).lt).cells
        have HC : Hid (∀ W, Below wr.heap.size wr W → Calls Tryz.prog 12 #[.agg #[.int .i64 k, .string x, .string y, .slice A n C], .int .i64 (IntKind.i64.wrap ((IntKind.u64.wrap at0).tmod (sz : Int))), .int .i64 kind, .string text, .string trail, .int .i64 how] W fun e w' => SpoiltPost W w' e) := fun W hW =>
          spoilt_any c.size k x y A n C c (IntKind.i64.wrap ((IntKind.u64.wrap at0).tmod (sz : Int))) kind text trail how W (Nat.le_refl _) hsz2 (HF0.out W (HBL.out.trans (hW.mono HBL.out.size)))
        clear hb HSC HBXA q0 q1 q2 q3 ht1' ht2'
        go_wp2
        refine region_last 13 11 12 (SpX wr.heap.size) (fun x W' => ∃ (g : Nat) (k' : Int) (x' y' : ByteArray) (A' : Option Addr) (n' C' : Nat) (c' : F), x 12 = .pointer (some ⟨g, 0, none⟩) ∧ Below w.heap.size w W' ∧ Boxed W' g k' x' y' (.slice A' n' C') ∧ Fs W' (Lo W'.heap.size) (.slice A' n' C') c') (fun W W' => Below W.heap.size W W') [Cd.is (Value.agg #[.int .i64 k, .string x, .string y, .slice A n C]), Cd.is (Value.int .i64 at0), Cd.is (Value.int .u64 (IntKind.u64.wrap at0)), Cd.is (Value.int .i64 (sz : Int)), Cd.is (Value.int .u64 (sz : Int)), Cd.is (Value.int .u64 ((IntKind.u64.wrap at0).tmod (sz : Int))), Cd.is (Value.int .i64 (IntKind.i64.wrap ((IntKind.u64.wrap at0).tmod (sz : Int)))), Cd.is (Value.int .i64 kind), Cd.is (Value.string text), Cd.is (Value.string trail), Cd.is (Value.int .i64 how), Cd.any, Cd.any, Cd.any] (by kernel_rfl) (by decide) (by kernel_rfl) (by kernel_rfl) (by decide) (fun _ _ _ h => h) (fun _ _ _ _ hT hX => SpX_mono hT hX) (by decide) (by decide) (by decide) (by decide) (by decide) trivial (Below.refl _ _) (fun _ _ _ h k => h.trans (k.mono h.size)) ?steps ?behind
        case steps =>
          intro xv W hW a ha
          replace hW := undrew hW
          simp only [fillA] at ha
          simp only [List.setIfInBounds_toArray, List.set_cons_succ, List.set_cons_zero, Nat.zero_add, Nat.reduceAdd] at ha
          subst ha
          refine ⟨fun hI hd px qx hX hp hq hpq K hK => ?s0, fun hI hd px qx hX hp hq hpq K hK => ?s1, fun hI hd px qx hX hp hq hpq K hK => ?s2, fun hI hd px qx hX hp hq hpq K hK => ?s3, fun hI hd px qx hX hp hq hpq K hK => ?s4, fun hI hd px qx hX hp hq hpq K hK => ?s5, fun hI hd px qx hX hp hq hpq K hK => ?s6, fun hI hd px qx hX hp hq hpq K hK => ?s7, fun hI hd px qx hX hp hq hpq K hK => ?s8, fun hI hd px qx hX hp hq hpq K hK => ?s9, fun hI hd px qx hX hp hq hpq K hK => ?s10, fun hI hd px qx hX hp hq hpq K hK => ?s11, fun hI hd px qx hX hp hq hpq K hK => ?s12, fun hI hd px qx hX hp hq hpq K hK => ?s13, trivial⟩
          case s0 =>
            clear hd hp hq hpq
            simp only [Act.put, List.setIfInBounds_toArray, List.set_cons_succ, List.set_cons_zero] at hK
            refine (if_pos (by rfl)).mpr ?_
            obtain ⟨hq0, hq1, hq2, hq3⟩ := HBX.out W hW
            go_simp
            exact hK.out _ _ (fun _ => ⟨Below.refl _ _, rfl⟩) (fun e => absurd e (by decide)) (fun e => absurd e (by decide)) (fun e => absurd e (by decide))
          case s1 =>
            clear hd hp hq hpq
            simp only [Act.put, List.setIfInBounds_toArray, List.set_cons_succ, List.set_cons_zero] at hK
            refine (if_pos (by rfl)).mpr ?_
            go_simp
            exact hK.out _ _ (fun _ => ⟨Below.refl _ _, rfl⟩) (fun e => absurd e (by decide)) (fun e => absurd e (by decide)) (fun e => absurd e (by decide))
          case s2 =>
            have hx1 : xv 1 = Value.int .i64 at0 := hd 1 (by kernel_rfl)
            clear hd hp hq hpq
            simp only [Act.put, List.setIfInBounds_toArray, List.set_cons_succ, List.set_cons_zero] at hK
            rw [hx1] at hK ⊢
            refine (if_pos (by rfl)).mpr ?_
            go_simp
            exact hK.out _ _ (fun _ => ⟨Below.refl _ _, rfl⟩) (fun e => absurd e (by decide)) (fun e => absurd e (by decide)) (fun e => absurd e (by decide))
          case s3 =>
            clear hd hp hq hpq
            simp only [Act.put, List.setIfInBounds_toArray, List.set_cons_succ, List.set_cons_zero] at hK
            refine (if_pos (by rfl)).mpr ?_
            go_simp
            exact hK.out _ _ (fun _ => ⟨Below.refl _ _, rfl⟩) (fun e => absurd e (by decide)) (fun e => absurd e (by decide)) (fun e => absurd e (by decide))
          case s4 =>
            have hx3 : xv 3 = Value.int .i64 (sz : Int) := hd 3 (by kernel_rfl)
            clear hd hp hq hpq
            simp only [Act.put, List.setIfInBounds_toArray, List.set_cons_succ, List.set_cons_zero] at hK
            rw [hx3] at hK ⊢
            refine (if_pos (by rfl)).mpr ?_
            go_simp
            exact hK.out _ _ (fun _ => ⟨Below.refl _ _, rfl⟩) (fun e => absurd e (by decide)) (fun e => absurd e (by decide)) (fun e => absurd e (by decide))
          case s5 =>
            have hx2 : xv 2 = Value.int .u64 (IntKind.u64.wrap at0) := hd 2 (by kernel_rfl)
            have hx4 : xv 4 = Value.int .u64 (sz : Int) := hd 4 (by kernel_rfl)
            clear hd hp hq hpq
            simp only [Act.put, List.setIfInBounds_toArray, List.set_cons_succ, List.set_cons_zero] at hK
            rw [hx2] at hK ⊢
            rw [hx4] at hK ⊢
            refine (if_pos (by rfl)).mpr ?_
            go_simp
            exact hK.out _ _ (fun _ => ⟨Below.refl _ _, rfl⟩) (fun e => absurd e (by decide)) (fun e => absurd e (by decide)) (fun e => absurd e (by decide))
          case s6 =>
            have hx5 : xv 5 = Value.int .u64 ((IntKind.u64.wrap at0).tmod (sz : Int)) := hd 5 (by kernel_rfl)
            clear hd hp hq hpq
            simp only [Act.put, List.setIfInBounds_toArray, List.set_cons_succ, List.set_cons_zero] at hK
            rw [hx5] at hK ⊢
            refine (if_pos (by rfl)).mpr ?_
            go_simp
            exact hK.out _ _ (fun _ => ⟨Below.refl _ _, rfl⟩) (fun e => absurd e (by decide)) (fun e => absurd e (by decide)) (fun e => absurd e (by decide))
          case s7 =>
            clear hd hp hq hpq
            simp only [Act.put, List.setIfInBounds_toArray, List.set_cons_succ, List.set_cons_zero] at hK
            refine (if_pos (by rfl)).mpr ?_
            go_simp
            exact hK.out _ _ (fun _ => ⟨Below.refl _ _, rfl⟩) (fun e => absurd e (by decide)) (fun e => absurd e (by decide)) (fun e => absurd e (by decide))
          case s8 =>
            clear hd hp hq hpq
            simp only [Act.put, List.setIfInBounds_toArray, List.set_cons_succ, List.set_cons_zero] at hK
            refine (if_pos (by rfl)).mpr ?_
            go_simp
            exact hK.out _ _ (fun _ => ⟨Below.refl _ _, rfl⟩) (fun e => absurd e (by decide)) (fun e => absurd e (by decide)) (fun e => absurd e (by decide))
          case s9 =>
            clear hd hp hq hpq
            simp only [Act.put, List.setIfInBounds_toArray, List.set_cons_succ, List.set_cons_zero] at hK
            refine (if_pos (by rfl)).mpr ?_
            go_simp
            exact hK.out _ _ (fun _ => ⟨Below.refl _ _, rfl⟩) (fun e => absurd e (by decide)) (fun e => absurd e (by decide)) (fun e => absurd e (by decide))
          case s10 =>
            clear hd hp hq hpq
            simp only [Act.put, List.setIfInBounds_toArray, List.set_cons_succ, List.set_cons_zero] at hK
            refine (if_pos (by rfl)).mpr ?_
            go_simp
            exact hK.out _ _ (fun _ => ⟨Below.refl _ _, rfl⟩) (fun e => absurd e (by decide)) (fun e => absurd e (by decide)) (fun e => absurd e (by decide))
          case s11 =>
            have hx0 : xv 0 = Value.agg #[.int .i64 k, .string x, .string y, .slice A n C] := hd 0 (by kernel_rfl)
            have hx6 : xv 6 = Value.int .i64 (IntKind.i64.wrap ((IntKind.u64.wrap at0).tmod (sz : Int))) := hd 6 (by kernel_rfl)
            have hx7 : xv 7 = Value.int .i64 kind := hd 7 (by kernel_rfl)
            have hx8 : xv 8 = Value.string text := hd 8 (by kernel_rfl)
            have hx9 : xv 9 = Value.string trail := hd 9 (by kernel_rfl)
            have hx10 : xv 10 = Value.int .i64 how := hd 10 (by kernel_rfl)
            obtain rfl := hp rfl
            clear hd hp hq hpq
            simp only [Act.put, List.setIfInBounds_toArray, List.set_cons_succ, List.set_cons_zero] at hK
            rw [hx0] at hK ⊢
            rw [hx6] at hK ⊢
            rw [hx7] at hK ⊢
            rw [hx8] at hK ⊢
            rw [hx9] at hK ⊢
            rw [hx10] at hK ⊢
            refine (if_pos (by rfl)).mpr ?_
            go_simp
            go_at_call 12
            refine (HC.out W hW).mono ?_
            rintro e w' ⟨hb, k', x', y', A', n', C', c', rfl, hf⟩
            exact hK.out _ _ (fun _ => ⟨hb, trivial⟩) (fun _ => SpX_call hX hW.size hb hf) (fun e => absurd e (by decide)) (fun e => absurd e (by decide))
          case s12 =>
            obtain rfl := hq rfl
            clear hd hp hq hpq
            simp only [Act.put, List.setIfInBounds_toArray, List.set_cons_succ, List.set_cons_zero] at hK
            refine (if_pos (by rfl)).mpr ?_
            go_simp
            exact hK.out _ _ (fun _ => ⟨below1 _ _, trivial⟩) (fun e => absurd e (by decide)) (fun _ => SpX_alloc hX hW.size) (fun e => absurd e (by decide))
          case s13 =>
            obtain ⟨rfl, rfl⟩ := hpq rfl
            clear hd hp hq hpq
            simp only [Act.put] at hK
            refine (if_pos (by rfl)).mpr ?_
            obtain ⟨g, k', x', y', A', n', C', c', e12, e11, hg, hbx, hf⟩ := hX
            have hfz := frz hbx
            obtain ⟨y0, y1, y2, y3⟩ := hfz
            obtain ⟨x0, x1, x2, x3⟩ := hbx.cells
            have hfin := SpX_fin (k := k') (x := x') (y := y') (HBL.out.trans (hW.mono HBL.out.size)) (Nat.le_trans HBL.out.size hg) hbx hf
            rw [e11, e12] at hK ⊢
            go_simp
            exact hK.out undef _ (fun e => absurd rfl e) (fun e => absurd e (by decide)) (fun e => absurd e (by decide)) (fun _ => ⟨g, k', x', y', A', n', C', c', rfl, hfin⟩)
        case behind =>
          intro xv W hF a ha
          simp only [fillA] at ha
          simp only [List.setIfInBounds_toArray, List.set_cons_succ, List.set_cons_zero, Nat.zero_add, Nat.reduceAdd] at ha
          subst ha
          obtain ⟨g, k', x', y', A', n', C', c', e12, hbw, hbx, hf⟩ := hF
          rw [e12]
          have HBF0 := Lib.hid hbw
          have HBX' := Lib.hid hbx
          obtain ⟨p0, p1, p2, p3⟩ := hbx.cells
          have HFC : Hid (∀ W', Below W.heap.size W W' → Fs W' (Lo W'.heap.size) (.slice A' n' C') c') := fun W' hW => hf.later hW
          have HFW2 := Lib.hid (few_any k' x' y' A' n' C' c' W hf)
          clear e12 hbw hbx hf HC HBX HBL
          cases hfb : fewB k' x' y' c' with
          | false =>
            rw [hfb] at HFW2
            clear hfb
            go_wp2_with fail
            refine HFW2.out.mono ?_
            rintro e w8 ⟨rfl, hb⟩
            have HB := Lib.hid (HBF0.out.trans (hb.mono HBF0.out.size))
            have HK := Lib.hid (known_any w8 (HT0.out w8 HB.out))
            clear hb
            go_wp2_with fail
            refine HK.out.mono ?_
            rintro e w9 ⟨rfl, hb⟩
            have HBE := Lib.hid (HB.out.trans (hb.mono HB.out.size))
            clear hb
            go_wp2
            go_ret
            exact ⟨rfl, HBE.out⟩
          | true =>
            rw [hfb] at HFW2
            have HIS2 := Lib.hid (few_is hfb)
            have HST2 := Lib.hid (few_smallT hfb)
            clear hfb
            go_wp2_with fail
            refine HFW2.out.mono ?_
            rintro e w8 ⟨rfl, hb⟩
            have HBF := Lib.hid (HBF0.out.trans (hb.mono HBF0.out.size))
            have HBV : Hid (∀ W', Below w8.heap.size w8 W' → W'.cell? ⟨g, 0, none⟩ = some (.int .i64 k') ∧ W'.cell? ⟨g, 1, none⟩ = some (.string x') ∧ W'.cell? ⟨g, 2, none⟩ = some (.string y') ∧ W'.cell? ⟨g, 3, none⟩ = some (.slice A' n' C')) := fun W' hW => ((HBX'.out.below hb HBX'.out.lt).below hW (HBX'.out.below hb HBX'.out.lt).lt).cells
            have HT : Hid (∀ W', Below w8.heap.size w8 W' → Lex.Tab W') := fun W' hW => HT0.out W' (HBF.out.trans (hW.mono HBF.out.size))
            have HFD : Hid (∀ W', Below w8.heap.size w8 W' → Fs W' (Lo W'.heap.size) (.slice A' n' C') c') := fun W' hW => HFC.out W' (hb.trans (hW.mono hb.size))
            have HRT : Hid (∀ W', Below w8.heap.size w8 W' → Calls Tryz.prog 9 #[.agg #[.int .i64 k', .string x', .string y', .slice A' n' C']] W' fun e w' => e = .returned (.bool (rightT nmB tkB k' x' y' c')) ∧ Below W'.heap.size W' w') := fun W' hW =>
              right_any k' x' y' A' n' C' c' W' (HFD.out W' hW) (by have := HIS2.out.hx; omega) (by have := HIS2.out.hy; omega) HIS2.out.sm (HT.out W' hW)
            have HRR : Hid (∀ W', Below w8.heap.size w8 W' → Calls Tryz.prog 10 #[.agg #[.int .i64 k', .string x', .string y', .slice A' n' C']] W' fun e w' => e = .returned (.bool (rightT nmB tkB k' x' y' c')) ∧ Below W'.heap.size W' w') := fun W' hW =>
              refRight_any k' x' y' A' n' C' c' W' (HFD.out W' hW) (by have := HIS2.out.hx; omega) (by have := HIS2.out.hy; omega) HST2.out
            generalize rightT nmB tkB k' x' y' c' = rb at *
            clear hb HFC HFD HBX' HFW2 p0 p1 p2 p3 HBF0
            go_wp2
            refine region_rel (fun W W' => Below W.heap.size W W') [Cd.is (Value.bool true), Cd.is (Value.bool true), Cd.is (Value.agg #[.int .i64 k', .string x', .string y', .slice A' n' C']), Cd.is (Value.bool rb), Cd.is (Value.agg #[.int .i64 k', .string x', .string y', .slice A' n' C']), Cd.is (Value.bool rb), Cd.is (Value.bool true), Cd.is (Value.bool true), Cd.is (Value.bool true)] (by kernel_rfl) (by decide) (by kernel_rfl) (Below.refl _ _) (fun _ _ _ h k => h.trans (k.mono h.size)) ?steps ?behind
            case steps =>
              intro xv W hW a ha
              replace hW := undrew hW
              simp only [fillA] at ha
              simp only [List.setIfInBounds_toArray, List.set_cons_succ, List.set_cons_zero, Nat.zero_add, Nat.reduceAdd] at ha
              subst ha
              refine ⟨fun hd K hK => ?s0, fun hd K hK => ?s1, fun hd K hK => ?s2, fun hd K hK => ?s3, fun hd K hK => ?s4, fun hd K hK => ?s5, fun hd K hK => ?s6, fun hd K hK => ?s7, fun hd K hK => ?s8, trivial⟩
              case s0 =>
                clear hd
                simp only [Act.put, List.setIfInBounds_toArray, List.set_cons_succ, List.set_cons_zero] at hK
                refine (if_pos (by rfl)).mpr ?_
                go_simp
                go_at_call 8
                refine (known_any W (HT.out W hW)).mono ?_
                rintro e w' ⟨rfl, hb⟩
                exact hK.out _ _ hb rfl
              case s1 =>
                have hx0 : xv 0 = Value.bool true := hd 0 (by kernel_rfl)
                clear hd
                simp only [Act.put, List.setIfInBounds_toArray, List.set_cons_succ, List.set_cons_zero] at hK
                rw [hx0] at hK ⊢
                refine (if_pos (by rfl)).mpr ?_
                go_simp
                exact hK.out _ _ (Below.refl _ _) rfl
              case s2 =>
                have hx1 : xv 1 = Value.bool true := hd 1 (by kernel_rfl)
                clear hd
                simp only [Act.put, List.setIfInBounds_toArray, List.set_cons_succ, List.set_cons_zero] at hK
                rw [hx1] at hK ⊢
                refine (if_pos (by rfl)).mpr ?_
                obtain ⟨hq0, hq1, hq2, hq3⟩ := HBV.out W hW
                go_simp
                exact hK.out _ _ (Below.refl _ _) rfl
              case s3 =>
                have hx1 : xv 1 = Value.bool true := hd 1 (by kernel_rfl)
                have hx2 : xv 2 = Value.agg #[.int .i64 k', .string x', .string y', .slice A' n' C'] := hd 2 (by kernel_rfl)
                clear hd
                simp only [Act.put, List.setIfInBounds_toArray, List.set_cons_succ, List.set_cons_zero] at hK
                rw [hx1] at hK ⊢
                rw [hx2] at hK ⊢
                refine (if_pos (by rfl)).mpr ?_
                go_simp
                go_at_call 9
                refine (HRT.out W hW).mono ?_
                rintro e w' ⟨rfl, hb⟩
                exact hK.out _ _ hb rfl
              case s4 =>
                have hx1 : xv 1 = Value.bool true := hd 1 (by kernel_rfl)
                clear hd
                simp only [Act.put, List.setIfInBounds_toArray, List.set_cons_succ, List.set_cons_zero] at hK
                rw [hx1] at hK ⊢
                refine (if_pos (by rfl)).mpr ?_
                obtain ⟨hq0, hq1, hq2, hq3⟩ := HBV.out W hW
                go_simp
                exact hK.out _ _ (Below.refl _ _) rfl
              case s5 =>
                have hx1 : xv 1 = Value.bool true := hd 1 (by kernel_rfl)
                have hx4 : xv 4 = Value.agg #[.int .i64 k', .string x', .string y', .slice A' n' C'] := hd 4 (by kernel_rfl)
                clear hd
                simp only [Act.put, List.setIfInBounds_toArray, List.set_cons_succ, List.set_cons_zero] at hK
                rw [hx1] at hK ⊢
                rw [hx4] at hK ⊢
                refine (if_pos (by rfl)).mpr ?_
                go_simp
                go_at_call 10
                refine (HRR.out W hW).mono ?_
                rintro e w' ⟨rfl, hb⟩
                exact hK.out _ _ hb rfl
              case s6 =>
                have hx1 : xv 1 = Value.bool true := hd 1 (by kernel_rfl)
                have hx3 : xv 3 = Value.bool rb := hd 3 (by kernel_rfl)
                have hx5 : xv 5 = Value.bool rb := hd 5 (by kernel_rfl)
                clear hd
                simp only [Act.put, List.setIfInBounds_toArray, List.set_cons_succ, List.set_cons_zero] at hK
                rw [hx1] at hK ⊢
                rw [hx3] at hK ⊢
                rw [hx5] at hK ⊢
                refine (if_pos (by rfl)).mpr ?_
                have hne : (rb == rb) = true := by simp
                go_simp
                exact hK.out _ _ (Below.refl _ _) rfl
              case s7 =>
                have hx1 : xv 1 = Value.bool true := hd 1 (by kernel_rfl)
                have hx6 : xv 6 = Value.bool true := hd 6 (by kernel_rfl)
                clear hd
                simp only [Act.put, List.setIfInBounds_toArray, List.set_cons_succ, List.set_cons_zero] at hK
                rw [hx1] at hK ⊢
                rw [hx6] at hK ⊢
                refine (if_pos (by rfl)).mpr ?_
                go_simp
                exact hK.out _ _ (Below.refl _ _) rfl
              case s8 =>
                have hx7 : xv 7 = Value.bool true := hd 7 (by kernel_rfl)
                clear hd
                simp only [Act.put, List.setIfInBounds_toArray, List.set_cons_succ, List.set_cons_zero] at hK
                rw [hx7] at hK ⊢
                refine (if_pos (by rfl)).mpr ?_
                go_simp
                exact hK.out _ _ (Below.refl _ _) rfl
            case behind =>
              intro xv W hW hx a ha
              replace hW := undrew hW
              simp only [fillA] at ha
              simp only [List.setIfInBounds_toArray, List.set_cons_succ, List.set_cons_zero, Nat.zero_add, Nat.reduceAdd] at ha
              subst ha
              have h8 : xv 8 = Value.bool true := hx 8 (by decide)
              rw [h8]
              have HW := Lib.hid (HBF.out.trans (hW.mono HBF.out.size))
              clear hx h8 hW
              go_wp2
              go_ret
              exact ⟨rfl, HW.out⟩
end Go.Proofs.YtoecimgmghlfpaaGreatDoor.Tree
