/-
  Layer 5 (tree): the closures: tests, parts, rows of parts.
-/
import Derived.Test.YtoecimgmghlfpaaDoorTreeIn
import Derived.Test.YtoecimgmghlfpaaDoorMemRel
import Derived.Shelf.Abstract
namespace Go.Proofs.YtoecimgmghlfpaaDoor.Tree
open Go.ChangeShapes Go.WideShapes Go.ChangeAt Go.RowKit Mem
set_option linter.unusedVariables false

/-- A function that is entered as it stands. -/
def Entered (gf : Nat) : Prop := ∀ args w, (callFunc gf args).run Tryd.prog w = .ok (.enter gf args) w

/-- The function value v is a test that tells p of a node's kind and text, now and later. -/
def TestOk (w : World) (v : Value) (p : Int → ByteArray → Bool) : Prop :=
  ∃ gf caps, v = .func (.func gf) #[] caps ∧ Entered gf ∧ ∀ W, Below w.heap.size w W → ∀ k x y A n C, Calls Tryd.prog gf (#[.agg #[.int .i64 k, .string x, .string y, .slice A n C]] ++ caps) W fun e W' => e = .returned (.bool (p k x)) ∧ Below W.heap.size W W'
theorem TestOk.later {w w' : World} {v : Value} {p : Int → ByteArray → Bool} (h : TestOk w v p) (hb : Below w.heap.size w w') : TestOk w' v p := by
  obtain ⟨gf, caps, e, he, hc⟩ := h
  exact ⟨gf, caps, e, he, fun W hW => hc W (hb.trans (hW.mono hb.size))⟩

theorem entered_of {gf : Nat} {fn : Func} (h : ∀ args w, (callFunc gf args).run Tryd.prog w = .ok (.enter gf args) w) : Entered gf := h

set_option maxHeartbeats 2000000 in
theorem pass_any (gf : Nat) (caps : Array Value) (eg : Entered gf) (p : Int → ByteArray → Bool) (cb b off n C : Nat) (k : Int) (x y : ByteArray) (A : Option Addr) (m c : Nat) (w : World)
    (hk : w.cell? ⟨cb, 0, none⟩ = some (.slice (some ⟨b, off, none⟩) n C)) (hn : (0 : Int) < (n : Int)) (c0 : w.cell? ⟨b, off, none⟩ = some (.int .i64 k)) (c1 : w.cell? ⟨b, off + 1, none⟩ = some (.string x)) (c2 : w.cell? ⟨b, off + 2, none⟩ = some (.string y)) (c3 : w.cell? ⟨b, off + 3, none⟩ = some (.slice A m c))
    (hc : Calls Tryd.prog gf (#[.agg #[.int .i64 k, .string x, .string y, .slice A m c]] ++ caps) w fun e W' => e = .returned (.bool (p k x)) ∧ Below w.heap.size w W') :
    Calls Tryd.prog 59 #[.func (.func gf) #[] caps, .pointer (some ⟨cb, 0, none⟩)] w fun e W' => e = .returned (.bool (p k x)) ∧ Below w.heap.size w W' := by
  have HC := Lib.hid hc
  clear hc
  unfold Entered at eg
  go_enter Tryd.func59, Tryd.ntmps59
  go_wp2_with (go_at_fn gf; refine HC.out.mono ?_; rintro e W ⟨rfl, hgw⟩)
  go_ret
  exact ⟨rfl, hgw⟩

set_option maxHeartbeats 4000000 in
theorem indexF_any (ps : List (Int → ByteArray → Bool)) (g n C cb b off nk Ck : Nat) (k : Int) (x y : ByteArray) (A : Option Addr) (m c : Nat) (w : World) (hg : g < w.heap.size) (hl : ps.length = n) (hn : n ≤ 1000000)
    (hts : ∀ i p, ps[i]? = some p → ∃ v, w.cell? ⟨g, i, none⟩ = some v ∧ TestOk w v p) (hcb : cb < w.heap.size) (hb : b < w.heap.size)
    (hk : w.cell? ⟨cb, 0, none⟩ = some (.slice (some ⟨b, off, none⟩) nk Ck)) (hnk : (0 : Int) < (nk : Int)) (c0 : w.cell? ⟨b, off, none⟩ = some (.int .i64 k)) (c1 : w.cell? ⟨b, off + 1, none⟩ = some (.string x)) (c2 : w.cell? ⟨b, off + 2, none⟩ = some (.string y)) (c3 : w.cell? ⟨b, off + 3, none⟩ = some (.slice A m c)) :
    Calls Tryd.prog 64 #[.slice (some ⟨g, 0, none⟩) n C, .func (.func 59) #[] #[.pointer (some ⟨cb, 0, none⟩)]] w fun e w' => (∃ r : Int, e = .returned (.int .i64 r) ∧ decide (0 ≤ r) = ps.any (fun p => p k x)) ∧ Below w.heap.size w w' := by
  have Hl := Lib.hid hl; have Ht := Lib.hid hts
  have HP : Hid (∀ wr, Below w.heap.size w wr → ∀ i p v, ps[i]? = some p → wr.cell? ⟨g, i, none⟩ = some v → Calls Tryd.prog 59 #[v, .pointer (some ⟨cb, 0, none⟩)] wr fun e W' => e = .returned (.bool (p k x)) ∧ Below wr.heap.size wr W') := by
    intro wr hwr i p v hp hv
    obtain ⟨v', hv', gf, caps, rfl, he, hc⟩ := hts i p hp
    have e := (hwr.cell (p := ⟨g, i, none⟩) hg).trans hv'
    rw [hv] at e
    injection e with e
    subst e
    exact pass_any gf caps he p cb b off nk Ck k x y A m c wr ((hwr.cell hcb).trans hk) hnk ((hwr.cell hb).trans c0) ((hwr.cell hb).trans c1) ((hwr.cell hb).trans c2) ((hwr.cell hb).trans c3) (hc wr hwr k x y A m c)
  have HG := Lib.hid hg
  clear hl hts hk c0 c1 c2 c3 hg hcb hb hnk
  go_enter Tryd.func64, Tryd.ntmps64
  go_wp2
  go_loopw [8] (fun i wr => ∃ k0 : Nat, k0 ≤ n ∧ i = .int .i64 k0 ∧ Hid ((ps.take k0).any (fun p => p k x) = false) ∧ Hid (Below w.heap.size w wr)) (fun i _ => n - (intOf i).toNat)
  case atStart => exact ⟨0, Nat.zero_le _, rfl, (by show _ = _; simp), Below.refl _ _⟩
  case round =>
    obtain ⟨k0, hk0, rfl, hno, hbw⟩ := hrel
    by_cases hlt : k0 < n
    · obtain ⟨p, hp⟩ : ∃ p, ps[k0]? = some p := ⟨_, List.getElem?_eq_getElem (by rw [Hl.out]; exact hlt)⟩
      obtain ⟨v, hv, gf, caps, rfl, _, _⟩ := Ht.out k0 p hp
      have hcell := (hbw.out.cell (p := ⟨g, k0, none⟩) HG.out).trans hv
      have hlt' : (k0 : Int) < (n : Int) := by omega
      have hk00 : (0 : Int) ≤ (k0 : Int) := by omega
      have HC := Lib.hid (HP.out wr hbw.out k0 p _ hp hcell)
      clear hv
      cases hx : p k x with
      | true =>
        rw [hx] at HC
        have HH := Lib.hid (any_hit (p := fun p => p k x) hp hx)
        clear hp hx
        go_wp2_with fail
        refine HC.out.mono ?_
        rintro e w' ⟨rfl, hb1⟩
        have HB1 := Lib.hid (hbw.out.trans (hb1.mono hbw.out.size))
        clear hb1
        go_wp2
        go_ret
        exact ⟨⟨_, rfl, by rw [HH.out]; exact decide_eq_true (by omega)⟩, HB1.out⟩
      | false =>
        rw [hx] at HC
        have HH := Lib.hid (any_step (p := fun p => p k x) hp hno.out hx)
        clear hp hno hx
        go_wp2_with fail
        refine HC.out.mono ?_
        rintro e w' ⟨rfl, hb1⟩
        have HB1 := Lib.hid (hbw.out.trans (hb1.mono hbw.out.size))
        clear hb1
        go_wp2
        go_roundw
        case rel => exact ⟨k0 + 1, by omega, by go_num, HH.out, HB1.out⟩
        case measure => simp [intOf]; omega
    · have hn' : ¬ (k0 : Int) < (n : Int) := by omega
      obtain rfl : k0 = n := by omega
      have HH := Lib.hid (any_end (by rw [Hl.out]; exact Nat.le_refl _) hno.out)
      clear hno
      go_wp2
      go_ret
      exact ⟨⟨_, rfl, by rw [HH.out]; rfl⟩, hbw.out⟩

theorem containsF_any (ps : List (Int → ByteArray → Bool)) (g n C cb b off nk Ck : Nat) (k : Int) (x y : ByteArray) (A : Option Addr) (m c : Nat) (w : World) (hg : g < w.heap.size) (hl : ps.length = n) (hn : n ≤ 1000000)
    (hts : ∀ i p, ps[i]? = some p → ∃ v, w.cell? ⟨g, i, none⟩ = some v ∧ TestOk w v p) (hcb : cb < w.heap.size) (hb : b < w.heap.size)
    (hk : w.cell? ⟨cb, 0, none⟩ = some (.slice (some ⟨b, off, none⟩) nk Ck)) (hnk : (0 : Int) < (nk : Int)) (c0 : w.cell? ⟨b, off, none⟩ = some (.int .i64 k)) (c1 : w.cell? ⟨b, off + 1, none⟩ = some (.string x)) (c2 : w.cell? ⟨b, off + 2, none⟩ = some (.string y)) (c3 : w.cell? ⟨b, off + 3, none⟩ = some (.slice A m c)) :
    Calls Tryd.prog 60 #[.slice (some ⟨g, 0, none⟩) n C, .func (.func 59) #[] #[.pointer (some ⟨cb, 0, none⟩)]] w fun e w' => e = .returned (.bool (ps.any (fun p => p k x))) ∧ Below w.heap.size w w' := by
  have HX := Lib.hid (indexF_any ps g n C cb b off nk Ck k x y A m c w hg hl hn hts hcb hb hk hnk c0 c1 c2 c3)
  generalize ps.any (fun p => p k x) = bb at *
  clear hl hts hk c0 c1 c2 c3 hg hcb hb hnk
  go_enter Tryd.func60, Tryd.ntmps60
  go_wp2_with fail
  refine HX.out.mono ?_
  rintro e w' ⟨⟨r, rfl, hr⟩, hbw⟩
  have Hr := Lib.hid hr
  clear hr
  go_wp2
  go_ret
  exact ⟨by rw [← Hr.out]; rfl, hbw⟩

end Go.Proofs.YtoecimgmghlfpaaDoor.Tree
