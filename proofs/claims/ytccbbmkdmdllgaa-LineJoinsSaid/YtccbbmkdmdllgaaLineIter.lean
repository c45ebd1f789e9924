/-
  Layer 2 (line): the lines, told by a function that is ranged over: its contract; Split and Starts.
-/
import Derived.Test.YtccbbmkdmdllgaaLinePlace
import Derived.Test.YtccbbmkdmdllgaaMemRows
namespace Go.Proofs.Ytccbbmkdmdllgaa.Line
open Go.ChangeShapes Go.WideShapes Go.ChangeAt Go.RowKit Go.Shelf Mem
set_option linter.unusedVariables false

attribute [local go_sem] Oper.semAt_some

/-- From where to where a line may go, of N bytes. -/
abbrev Pr (N : Nat) : Type := { p : Nat × Nat // p.1 < p.2 ∧ p.2 ≤ N }
def raw {N : Nat} (pre : List (Pr N)) : List (Nat × Nat) := pre.map Subtype.val
theorem raw_snoc {N : Nat} (pre : List (Pr N)) (x : Pr N) : raw (pre ++ [x]) = raw pre ++ [x.1] := by simp [raw]
theorem raw_len {N : Nat} (pre : List (Pr N)) : (raw pre).length = pre.length := by simp [raw]
def encP {N : Nat} (x : Pr N) : Array Value := #[.int .i64 (x.1.1 : Int), .int .i64 (x.1.2 : Int)]

/-- What a round must keep: whatever lay below block B, and block g. -/
structure KeepL (B g : Nat) (W W' : World) : Prop where
  low : ∀ k, k < B → W'.heap[k]? = W.heap[k]?
  box : W'.heap[g]? = W.heap[g]?
theorem KeepL.refl (B g : Nat) (W : World) : KeepL B g W W := ⟨fun _ _ => rfl, rfl⟩
theorem KeepL.trans {B g : Nat} {X Y Z : World} (h : KeepL B g X Y) (k : KeepL B g Y Z) : KeepL B g X Z := ⟨fun i hi => (k.low i hi).trans (h.low i hi), k.box.trans h.box⟩
theorem KeepL.put {B g : Nat} {w : World} (hB : B ≤ w.heap.size) (hg : g < w.heap.size) (W : World) (l : Nat) (o o' : Obj) (hl : w.heap.size ≤ l) (h : W.heap[l]? = some o) (_ : o.isCells = false) (_ : o.isWalk = false) : KeepL B g W (W.putObj l o') :=
  ⟨fun k hk => World.putObj_heap_other (by omega), World.putObj_heap_other (by omega)⟩
theorem KeepL.cell {B g : Nat} {W W' : World} (h : KeepL B g W W') {p : Addr} (hp : p.block < B) : W'.cell? p = W.cell? p := World.cell?_of_block (h.low _ hp)
theorem KeepL.boxCell {B g : Nat} {W W' : World} (h : KeepL B g W W') : W'.cell? ⟨g, 0, none⟩ = W.cell? ⟨g, 0, none⟩ := World.cell?_of_block h.box

set_option maxRecDepth 100000 in
set_option maxHeartbeats 2000000 in
/-- The function that is ranged over: it tells all lines, for every body that keeps the bytes. -/
theorem lines1_in (n : Nat) (hn : 2 ≤ n) (l Bs B : Nat) (A : Option Addr) (len cap : Nat) (xs : List Int) (hx : xs.length = len) (hcap : len ≤ cap) (hcap' : cap ≤ maxLen) (hs : len ≤ 1000000000) (J Jx : List (Pr xs.length) → World → Prop)
    (hY : ∀ pre x W1, J pre W1 → pre.length < xs.length → YieldAt Fence.wide (n - 1) Try.prog l (encP x) W1 fun e W' =>
      (e = .returned (.bool true) ∧ J (pre ++ [x]) W' ∧ KeepL B Bs W1 W') ∨ (e = .returned (.bool false) ∧ Jx (pre ++ [x]) W'))
    (W : World) (hBs : W.cell? ⟨Bs, 0, none⟩ = some (.slice A len cap)) (hR : RB W B A xs) (h0 : J [] W) :
    CallsIn Fence.wide n Try.prog 24 #[.func (.yield l) #[] #[], .pointer (some ⟨Bs, 0, none⟩)] W fun e W' => (∃ v, e = .returned v) ∧
      ((∃ ys, raw ys = prs 0 (lns xs) ∧ J ys W') ∨ (∃ pre, True ∧ Jx pre W')) := by
  have Hx := Lib.hid hx
  have HR := Lib.hid hR; clear hR
  have HC := Lib.hid hcap'; clear hcap'
  have hY := Lib.hid hY
  refine callsIn_of_wp Try.func24 rfl trivial ?_ rfl
  simp only [Try.ntmps24, List.size_toArray, List.length_cons, List.length_nil, Nat.reduceAdd, Nat.reduceSub, Array.replicate_succ, Array.replicate_zero, List.push_toArray, List.append_toArray, List.nil_append, List.cons_append]
  gi_wp2
  gi_loopw [3, 4] (fun i _ wr => ∃ (k : Nat) (pre : List (Pr xs.length)), k ≤ len ∧ i = .int .i64 k ∧ Hid (raw pre ++ prs k (lns (xs.drop k)) = prs 0 (lns xs)) ∧ Hid (J pre wr) ∧ Hid (KeepL B Bs W wr))
    (fun i _ _ => len - (intOf i).toNat)
  case atStart => exact ⟨0, [], Nat.zero_le _, rfl, rfl, h0, KeepL.refl _ _ _⟩
  case round =>
    obtain ⟨k, pre, hk, rfl, hpre, hJs, hkeep⟩ := hrel
    have hbox : wr.cell? ⟨Bs, 0, none⟩ = some (.slice A len cap) := hkeep.out.boxCell.trans hBs
    by_cases hlt : k < len
    · have hRr : RB wr B A xs := HR.out.keep fun p hp => hkeep.out.cell hp
      obtain ⟨b, off, rfl, hbB, _⟩ := hRr.cell (by intro e; have := Hx.out; rw [e] at this; simp at this; omega)
      have hdl : (xs.drop k).length = len - k := by rw [List.length_drop, Hx.out]
      have hne : xs.drop k ≠ [] := by intro e; rw [e] at hdl; simp at hdl; omega
      obtain ⟨c1, c2, c3⟩ := lend_cut _ hne
      have hE := Lib.hid (lineEnd_any b off len cap k xs wr B hRr Hx.out hlt hcap HC.out)
      have hpre2 : raw pre ++ (k, k + lend (xs.drop k)) :: prs (k + lend (xs.drop k)) (lns (xs.drop (k + lend (xs.drop k)))) = prs 0 (lns xs) := by
        have h1 : ((xs.drop k).take (lend (xs.drop k))).length = lend (xs.drop k) := by rw [List.length_take]; omega
        have := hpre.out
        rw [c3] at this
        simp only [prs, h1, List.drop_drop] at this
        exact this
      have hcnt : pre.length < xs.length := by
        have h1 := congrArg List.length hpre2
        have h2 := lns_len xs
        simp only [List.length_append, raw_len, List.length_cons, prs_len] at h1
        omega
      rw [hdl] at c2
      generalize lend (xs.drop k) = m at *
      have hval : k < k + m ∧ k + m ≤ xs.length := ⟨by omega, by rw [Hx.out]; omega⟩
      have hpre3 : Hid (raw (pre ++ [(⟨(k, k + m), hval⟩ : Pr xs.length)]) ++ prs (k + m) (lns (xs.drop (k + m))) = prs 0 (lns xs)) := by
        show _ = _
        rw [raw_snoc, List.append_assoc]; exact hpre2
      obtain ⟨fn, tmps, assign, body, hy, hRd⟩ := hY.out pre ⟨(k, k + m), hval⟩ wr hJs.out hcnt
      dsimp only [encP] at hy
      simp only [Int.natCast_add] at hy
      have hlt' : (k : Int) < (len : Int) := by omega
      have h1 : 1 ≤ n - 1 := by omega
      have h2 : 1 ≤ n := by omega
      have f1 : Fence.wide.fn 25 := trivial
      clear hpre2 hcnt c3 hne hdl hpre
      gi_wp2_with (gi_at_call 25; refine (callsIn_wide.2 hE.out).mono ?_; rintro e w' ⟨rfl, rfl⟩)
      refine hRd.mono ?_
      rintro e W3 (⟨rfl, hJ3, hk3⟩ | ⟨rfl, hJx3⟩)
      · have hkeep3 : Hid (KeepL B Bs W W3) := hkeep.out.trans hk3
        have hJ3 := Lib.hid hJ3
        gi_wp2
        go_roundw
        case rel => exact ⟨k + m, _, by omega, rfl, hpre3.out, hJ3.out, hkeep3.out⟩
        case measure => simp [intOf]; omega
      · have hJx3 := Lib.hid hJx3
        gi_wp2
        refine bodyPost_ret (results_none rfl _ _ _) rfl ?_
        exact ⟨⟨_, rfl⟩, .inr ⟨_, trivial, hJx3.out⟩⟩
    · obtain rfl : k = len := by omega
      have hge : ¬ (k : Int) < (k : Int) := by omega
      have hfin : Hid (raw pre = prs 0 (lns xs)) := by
        show _ = _
        have := hpre.out
        rw [List.drop_of_length_le (by rw [Hx.out]; omega)] at this
        simpa [lns, prs] using this
      gi_wp2
      go_end0
      exact ⟨⟨_, rfl⟩, .inl ⟨_, hfin.out, hJs.out⟩⟩

theorem lines_any (A : Option Addr) (n cap : Nat) (w : World) :
    Calls Try.prog 19 #[.slice A n cap] w fun e w' => e = .returned (.func (.func 24) #[] #[.pointer (some ⟨w.heap.size, 0, none⟩)]) ∧ w.alloc (.cells #[.slice A n cap] 22) = w' := by
  go_enter Try.func19, Try.ntmps19
  go_wp2
  go_ret
  exact ⟨rfl, rfl⟩

theorem lines_stops (n : Nat) (hn : 2 ≤ n) (Bs B : Nat) (A : Option Addr) (len cap : Nat) (xs : List Int) (hx : xs.length = len) (hcap : len ≤ cap) (hcap' : cap ≤ maxLen) (hs : len ≤ 1000000000) (w : World) (hBl : Bs < w.heap.size) (hB : B ≤ w.heap.size)
    (hBs : w.cell? ⟨Bs, 0, none⟩ = some (.slice A len cap)) (hR : RB w B A xs) :
    SeqStopsK Fence.wide n Try.prog 24 #[.pointer (some ⟨Bs, 0, none⟩)] (encP (N := xs.length)) (KeepL B Bs) (fun ys => raw ys = prs 0 (lns xs)) (fun _ => True) xs.length w := fun l J Jx W hW _ _ hY h0 =>
  lines1_in n hn l Bs B A len cap xs hx hcap hcap' hs J Jx hY W ((hW.cell (p := ⟨Bs, 0, none⟩) hBl).trans hBs) (hR.below hW hB) h0
end Go.Proofs.Ytccbbmkdmdllgaa.Line
