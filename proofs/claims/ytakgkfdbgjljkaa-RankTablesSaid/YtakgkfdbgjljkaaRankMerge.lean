/-
  Layer 3 (rank): merge: two runs as one, over whatever order a closure tells.
-/
import Derived.Test.YtakgkfdbgjljkaaMemC
import Derived.Test.YtakgkfdbgjljkaaRankMath
import Derived.StillTailTactics
import Derived.RegionTactic
import Derived.Deep.Draws
import Derived.Shelf.Abstract
namespace Go.Proofs.Ytakgkfdbgjljkaa.Rank
open Go.ChangeShapes Go.WideShapes Go.ChangeAt Go.RowKit MemC
set_option linter.unusedVariables false

/-- The slice at A lies in block g and reads as xs. -/
def RA (w : World) (g : Nat) (A : Option Addr) (xs : List Int) : Prop :=
  xs = [] ∨ ∃ off, A = some ⟨g, off, none⟩ ∧ ∀ i, i < xs.length → w.cell? ⟨g, off + i, none⟩ = some (.int .i64 (xs.getD i 0))
section
variable {w w' : World} {g : Nat} {A : Option Addr} {xs : List Int}
theorem RA.keep (h : RA w g A xs) (hk : w'.heap[g]? = w.heap[g]?) : RA w' g A xs := by
  rcases h with h | ⟨off, e, hc⟩
  · exact .inl h
  · exact .inr ⟨off, e, fun i hi => (World.cell?_of_block (w := w) (a := ⟨g, off + i, none⟩) hk).trans (hc i hi)⟩
theorem RA.head {x : Int} (h : RA w g A (x :: xs)) : ∃ off, A = some ⟨g, off, none⟩ ∧ w.cell? ⟨g, off, none⟩ = some (.int .i64 x) := by
  rcases h with h | ⟨off, e, hc⟩
  · cases h
  · exact ⟨off, e, by have := hc 0 (by simp); simpa using this⟩
theorem RA.tail {x : Int} {off : Nat} (h : RA w g (some ⟨g, off, none⟩) (x :: xs)) : RA w g (some ⟨g, off + 1, none⟩) xs := by
  rcases h with h | ⟨off', e, hc⟩
  · cases h
  · have e : off = off' := by simpa using e
    subst e
    refine .inr ⟨off + 1, rfl, fun i hi => ?_⟩
    have := hc (i + 1) (by simp; omega)
    rw [show off + (i + 1) = off + 1 + i by omega] at this
    rw [this]; simp
end

/-- Places as they stand in memory. -/
def vals (l : List Nat) : List Value := (ints l).map (Value.int .i64)
theorem vals_len (l : List Nat) : (vals l).length = l.length := by simp [vals, ints_len]

/-- What the closure tells: the order lt of the places below n; it may make memory, but changes none. -/
def Tells (gf : Nat) (c1 c2 : Nat) (lt : Nat → Nat → Bool) (n : Nat) (B : Nat) (w : World) : Prop :=
  ∀ (W : World) (i j : Nat), i < n → j < n → Below B w W → Calls Try.prog gf #[.int .i64 (i : Int), .int .i64 (j : Int), .pointer (some ⟨c1, 0, none⟩), .pointer (some ⟨c2, 0, none⟩)] W fun e W' => e = .returned (.bool (lt i j)) ∧ W.grownBy W' none

/-- What merge leaves. -/
def MergePost (lt : Nat → Nat → Bool) (full : List Nat) (g f t : Nat) (ys : List Nat) (w : World) (e : Ending) (w' : World) : Prop :=
  e = .returned (.tuple #[]) ∧ w.grownBy w' (some g) ∧ ∃ pre, Mg lt full pre [] [] ∧ w'.heap[g]? = some (.cells (vals (ys.take f ++ pre ++ ys.drop t)).toArray 3 (0, 0))

/-- What holds between two rounds of merge. -/
structure MInv (lt : Nat → Nat → Bool) (full : List Nat) (g ga f m : Nat) (ys : List Nat) (w wr : World) (k : Nat) (pre a b : List Nat) (A Bq : Option Addr) : Prop where
  len : pre.length = k
  mg : Mg lt full pre a b
  ra : RA wr ga A (ints a)
  rb : RA wr ga Bq (ints b)
  grown : w.grownBy wr (some g)
  row : wr.heap[g]? = some (.cells (vals (ys.take f ++ pre ++ ys.drop (f + k))).toArray 3 (0, 0))

theorem row_cell {w : World} {g : Nat} {l : List Nat} (h : w.heap[g]? = some (.cells (vals l).toArray 3 (0, 0))) {i : Nat} (hi : i < l.length) : ∃ v, w.cell? ⟨g, i, none⟩ = some v ∧ v.oneCell' = true := by
  have hv : i < (vals l).length := by rw [vals_len]; exact hi
  refine ⟨(vals l)[i], by simp [World.cell?, h, hv], ?_⟩
  simp [vals, Value.oneCell']
theorem row_free {w : World} {g : Nat} {l : List Nat} (h : w.heap[g]? = some (.cells (vals l).toArray 3 (0, 0))) (i : Nat) : w.frozen? ⟨g, i, none⟩ = false := by simp [World.frozen?, h]

theorem splice_set {ys pre : List Nat} {f k x : Nat} (hp : pre.length = k) (hf : f ≤ ys.length) (hk : f + k < ys.length) :
    (ys.take f ++ pre ++ ys.drop (f + k)).set (f + k) x = ys.take f ++ (pre ++ [x]) ++ ys.drop (f + (k + 1)) := by
  have h1 : (ys.take f ++ pre).length = f + k := by rw [List.length_append, List.length_take]; omega
  rw [List.set_append_right (f + k) x (by omega), h1, Nat.sub_self, List.drop_eq_getElem_cons hk]
  simp [Nat.add_assoc]
theorem vals_set (l : List Nat) (i x : Nat) : (vals l).set i (.int .i64 (x : Int)) = vals (l.set i x) := by simp [vals, ints, List.map_set]

theorem row_set {w : World} {g : Nat} {l : List Nat} (h : w.heap[g]? = some (.cells (vals l).toArray 3 (0, 0))) (i x : Nat) :
    (w.setCell ⟨g, i, none⟩ (.int .i64 (x : Int))).heap[g]? = some (.cells (vals (l.set i x)).toArray 3 (0, 0)) := by
  have hlt := lt_of_block h
  have h' : w.heap[g] = .cells (vals l).toArray 3 (0, 0) := by simpa [Array.getElem?_eq_getElem hlt] using h
  show (w.heap.modify g _)[g]? = _
  rw [Array.getElem?_eq_getElem (by simpa using hlt), Array.getElem_modify_self, h', ← vals_set]
  simp

theorem grown_set {w wr : World} {g i : Nat} {v : Value} (h : w.grownBy wr (some g)) : w.grownBy (wr.setCell ⟨g, i, none⟩ v) (some g) :=
  ⟨h.os, h.tape, h.output, by have := h.size; simpa [World.setCell] using this, fun k hk hne => (Below.heap_setCell wr _ _ _ (fun e => hne (by rw [e]))).trans (h.block k hk hne)⟩
theorem grown_none {w wr W : World} {g : Nat} (h : w.grownBy wr (some g)) (k : wr.grownBy W none) : w.grownBy W (some g) :=
  ⟨k.os.trans h.os, k.tape.trans h.tape, k.output.trans h.output, Nat.le_trans h.size k.size, fun i hi hne => (k.block i (Nat.lt_of_lt_of_le hi h.size) (by simp)).trans (h.block i hi hne)⟩
theorem grown_drewN {w wr : World} {r : Option Nat} (h : w.grownBy wr r) (q : Nat) : w.grownBy (wr.drewN q) r := ⟨h.os, h.tape, h.output, h.size, h.block⟩

section
variable {lt : Nat → Nat → Bool} {full : List Nat} {g ga f m : Nat} {ys : List Nat} {w wr W : World} {k : Nat} {pre a b : List Nat} {A Bq : Option Addr}
theorem MInv.world (h : MInv lt full g ga f m ys w wr k pre a b A Bq) (hg : wr.grownBy W none) (hlt : g < wr.heap.size) (hga : ga < wr.heap.size) : MInv lt full g ga f m ys w W k pre a b A Bq :=
  ⟨h.len, h.mg, h.ra.keep (hg.block _ hga (by simp)), h.rb.keep (hg.block _ hga (by simp)), grown_none h.grown hg, (hg.block _ hlt (by simp)).trans h.row⟩
theorem MInv.fstStep {x : Nat} (h : MInv lt full g ga f m ys w wr k pre (x :: a) b A Bq) (hw : WO lt) (hne : g ≠ ga) (hl : b = [] ∨ ∃ y r, b = y :: r ∧ lt y x = false) (hk : f + k < ys.length) {A' : Option Addr} (hA : RA wr ga A' (ints a)) :
    MInv lt full g ga f m ys w (wr.setCell ⟨g, f + k, none⟩ (.int .i64 (x : Int))) (k + 1) (pre ++ [x]) a b A' Bq := by
  have hk' : (wr.setCell ⟨g, f + k, none⟩ (.int .i64 (x : Int))).heap[ga]? = wr.heap[ga]? := Below.heap_setCell _ _ _ _ (fun e => hne e.symm)
  refine ⟨by simp [h.len], h.mg.fstStep hw hl, hA.keep hk', h.rb.keep hk', grown_set h.grown, ?_⟩
  rw [row_set h.row, splice_set h.len (by omega) hk]
theorem MInv.sndStep {y : Nat} (h : MInv lt full g ga f m ys w wr k pre a (y :: b) A Bq) (hw : WO lt) (hne : g ≠ ga) (hl : a = [] ∨ ∃ x r, a = x :: r ∧ lt y x = true) (hk : f + k < ys.length) {B' : Option Addr} (hB : RA wr ga B' (ints b)) :
    MInv lt full g ga f m ys w (wr.setCell ⟨g, f + k, none⟩ (.int .i64 (y : Int))) (k + 1) (pre ++ [y]) a b A B' := by
  have hk' : (wr.setCell ⟨g, f + k, none⟩ (.int .i64 (y : Int))).heap[ga]? = wr.heap[ga]? := Below.heap_setCell _ _ _ _ (fun e => hne e.symm)
  refine ⟨by simp [h.len], h.mg.sndStep hw hl, h.ra.keep hk', hB.keep hk', grown_set h.grown, ?_⟩
  rw [row_set h.row, splice_set h.len (by omega) hk]
theorem MInv.drew1 (h : MInv lt full g ga f m ys w wr k pre a b A Bq) : MInv lt full g ga f m ys w wr.drew k pre a b A Bq :=
  ⟨h.len, h.mg, h.ra.keep rfl, h.rb.keep rfl, ⟨h.grown.os, h.grown.tape, h.grown.output, h.grown.size, h.grown.block⟩, h.row⟩
theorem MInv.drew (h : MInv lt full g ga f m ys w wr k pre a b A Bq) (q : Nat) : MInv lt full g ga f m ys w (wr.drewN q) k pre a b A Bq :=
  ⟨h.len, h.mg, h.ra.keep rfl, h.rb.keep rfl, grown_drewN h.grown q, h.row⟩
end

set_option maxRecDepth 100000 in
set_option maxHeartbeats 2000000 in
theorem merge_any (gf c1 c2 : Nat) (eg : ∀ args w, (callFunc gf args).run Try.prog w = .ok (.enter gf args) w) (lt : Nat → Nat → Bool) (hw : WO lt) (n B : Nat) (w : World) (ht : Tells gf c1 c2 lt n B w)
    (g ga f m ct ca cb la lb : Nat) (ys a b : List Nat) (A Bq : Option Addr) (hga : g ≠ ga) (hgB : B ≤ g) (hty : f + m ≤ ys.length) (hyl : ys.length ≤ 1000000) (hla : a.length = la) (hlb : b.length = lb) (hlen : la + lb = m) (hct : m ≤ ct) (hcm : ct ≤ maxLen)
    (hg : w.heap[g]? = some (.cells (vals ys).toArray 3 (0, 0))) (hA : RA w ga A (ints a)) (hBq : RA w ga Bq (ints b)) (hgal : ga < w.heap.size) (hca : la ≤ ca) (hcb : lb ≤ cb) (hcam : ca ≤ maxLen) (hcbm : cb ≤ maxLen)
    (hm : Mg lt (a ++ b) [] a b) (hN : ∀ x ∈ a ++ b, x < n) :
    Calls Try.prog 49 #[.slice (some ⟨g, f, none⟩) m ct, .slice A la ca, .slice Bq lb cb, .func (.func gf) #[] #[.pointer (some ⟨c1, 0, none⟩), .pointer (some ⟨c2, 0, none⟩)]] w (MergePost lt (a ++ b) g f (f + m) ys w) := by
  have hI : MInv lt (a ++ b) g ga f m ys w w 0 [] a b A Bq := ⟨rfl, hm, hA, hBq, ⟨rfl, rfl, rfl, Nat.le_refl _, fun _ _ _ => rfl⟩, by rw [List.append_nil, Nat.add_zero, List.take_append_drop]; exact hg⟩
  have HI := Lib.hid hI; have Hla := Lib.hid hla; have Hlb := Lib.hid hlb
  have Hlen := Lib.hid hlen
  have HT := Lib.hid ht
  have Hgl := Lib.hid (lt_of_block hg)
  unfold maxLen at hcm hcam hcbm
  have h0 : la ≤ m := by omega
  have h00 : lb ≤ m := by omega
  clear hI hla hlb hlen hg hA hBq hm ht
  go_enter Try.func49, Try.ntmps49
  go_wp2
  go_loopw [1, 2, 8, 11] (fun s1 s2 _ i wr => ∃ (k la' lb' ca' cb' : Nat) (pre a' b' : List Nat) (A' B' : Option Addr), k ≤ m ∧ i = .int .i64 k ∧ s1 = .slice A' la' ca' ∧ s2 = .slice B' lb' cb' ∧ la' ≤ ca' ∧ lb' ≤ cb' ∧ ca' ≤ 9223372036854775807 ∧ cb' ≤ 9223372036854775807 ∧ la' ≤ m ∧ lb' ≤ m ∧ Hid (k + la' + lb' = m) ∧ Hid (a'.length = la') ∧ Hid (b'.length = lb') ∧ Hid (MInv lt (a ++ b) g ga f m ys w wr k pre a' b' A' B')) (fun _ _ _ i _ => m - (intOf i).toNat)
  case atStart => exact ⟨0, la, lb, ca, cb, [], a, b, A, Bq, Nat.zero_le _, rfl, rfl, rfl, hca, hcb, by omega, by omega, h0, h00, (by have := Hlen.out; omega : 0 + la + lb = m), Hla.out, Hlb.out, HI.out⟩
  case round =>
    obtain ⟨k, la', lb', ca', cb', pre, a', b', A', B', hk, rfl, rfl, rfl, hca', hcb', hcam', hcbm', hlam, hlbm, HK, HLa, HLb, HM⟩ := hrel
    by_cases hlt : k < m
    · have hlt' : (k : Int) < (m : Int) := by omega
      rcases a' with _ | ⟨x, ra⟩
      · have hz : la' = 0 := by have := HLa.out; simpa using this.symm
        subst hz
        rcases b' with _ | ⟨y, rb⟩
        · exfalso
          have h1 := HLb.out; have h2 := HK.out
          simp at h1; omega
        obtain ⟨ob, rfl, hcy⟩ := HM.out.rb.head
        obtain ⟨lr, rfl⟩ : ∃ lr, lb' = lr + 1 := ⟨rb.length, by have := HLb.out; simpa using this.symm⟩
        obtain ⟨vd, hcd, _⟩ := row_cell HM.out.row (i := f + k) (by have := HM.out.len; simp; omega)
        have hfd := row_free HM.out.row (f + k)
        have hz1 : ((0 : Int) == 0) = true := rfl
        by_cases hc1 : cb' = 1
        · obtain rfl : lr = 0 := by omega
          subst hc1
          have hrb : rb = [] := by have := HLb.out; simpa using this
          subst hrb
          go_wp2
          go_quiet (fail)
          go_wp2
          go_region
          go_wp2
          go_roundw
          case rel => exact ⟨k + 1, 0, 0, ca', 0, pre ++ [y], [], [], _, _, by omega, by go_num, rfl, rfl, by omega, by omega, by omega, by omega, by omega, by omega, (by have := HK.out; omega : k + 1 + 0 + 0 = m), HLa.out, rfl, ((HM.out.drew nq).sndStep hw hga (.inl rfl) (by omega) (.inl rfl)).drew1⟩
          case measure => simp [intOf]; omega
        · go_wp2
          go_quiet (fail)
          go_wp2
          go_region
          go_wp2
          go_roundw
          case rel => exact ⟨k + 1, 0, lr, ca', cb' - 1, pre ++ [y], [], rb, _, _, by omega, by go_num, rfl, rfl, by omega, by omega, by omega, by omega, by omega, by omega, (by have := HK.out; omega : k + 1 + 0 + lr = m), HLa.out, (by have := HLb.out; simpa using this : rb.length = lr), ((HM.out.drew nq).sndStep hw hga (.inl rfl) (by omega) ((HM.out.drew nq).rb.tail)).drew1⟩
          case measure => simp [intOf]; omega
      · obtain ⟨oa, rfl, hcx⟩ := HM.out.ra.head
        obtain ⟨lq, rfl⟩ : ∃ lq, la' = lq + 1 := ⟨ra.length, by have := HLa.out; simpa using this.symm⟩
        have hz1 : ((lq : Int) + 1 == 0) = false := by rw [beq_eq_false_iff_ne]; omega
        rcases b' with _ | ⟨y, rb⟩
        · have hz : lb' = 0 := by have := HLb.out; simpa using this.symm
          subst hz
          obtain ⟨vd, hcd, _⟩ := row_cell HM.out.row (i := f + k) (by have := HM.out.len; simp; omega)
          have hfd := row_free HM.out.row (f + k)
          have hz2 : decide ((0 : Int) < 0) = false := rfl
          by_cases hc1 : ca' = 1
          · obtain rfl : lq = 0 := by omega
            subst hc1
            have hra : ra = [] := by have := HLa.out; simpa using this
            subst hra
            go_wp2
            go_quiet (fail)
            go_wp2
            go_region
            go_wp2
            go_roundw
            case rel => exact ⟨k + 1, 0, 0, 0, cb', pre ++ [x], [], [], _, _, by omega, by go_num, rfl, rfl, by omega, by omega, by omega, by omega, by omega, by omega, (by have := HK.out; omega : k + 1 + 0 + 0 = m), rfl, HLb.out, ((HM.out.drew nq).fstStep hw hga (.inl rfl) (by omega) (.inl rfl)).drew1⟩
            case measure => simp [intOf]; omega
          · go_wp2
            go_quiet (fail)
            go_wp2
            go_region
            go_wp2
            go_roundw
            case rel => exact ⟨k + 1, lq, 0, ca' - 1, cb', pre ++ [x], ra, [], _, _, by omega, by go_num, rfl, rfl, by omega, by omega, by omega, by omega, by omega, by omega, (by have := HK.out; omega : k + 1 + lq + 0 = m), (by have := HLa.out; simpa using this : ra.length = lq), HLb.out, ((HM.out.drew nq).fstStep hw hga (.inl rfl) (by omega) ((HM.out.drew nq).ra.tail)).drew1⟩
            case measure => simp [intOf]; omega
        · obtain ⟨ob, rfl, hcy⟩ := HM.out.rb.head
          obtain ⟨lr, rfl⟩ : ∃ lr, lb' = lr + 1 := ⟨rb.length, by have := HLb.out; simpa using this.symm⟩
          have hz2 : decide ((0 : Int) < (lr : Int) + 1) = true := by rw [decide_eq_true_eq]; omega
          have hz3 : (0 : Int) < (lr : Int) + 1 := by omega
          have HN : Hid (y < n ∧ x < n) := by
            have h1 := HM.out.mg.perm
            exact ⟨hN _ (h1.mem_iff.1 (by simp)), hN _ (h1.mem_iff.1 (by simp))⟩
          have HB : Hid (Below B w wr.drew) := ((Below.refl B w).grown HM.out.grown (by have := Hgl.out; omega) (fun k e => by injection e with e; omega)).drew
          cases hbit : lt y x
          · by_cases hc1 : ca' = 1
            · obtain rfl : lq = 0 := by omega
              subst hc1
              have hra : ra = [] := by have := HLa.out; simpa using this
              subst hra
              go_wp2
              go_still_tail 15, (by kernel_rfl)
              change wpList _ _ _ _ _ wr.drew
              have hcall := HT.out wr.drew y x (by have := HN.out; omega) (by have := HN.out; omega) (HB.out)
              rw [hbit] at hcall
              go_wp2_with (go_at_fn gf; refine hcall.mono ?_; rintro e W ⟨rfl, hgw⟩)
              have HM2 : Hid (MInv lt (a ++ b) g ga f m ys w W k pre _ _ _ _) := HM.out.drew1.world hgw (by have := HM.out.grown.size; have := Hgl.out; show g < wr.heap.size; omega) (by have := HM.out.grown.size; show ga < wr.heap.size; omega)
              obtain ⟨_, eo, hcs⟩ := HM2.out.ra.head
              obtain rfl := (Addr.mk.inj (Option.some.inj eo)).2.1
              obtain ⟨vd, hcd, _⟩ := row_cell HM2.out.row (i := f + k) (by have := HM.out.len; simp; omega)
              have hfd := row_free HM2.out.row (f + k)
              clear hgw hcall
              go_wp2
              go_region
              go_wp2
              go_roundw
              case rel => exact ⟨k + 1, 0, lr + 1, 0, cb', pre ++ [x], [], y :: rb, _, _, by omega, by go_num, rfl, rfl, by omega, by omega, by omega, by omega, by omega, by omega, (by have := HK.out; omega : k + 1 + 0 + lr + 1 = m), rfl, HLb.out, ((HM2.out).fstStep hw hga (.inr ⟨y, rb, rfl, hbit⟩) (by omega) (.inl rfl)).drew1⟩
              case measure => simp [intOf]; omega
            · go_wp2
              go_still_tail 15, (by kernel_rfl)
              change wpList _ _ _ _ _ wr.drew
              have hcall := HT.out wr.drew y x (by have := HN.out; omega) (by have := HN.out; omega) (HB.out)
              rw [hbit] at hcall
              go_wp2_with (go_at_fn gf; refine hcall.mono ?_; rintro e W ⟨rfl, hgw⟩)
              have HM2 : Hid (MInv lt (a ++ b) g ga f m ys w W k pre _ _ _ _) := HM.out.drew1.world hgw (by have := HM.out.grown.size; have := Hgl.out; show g < wr.heap.size; omega) (by have := HM.out.grown.size; show ga < wr.heap.size; omega)
              obtain ⟨_, eo, hcs⟩ := HM2.out.ra.head
              obtain rfl := (Addr.mk.inj (Option.some.inj eo)).2.1
              obtain ⟨vd, hcd, _⟩ := row_cell HM2.out.row (i := f + k) (by have := HM.out.len; simp; omega)
              have hfd := row_free HM2.out.row (f + k)
              clear hgw hcall
              go_wp2
              go_region
              go_wp2
              go_roundw
              case rel => exact ⟨k + 1, lq, lr + 1, ca' - 1, cb', pre ++ [x], ra, y :: rb, _, _, by omega, by go_num, rfl, rfl, by omega, by omega, by omega, by omega, by omega, by omega, (by have := HK.out; omega : k + 1 + lq + lr + 1 = m), (by have := HLa.out; simpa using this : ra.length = lq), HLb.out, ((HM2.out).fstStep hw hga (.inr ⟨y, rb, rfl, hbit⟩) (by omega) ((HM2.out).ra.tail)).drew1⟩
              case measure => simp [intOf]; omega
          · by_cases hc1 : cb' = 1
            · obtain rfl : lr = 0 := by omega
              subst hc1
              have hrb : rb = [] := by have := HLb.out; simpa using this
              subst hrb
              go_wp2
              go_still_tail 15, (by kernel_rfl)
              change wpList _ _ _ _ _ wr.drew
              have hcall := HT.out wr.drew y x (by have := HN.out; omega) (by have := HN.out; omega) (HB.out)
              rw [hbit] at hcall
              go_wp2_with (go_at_fn gf; refine hcall.mono ?_; rintro e W ⟨rfl, hgw⟩)
              have HM2 : Hid (MInv lt (a ++ b) g ga f m ys w W k pre _ _ _ _) := HM.out.drew1.world hgw (by have := HM.out.grown.size; have := Hgl.out; show g < wr.heap.size; omega) (by have := HM.out.grown.size; show ga < wr.heap.size; omega)
              obtain ⟨_, eo, hcs⟩ := HM2.out.rb.head
              obtain rfl := (Addr.mk.inj (Option.some.inj eo)).2.1
              obtain ⟨vd, hcd, _⟩ := row_cell HM2.out.row (i := f + k) (by have := HM.out.len; simp; omega)
              have hfd := row_free HM2.out.row (f + k)
              clear hgw hcall
              go_wp2
              go_region
              go_wp2
              go_roundw
              case rel => exact ⟨k + 1, lq + 1, 0, ca', 0, pre ++ [y], x :: ra, [], _, _, by omega, by go_num, rfl, rfl, by omega, by omega, by omega, by omega, by omega, by omega, (by have := HK.out; omega : k + 1 + lq + 1 + 0 = m), HLa.out, rfl, ((HM2.out).sndStep hw hga (.inr ⟨x, ra, rfl, hbit⟩) (by omega) (.inl rfl)).drew1⟩
              case measure => simp [intOf]; omega
            · go_wp2
              go_still_tail 15, (by kernel_rfl)
              change wpList _ _ _ _ _ wr.drew
              have hcall := HT.out wr.drew y x (by have := HN.out; omega) (by have := HN.out; omega) (HB.out)
              rw [hbit] at hcall
              go_wp2_with (go_at_fn gf; refine hcall.mono ?_; rintro e W ⟨rfl, hgw⟩)
              have HM2 : Hid (MInv lt (a ++ b) g ga f m ys w W k pre _ _ _ _) := HM.out.drew1.world hgw (by have := HM.out.grown.size; have := Hgl.out; show g < wr.heap.size; omega) (by have := HM.out.grown.size; show ga < wr.heap.size; omega)
              obtain ⟨_, eo, hcs⟩ := HM2.out.rb.head
              obtain rfl := (Addr.mk.inj (Option.some.inj eo)).2.1
              obtain ⟨vd, hcd, _⟩ := row_cell HM2.out.row (i := f + k) (by have := HM.out.len; simp; omega)
              have hfd := row_free HM2.out.row (f + k)
              clear hgw hcall
              go_wp2
              go_region
              go_wp2
              go_roundw
              case rel => exact ⟨k + 1, lq + 1, lr, ca', cb' - 1, pre ++ [y], x :: ra, rb, _, _, by omega, by go_num, rfl, rfl, by omega, by omega, by omega, by omega, by omega, by omega, (by have := HK.out; omega : k + 1 + lq + 1 + lr = m), HLa.out, (by have := HLb.out; simpa using this : rb.length = lr), ((HM2.out).sndStep hw hga (.inr ⟨x, ra, rfl, hbit⟩) (by omega) ((HM2.out).rb.tail)).drew1⟩
              case measure => simp [intOf]; omega
    · have hge : ¬ (k : Int) < (m : Int) := by omega
      obtain rfl : k = m := by omega
      have hz : la' = 0 ∧ lb' = 0 := by have := HK.out; omega
      obtain ⟨rfl, rfl⟩ := hz
      have ha : a' = [] := List.length_eq_zero_iff.1 HLa.out
      have hb : b' = [] := List.length_eq_zero_iff.1 HLb.out
      subst ha; subst hb
      go_wp2
      go_end0
      exact ⟨rfl, HM.out.grown, pre, HM.out.mg, HM.out.row⟩
end Go.Proofs.Ytakgkfdbgjljkaa.Rank
