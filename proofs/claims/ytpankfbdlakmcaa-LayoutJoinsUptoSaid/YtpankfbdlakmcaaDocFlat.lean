/-
  Layer 7 (doc): Flat: the flat text, and whether there is no hard.
-/
import Derived.Test.YtpankfbdlakmcaaDocBuilder
namespace Go.Proofs.Ytpankfbdlakmcaa.Doc
open Go.ChangeShapes Go.WideShapes Go.ChangeAt Go.RowKit Mem
set_option linter.unusedVariables false

/-- A piece's bytes where it is flat; all; no hard among them. -/
def pB (p : Pc) : List UInt8 := if p.1 = 1 then p.2.data.toList else if p.1 = 2 then [32] else []
def flB (l : List Pc) : List UInt8 := l.flatMap pB
def noHard (l : List Pc) : Bool := l.all fun p => !(p.1 == 4)
def flS (l : List Pc) : ByteArray := if noHard l = true then ⟨(flB l).toArray⟩ else emp
theorem flB_app (l m : List Pc) : flB (l ++ m) = flB l ++ flB m := by simp [flB]
theorem noHard_app (l m : List Pc) : noHard (l ++ m) = (noHard l && noHard m) := by simp [noHard]

/-- The Builder, and the bool, that Flat's function holds. -/
def FlI (B0 zb zf : Nat) (W : World) (pre : List Pc) : Prop := Lib.IsBuilderF 62 5 B0 zb (Lib.byteCells (flB pre)) W ∧ W.heap[zf]? = some (Obj.cells #[.bool (noHard pre)] 4 (0, 0))
section
variable {B0 b : Nat} {bs : List Value} {p : Value} {W W' : World}
theorem QK.at_ (h : QK W W') (hb : Lib.BuilderAtF 62 5 B0 b p bs W) : Lib.BuilderAtF 62 5 B0 b p bs W' := by
  obtain ⟨h1, v, h2, h3, h4⟩ := hb
  refine ⟨h1, v, h.block _ _ _ _ h2 (by decide), ⟨h3.1, ?_⟩, h4⟩
  rcases h3.2 with hn | ⟨g, cap, cur, fz, e, q1, q2, q3⟩
  · exact .inl hn
  · exact .inr ⟨g, cap, cur, fz, e, q1, h.block _ _ _ _ q2 (by decide), q3⟩
theorem QK.is (h : QK W W') (hb : Lib.IsBuilderF 62 5 B0 b bs W) : Lib.IsBuilderF 62 5 B0 b bs W' := hb.elim (fun x => .inl (h.at_ x)) (fun x => .inr (h.at_ x))
theorem is_block (hb : Lib.IsBuilderF 62 5 B0 b bs W) : B0 ≤ b ∧ ∃ cs fz, W.heap[b]? = some (Obj.cells cs 62 fz) := by
  rcases hb with ⟨h1, v, h2, _⟩ | ⟨h1, v, h2, _⟩ <;> exact ⟨h1, _, _, h2⟩
theorem Kept.others (hbl : Below B0 W W') (ho : Lib.OthersKept 5 (some b) W W') (hb : Lib.IsBuilderF 62 5 B0 b bs W) : Kept B0 W W' := by
  obtain ⟨_, cs, fz, hz⟩ := is_block hb
  refine ⟨hbl.os, hbl.tape, hbl.output, hbl.size, fun k o hk hc => ?_⟩
  rcases hc with hc | hc
  · exact (hbl.block k hc).trans hk
  · refine ho k o hk (fun e => ?_) (fun c f e => hc _ _ _ e (by decide))
    injection e with e
    subst e
    rw [hz] at hk
    cases hk
    exact hc _ _ _ rfl (by decide)
end
theorem others_box {zb zf : Nat} {cs : Array Value} {W W' : World} {B0 : Nat} {bs : List Value} (ho : Lib.OthersKept 5 (some zb) W W') (hb : Lib.IsBuilderF 62 5 B0 zb bs W) (h : W.heap[zf]? = some (Obj.cells cs 4 (0, 0))) : W'.heap[zf]? = some (Obj.cells cs 4 (0, 0)) := by
  obtain ⟨_, cs', fz, hz⟩ := is_block hb
  refine ho zf _ h (fun e => ?_) (fun c f e => by cases e)
  injection e with e
  subst e
  rw [hz] at h
  cases h
theorem is_other {B0 b r : Nat} {bs : List Value} {W W' : World} (hg : W.grownBy W' (some r)) (hb : Lib.IsBuilderF 62 5 B0 b bs W) (hr : ∀ cs T fz, W.heap[r]? = some (Obj.cells cs T fz) → T ≠ 62 ∧ T ≠ 5) : Lib.IsBuilderF 62 5 B0 b bs W' := by
  have hk : ∀ k cs T fz, W.heap[k]? = some (Obj.cells cs T fz) → (T = 62 ∨ T = 5) → W'.heap[k]? = some (Obj.cells cs T fz) := fun k cs T fz h hT => (hg.block k (lt_of h) (fun e => by
    injection e with e
    subst e
    have := hr _ _ _ h
    rcases hT with hT | hT
    · exact this.1 hT
    · exact this.2 hT)).trans h
  have hat : ∀ p, Lib.BuilderAtF 62 5 B0 b p bs W → Lib.BuilderAtF 62 5 B0 b p bs W' := fun p hb => by
    obtain ⟨h1, v, h2, h3, h4⟩ := hb
    refine ⟨h1, v, hk _ _ _ _ h2 (.inl rfl), ⟨h3.1, ?_⟩, h4⟩
    rcases h3.2 with hn | ⟨g, cap, cur, fz, e, q1, q2, q3⟩
    · exact .inl hn
    · exact .inr ⟨g, cap, cur, fz, e, q1, hk _ _ _ _ q2 (.inr rfl), q3⟩
  exact hb.elim (fun x => .inl (hat _ x)) (fun x => .inr (hat _ x))
set_option maxRecDepth 100000 in
set_option maxHeartbeats 2000000 in
theorem flat_sink (zb zf B0 : Nat) (hB : B0 ≤ zf) (full : List Pc) (hf : (flB full).length ≤ 140737488355328) : Sink B0 (FlI B0 zb zf) full 36 #[.pointer (some ⟨zb, 0, none⟩), .pointer (some ⟨zf, 0, none⟩)] := by
  refine ⟨fun W W' pre h hk => ⟨hk.is h.1, hk.block _ _ _ _ h.2 (by decide)⟩, fun W pre p h hr => ?_, enters_of Try.func36 (by kernel_rfl) rfl⟩
  obtain ⟨rest, hr⟩ := hr
  have hlen : (flB pre).length + (pB p).length ≤ 140737488355328 := by
    have e : flB full = flB pre ++ (pB p ++ flB rest) := by rw [← hr, flB_app]; rfl
    rw [e] at hf
    simp only [List.length_append] at hf
    omega
  obtain ⟨k, x⟩ := p
  show Calls _ _ #[.agg #[.int .i64 k, .string x], .pointer (some ⟨zb, 0, none⟩), .pointer (some ⟨zf, 0, none⟩)] _ _
  obtain ⟨hbu, hfl⟩ := h
  have hb := (Below.refl W.heap.size W).alloc (Nat.le_refl _) (.cells #[.int .i64 k, .string x] 45)
  obtain ⟨hc0, hc1⟩ := cl2 (heap_alloc_new W (.cells #[.int .i64 k, .string x] 45))
  have hbu1 := (QK.ofB hb).is hbu
  have hfl1 := (hb.block zf (lt_of hfl)).trans hfl
  have hBw : B0 ≤ (W.alloc (.cells #[.int .i64 k, .string x] 45)).heap.size := by have := lt_of hfl1; omega
  have HB := Lib.hid hb
  have HBU := Lib.hid hbu1
  have HFL := Lib.hid hfl1
  have e1 : flB (pre ++ [((k, x) : Pc)]) = flB pre ++ pB (k, x) := by rw [flB_app]; simp [flB]
  have e2 : noHard (pre ++ [((k, x) : Pc)]) = (noHard pre && !(k == 4)) := by rw [noHard_app]; simp [noHard]
  have HE1 := Lib.hid e1
  have HE2 := Lib.hid e2
  have HLEN := Lib.hid hlen
  clear hr hbu hfl hb hbu1 e1 e2 hlen hf
  by_cases k1 : k = 1
  · subst k1
    have HC := Lib.hid (writeString_any B0 zb (Lib.byteCells (flB pre)) x _ HBU.out (by have := HLEN.out; rw [Lib.byteCells_length]; unfold pB at this; rw [if_pos rfl] at this; simp only [Array.length_toList] at this; exact this) hBw)
    go_enter Try.func36, Try.ntmps36
    go_wp2_with fail
    refine HC.out.mono ?_
    rintro e w2 ⟨rfl, h2, hb2, ho2⟩
    have HI : Hid (FlI B0 zb zf w2 (pre ++ [((1, x) : Pc)])) := ⟨by rw [HE1.out]; rw [show Lib.byteCells (flB pre ++ pB ((1, x) : Pc)) = Lib.byteCells (flB pre) ++ Lib.strCells x from by simp [Lib.byteCells, pB, Lib.strCells]]; exact .inr h2, by rw [HE2.out, show (noHard pre && !((1 : Int) == 4)) = noHard pre from by simp]; exact others_box ho2 HBU.out HFL.out⟩
    have HK := Lib.hid ((Kept.ofB HB.out : Kept B0 _ _).trans (Kept.others hb2 ho2 HBU.out))
    clear h2 hb2 ho2 HC
    go_wp2
    go_end0
    exact ⟨rfl, HI.out, HK.out⟩
  · have k1' : (k == 1) = false := by simpa using k1
    by_cases k2 : k = 2
    · subst k2
      have HC := Lib.hid (writeByte_any B0 zb (Lib.byteCells (flB pre)) 32 _ HBU.out (by have := HLEN.out; rw [Lib.byteCells_length]; unfold pB at this; rw [if_neg (show ¬ (2 : Int) = 1 by decide), if_pos rfl] at this; simpa using this) hBw)
      go_enter Try.func36, Try.ntmps36
      go_wp2_with fail
      refine HC.out.mono ?_
      rintro e w2 ⟨rfl, h2, hb2, ho2⟩
      have HI : Hid (FlI B0 zb zf w2 (pre ++ [((2, x) : Pc)])) := ⟨by rw [HE1.out]; rw [show Lib.byteCells (flB pre ++ pB ((2, x) : Pc)) = Lib.byteCells (flB pre) ++ [.int .u8 32] from by simp [Lib.byteCells, pB]]; exact .inr h2, by rw [HE2.out, show (noHard pre && !((2 : Int) == 4)) = noHard pre from by simp]; exact others_box ho2 HBU.out HFL.out⟩
      have HK := Lib.hid ((Kept.ofB HB.out : Kept B0 _ _).trans (Kept.others hb2 ho2 HBU.out))
      clear h2 hb2 ho2 HC
      go_wp2
      go_end0
      exact ⟨rfl, HI.out, HK.out⟩
    · have k2' : (k == 2) = false := by simpa using k2
      have hp : pB ((k, x) : Pc) = [] := by unfold pB; rw [if_neg k1, if_neg k2]
      by_cases k4 : k = 4
      · subst k4
        have hcf := cl0 HFL.out
        have hfz := frz HFL.out 0
        have hset := set_at HFL.out 0 (.bool false)
        simp only [List.setIfInBounds_toArray, List.set_cons_zero] at hset
        have hg := grownBy_setCell' (W.alloc (.cells #[.int .i64 4, .string x] 45)) zf (.bool false)
        have HI : Hid (FlI B0 zb zf ((W.alloc (.cells #[.int .i64 4, .string x] 45)).setCell ⟨zf, 0, none⟩ (.bool false)) (pre ++ [((4, x) : Pc)])) := ⟨by
          rw [HE1.out, hp, List.append_nil]
          refine is_other hg HBU.out (fun cs T fz e => ?_)
          rw [HFL.out] at e; cases e
          exact ⟨by decide, by decide⟩, by rw [HE2.out]; simpa using hset⟩
        have HK := Lib.hid ((Kept.ofB HB.out : Kept B0 _ _).trans (Kept.set HFL.out (by decide) hB (.bool false)))
        clear hset hg hp
        go_enter Try.func36, Try.ntmps36
        go_wp2
        go_end0
        exact ⟨rfl, HI.out, HK.out⟩
      · have k4' : (k == 4) = false := by simpa using k4
        have HI : Hid (FlI B0 zb zf (W.alloc (.cells #[.int .i64 k, .string x] 45)) (pre ++ [((k, x) : Pc)])) := ⟨by rw [HE1.out, hp, List.append_nil]; exact HBU.out, by rw [HE2.out, k4']; simpa using HFL.out⟩
        have HK := Lib.hid (Kept.ofB HB.out : Kept B0 _ _)
        clear hp
        go_enter Try.func36, Try.ntmps36
        go_wp2
        go_end0
        exact ⟨rfl, HI.out, HK.out⟩

/-! ### Flat -/
def FlatPost (l : List Pc) (w : World) (e : Ending) (w' : World) : Prop := e = .returned (.tuple #[.string (flS l), .bool (noHard l)]) ∧ Below w.heap.size w w'
set_option maxRecDepth 100000 in
set_option maxHeartbeats 4000000 in
theorem flat_any (nd : Nd) (s : Value) (w : World) (hN : nsize nd ≤ 100000) (hs : Gs w (Db w) s nd.c) (hok : okN nd) (hl : (flB (pcs1 nd)).length ≤ 140737488355328) :
    Calls Try.prog 20 #[.agg #[.int .i64 nd.k, .string nd.x, s]] w (FlatPost (pcs1 nd) w) := by
  obtain ⟨A, C, hsl, hnC, hC⟩ := hs.slice
  have hb1 := (Below.refl w.heap.size w).alloc (Nat.le_refl _) (.cells #[.int .i64 nd.k, .string nd.x, s] 32)
  have hx1 : (w.alloc (.cells #[.int .i64 nd.k, .string nd.x, s] 32)).heap[w.heap.size]? = some (Obj.cells #[.int .i64 nd.k, .string nd.x, s] 32 (0, 0)) := heap_alloc_new _ _
  have hz1 : (w.alloc (.cells #[.int .i64 nd.k, .string nd.x, s] 32)).heap.size = w.heap.size + 1 := World.size_alloc _ _
  have hs1 := hs.dbB hb1
  obtain ⟨w1, hw1⟩ : ∃ w1, w.alloc (.cells #[.int .i64 nd.k, .string nd.x, s] 32) = w1 := ⟨_, rfl⟩
  rw [hw1] at hb1 hx1 hz1 hs1
  have hb2 := (Below.refl w1.heap.size w1).alloc (Nat.le_refl _) (.cells #[.pointer none, .slice none 0 0] 62)
  have hx2 : (w1.alloc (.cells #[.pointer none, .slice none 0 0] 62)).heap[w1.heap.size]? = some (Obj.cells #[.pointer none, .slice none 0 0] 62 (0, 0)) := heap_alloc_new _ _
  have hz2 : (w1.alloc (.cells #[.pointer none, .slice none 0 0] 62)).heap.size = w1.heap.size + 1 := World.size_alloc _ _
  have hs2 := hs1.dbB hb2
  obtain ⟨w2, hw2⟩ : ∃ w2, w1.alloc (.cells #[.pointer none, .slice none 0 0] 62) = w2 := ⟨_, rfl⟩
  rw [hw2] at hb2 hx2 hz2 hs2
  have hb3 := (Below.refl w2.heap.size w2).alloc (Nat.le_refl _) (.cells #[.bool true] 4)
  have hx3 : (w2.alloc (.cells #[.bool true] 4)).heap[w2.heap.size]? = some (Obj.cells #[.bool true] 4 (0, 0)) := heap_alloc_new _ _
  have hz3 : (w2.alloc (.cells #[.bool true] 4)).heap.size = w2.heap.size + 1 := World.size_alloc _ _
  have hs3 := hs2.dbB hb3
  obtain ⟨w3, hw3⟩ : ∃ w3, w2.alloc (.cells #[.bool true] 4) = w3 := ⟨_, rfl⟩
  rw [hw3] at hb3 hx3 hz3 hs3
  have hx2' := (hb3.block w1.heap.size (by omega)).trans hx2
  have hx1' := (hb3.block w.heap.size (by omega)).trans ((hb2.block w.heap.size (by omega)).trans hx1)
  obtain ⟨q0, q1, q2⟩ := cl3 hx1'
  have hI : FlI w.heap.size w1.heap.size w2.heap.size w3 [] := ⟨.inl ⟨by omega, _, hx2', ⟨by simp [Lib.byteCells, flB], .inl ⟨rfl, by simp [Lib.byteCells, flB]⟩⟩, by simp [Value.ownBlock]⟩, hx3⟩
  have HE1 := Lib.hid (each_any nd s w3 (flat_sink w1.heap.size w2.heap.size w.heap.size (by omega) (pcs1 nd) hl) (by omega) hs3 hok hI)
  have HB3 := Lib.hid (hb1.trans ((hb2.mono (by omega)).trans (hb3.mono (by omega))))
  have HW : Hid (((w.alloc (.cells #[.int .i64 nd.k, .string nd.x, s] 32)).alloc (.cells #[.pointer none, .slice none 0 0] 62)).alloc (.cells #[.bool true] 4) = w3) := by show _ = _; rw [hw1, hw2, hw3]
  clear hb1 hx1 hs1 hw1 hb2 hx2 hs2 hw2 hb3 hx3 hs3 hw3 hx1' hx2' hs hok hI hl
  obtain ⟨k, x, c⟩ := nd
  dsimp only at HE1 HW q0 q1 q2 hsl ⊢
  rw [hz1] at HE1 hz2
  rw [hz2] at HE1 hz3
  subst hsl
  clear hz1 hz2
  rw [← HW.out] at q0 q1 q2
  go_enter Try.func20, Try.ntmps20
  go_wp2_with fail
  rw [HW.out]
  refine HE1.out.mono ?_
  rintro e w4 ⟨rfl, ⟨hbu, hfl⟩, hk⟩
  have hcf := cl0 hfl
  have hb4 := (Kept.trans (Kept.ofB HB3.out) hk).below (Nat.le_refl _)
  have hbw := hb4.size
  have HB4 := Lib.hid hb4
  obtain ⟨l, hl⟩ : ∃ l, pcs1 (⟨k, x, c⟩ : Nd) = l := ⟨_, rfl⟩
  rw [hl] at hbu hcf ⊢
  have HL := Lib.hid hl
  have HST := Lib.hid (Try.Builder_String_any_k w.heap.size (w.heap.size + 1) (flB l) w4 hbu hbw)
  clear hbu hfl hk hb4 q0 q1 q2 HE1 HW hl
  cases hn : noHard l with
  | false =>
    have HP : Hid (FlatPost l w (.returned (.tuple #[.string ⟨#[]⟩, .bool false])) w4) := ⟨by unfold flS; rw [hn]; rfl, HB4.out⟩
    rw [hn] at hcf
    clear hn HST
    go_wp2
    go_ret2
    rw [HL.out]
    exact HP.out
  | true =>
    have HN := Lib.hid hn
    rw [hn] at hcf
    clear hn
    go_wp2_with fail
    refine HST.out.mono ?_
    rintro e w5 ⟨rfl, _, hb5, _⟩
    have HP : Hid (FlatPost l w (.returned (.tuple #[.string ⟨(flB l).toArray⟩, .bool true])) w5) := ⟨by unfold flS; rw [HN.out]; rfl, HB4.out.trans hb5⟩
    clear hb5
    go_wp2
    go_ret2
    rw [HL.out]
    exact HP.out
end Go.Proofs.Ytpankfbdlakmcaa.Doc
