/-
  Layer 3 (rank): the law on rows that only grow: the walk.
-/
import Derived.Test.YtakgkfdbgjljkaaRankAll
import Derived.Test.YtakgkfdbgjljkaaRankTextsLaw
import Derived.Test.YtakgkfdbgjljkaaRankEnd
import Derived.Sort.CutIn
import Derived.Deep.Cut
namespace Go.Proofs.Ytakgkfdbgjljkaa.Rank
open Go.ChangeShapes Go.WideShapes Go.ChangeAt Go.RowKit Go.Shelf MemC
set_option linter.unusedVariables false

attribute [local go_sem] Oper.semAt_some

/-- The law's own variables: the list, the number at which it stops, the result. -/
structure Own3 (w W : World) (A : Option Addr) (m cap : Nat) (stop : Int) : Prop where
  below : Below w.heap.size w W
  l : W.heap[w.heap.size]? = some (.cells #[.slice A m cap] 22 (0, 0))
  s : W.heap[w.heap.size + 1]? = some (.cells #[.int .i64 stop] 3 (0, 0))
  r : W.heap[w.heap.size + 2]? = some (.cells #[.bool false] 4 (0, 0))

theorem own3_set {w W : World} {A : Option Addr} {n c m : Nat} {stop : Int} (h : Own3 w W A n c stop) : Own3 w (W.setCell ⟨w.heap.size, 0, none⟩ (.slice A m c)) A m c stop :=
  ⟨h.below.setCell (by exact Nat.le_refl _) _, one_setCell h.l, (Below.heap_setCell _ _ _ _ (by show w.heap.size + 1 ≠ w.heap.size; omega)).trans h.s, (Below.heap_setCell _ _ _ _ (by show w.heap.size + 2 ≠ w.heap.size; omega)).trans h.r⟩
theorem take_get (xs : List Int) (i : Nat) (h : i < xs.length) : xs.take (i + 1) = xs.take i ++ [xs.getD i 0] := by
  rw [List.take_succ_eq_append_getElem h]; simp [List.getD, h]
theorem take_getS (xs : List ByteArray) (i : Nat) (h : i < xs.length) : xs.take (i + 1) = xs.take i ++ [xs.getD i ⟨#[]⟩] := by
  rw [List.take_succ_eq_append_getElem h]; simp [List.getD, h]
theorem own_keep {w W W' : World} {B g : Nat} (h : Below w.heap.size w W) (k : KeepT B g W W') (hB : w.heap.size ≤ B) (hg : w.heap.size ≤ g) : Below w.heap.size w W' :=
  h.trans ⟨k.os, k.tape, k.output, k.size, fun i hi => k.block i (by omega) (by omega)⟩
theorem nine_new (w W : World) (A : Option Addr) (m cap : Nat) (stop : Int) (h : Own3 w W A m cap stop) : let W6 := ((W.alloc (.cells #[.slice none 0 0, .pointer none] 41)).alloc (.cells #[.slice none 0 0, .pointer none] 41)).alloc (.cells #[.slice none 0 0, .pointer none] 43)
    Own3 w W6 A m cap stop ∧ W6.heap[W.heap.size]? = some (.cells #[.slice none 0 0, .pointer none] 41) ∧ W6.heap[W.heap.size + 1]? = some (.cells #[.slice none 0 0, .pointer none] 41) ∧ W6.heap[W.heap.size + 2]? = some (.cells #[.slice none 0 0, .pointer none] 43) ∧ W6.heap.size = W.heap.size + 3 ∧ w.heap.size + 2 < W.heap.size := by
  have e1 : (W.alloc (.cells #[.slice none 0 0, .pointer none] 41)).heap.size = W.heap.size + 1 := World.size_alloc _ _
  have e2 : ((W.alloc (.cells #[.slice none 0 0, .pointer none] 41)).alloc (.cells #[.slice none 0 0, .pointer none] 41)).heap.size = W.heap.size + 2 := by rw [World.size_alloc, e1]
  have e3 : (((W.alloc (.cells #[.slice none 0 0, .pointer none] 41)).alloc (.cells #[.slice none 0 0, .pointer none] 41)).alloc (.cells #[.slice none 0 0, .pointer none] 43)).heap.size = W.heap.size + 3 := by rw [World.size_alloc, e2]
  have hr := lt_of_block h.r
  have hs := lt_of_block h.s
  have hl := lt_of_block h.l
  have hb : Below W.heap.size W (((W.alloc (.cells #[.slice none 0 0, .pointer none] 41)).alloc (.cells #[.slice none 0 0, .pointer none] 41)).alloc (.cells #[.slice none 0 0, .pointer none] 43)) := (((Below.refl _ _).alloc (Nat.le_refl _) _).alloc (by rw [e1]; omega) _).alloc (by rw [e2]; omega) _
  refine ⟨⟨h.below.trans (hb.mono h.below.size), (hb.block _ hl).trans h.l, (hb.block _ hs).trans h.s, (hb.block _ hr).trans h.r⟩, ?_, ?_, ?_, e3, hr⟩
  · rw [Below.heap_alloc _ _ _ (by rw [e2]; omega), Below.heap_alloc _ _ _ (by rw [e1]; omega)]; exact heap_alloc_new' _ _
  · rw [Below.heap_alloc _ _ _ (by rw [e2]; omega)]
    have := heap_alloc_new' (W.alloc (.cells #[.slice none 0 0, .pointer none] 41)) (.cells #[.slice none 0 0, .pointer none] 41)
    rw [e1] at this; exact this
  · have := heap_alloc_new' ((W.alloc (.cells #[.slice none 0 0, .pointer none] 41)).alloc (.cells #[.slice none 0 0, .pointer none] 41)) (.cells #[.slice none 0 0, .pointer none] 43)
    rw [e2] at this; exact this

theorem own3_new (w : World) (A : Option Addr) (n cap : Nat) (stop : Int) : Own3 w (((w.alloc (.cells #[.slice A n cap] 22)).alloc (.cells #[.int .i64 stop] 3)).alloc (.cells #[.bool false] 4)) A n cap stop := by
  have e1 : (w.alloc (.cells #[.slice A n cap] 22)).heap.size = w.heap.size + 1 := World.size_alloc _ _
  have e2 : ((w.alloc (.cells #[.slice A n cap] 22)).alloc (.cells #[.int .i64 stop] 3)).heap.size = w.heap.size + 2 := by rw [World.size_alloc, e1]
  refine ⟨(((Below.refl _ _).alloc (Nat.le_refl _) _).alloc (by rw [e1]; omega) _).alloc (by rw [e2]; omega) _, ?_, ?_, ?_⟩
  · rw [Below.heap_alloc _ _ _ (by rw [e2]; omega), Below.heap_alloc _ _ _ (by rw [e1]; omega)]; exact heap_alloc_new' _ _
  · rw [Below.heap_alloc _ _ _ (by rw [e2]; omega)]
    have := heap_alloc_new' (w.alloc (.cells #[.slice A n cap] 22)) (.cells #[.int .i64 stop] 3)
    rw [e1] at this; exact this
  · have := heap_alloc_new' ((w.alloc (.cells #[.slice A n cap] 22)).alloc (.cells #[.int .i64 stop] 3)) (.cells #[.bool false] 4)
    rw [e2] at this; exact this

theorem cell_of_two {w : World} {g : Nat} {u v : Value} {T : TypeId} (h : w.heap[g]? = some (.cells #[u, v] T (0, 0))) : w.cell? ⟨g, 0, none⟩ = some u := by simp [World.cell?, h]
theorem str_ne (y : ByteArray) : (y != y) = false := by
  have : (y == y) = true := by
    cases y with | mk d =>
    show (d == d) = true
    simp
  simp [bne, this]
theorem range_any {α : Type} {F : Fence} {P : Program} {n : Nat} {g : Operand} {ps : Array Tmp} {assign body : Code} {Q : Exit → Act → World → Prop} {a : Act} {w : World}
    (hro : F.round = none) (h1 : 1 ≤ n) {gf : Nat} {lb : Array Value} (hg : a.eval g = .func (.func gf) #[] lb) (hFg : F.fn gf) (eg : ∀ args w, (callFunc gf args).run P w = .ok (.enter gf args) w)
    {encs : α → Array Value} {Kp : World → World → Prop} {S Sp : List α → Prop} {N : Nat} (hseq : SeqStopsK F (n - 1) P gf lb encs Kp S Sp N w)
    (hKt : ∀ {A B C : World}, Kp A B → Kp B C → Kp A C) (hKb : ∀ (W : World) (l : Nat) (o o' : Obj), w.heap.size ≤ l → W.heap[l]? = some o → o.isCells = false → o.isWalk = false → Kp W (W.putObj l o')) (hps : ∀ x, (encs x).size = ps.size)
    (I : List α → World → Prop) (Ix : Code → List α → World → Prop) (J : World → Prop) (hI : OwnFrom w.heap.size I) (hIx : ∀ c, OwnFrom w.heap.size (Ix c)) (h0 : I [] w)
    (hd : ∀ ys W, S ys → I ys W → J W)
    (hs : ∀ c pre W, Sp pre → Ix c pre W → J W ∧ ∀ a', Q .normal a' W → c.wpIn F n P Q a' W)
    (hround : ∀ x : α, ∃ a₁ : Act, (∀ (l : Nat) (W : World) (K : Act → World → Prop), K a₁ W →
      assign.wpIn (F.inRound l) (n - 1 - 1) P (Exit.then K (fun _ _ _ => False)) { tmps := (ps.zip (encs x)).foldl (fun t (p, v) => t.setIfInBounds p v) a.tmps, defers := [] } W) ∧
      (∀ (l : Nat) (pre : List α) (W : World), I pre W → pre.length < N → body.wpIn (F.inRound l) (n - 1 - 1) P (ownPostG w.heap.size Kp I Ix (pre ++ [x]) W) a₁ W))
    (hrest : ∀ (D : Nat) (W : World), w.heap.size ≤ D → J W → W.heap[D]? = some (.deferred (some [])) → Q .normal { a with defers := { target := .collected D, args := #[] } :: a.defers } W) :
    (Code.rangeFunc g ps assign body).wpIn F n P Q a w :=
  wpIn_rangeFunc_ownG hro h1 hg hFg eg hseq hKt hKb (Below.refl _ _) hps I Ix hI hIx h0 (fun x => (hround x).choose) (fun l x W K hK => (hround x).choose_spec.1 l W K hK) (fun l pre x W hi hc => (hround x).choose_spec.2 l pre W hi hc)
    (fun D ys W hD hS hi hK => hrest D W hD (hd ys W hS hi) hK) (fun D c pre W hD hS hi hK => (hs c pre W hS hi).2 _ (hrest D W hD (hs c pre W hS hi).1 hK))

/-- The counter's box and what lies below it. -/
structure Cnt (N k : Nat) (W9 W : World) : Prop where
  box : W.heap[N]? = some (.cells #[.int .i64 (k : Int)] 3 (0, 0))
  below : Below N W9 W
theorem Cnt.own {N k S : Nat} {W9 X Y : World} {row : Option Nat} (h : Cnt N k W9 X) (hN : N ≤ S) (hg : X.grownBy Y row) (hr : ∀ r, row = some r → S ≤ r ∧ ∃ o : Obj, X.heap[r]? = some o ∧ o.isCells = false) : Cnt N k W9 Y := by
  refine ⟨(hg.block N (lt_of_block h.box) (fun e => ?_)).trans h.box, h.below.grown hg (Nat.le_of_lt (lt_of_block h.box)) (fun k e => by have := (hr k e).1; omega)⟩
  · obtain ⟨o, ho1, ho2⟩ := (hr N e.symm).2
    rw [h.box] at ho1; cases ho1; cases ho2
theorem Cnt.put {N k : Nat} {W9 W : World} (h : Cnt N k W9 W) : Cnt N (k + 1) W9 (W.setCell ⟨N, 0, none⟩ (.int .i64 ((k : Int) + 1))) :=
  ⟨by rw [show ((k + 1 : Nat) : Int) = (k : Int) + 1 by omega]; exact one_setCell h.box, h.below.setCell (by exact Nat.le_refl _) _⟩
theorem own_nine (W8 : World) (N : Nat) (hN : W8.heap.size = N) (At : Option Addr) (m ct : Nat) : ((W8.alloc (.cells #[.int .i64 0] 3)).alloc (.cells #[.slice At m ct] 22)).heap.size = N + 2 ∧
    ((W8.alloc (.cells #[.int .i64 0] 3)).alloc (.cells #[.slice At m ct] 22)).heap[N]? = some (.cells #[.int .i64 ((0 : Nat) : Int)] 3 (0, 0)) ∧
    ((W8.alloc (.cells #[.int .i64 0] 3)).alloc (.cells #[.slice At m ct] 22)).cell? ⟨N + 1, 0, none⟩ = some (.slice At m ct) := by
  subst hN
  have e1 : (W8.alloc (.cells #[.int .i64 0] 3)).heap.size = W8.heap.size + 1 := World.size_alloc _ _
  refine ⟨by rw [World.size_alloc, e1], ?_, ?_⟩
  · rw [Below.heap_alloc _ _ _ (by rw [e1]; omega)]; exact heap_alloc_new' _ _
  · have := heap_alloc_new' (W8.alloc (.cells #[.int .i64 0] 3)) (.cells #[.slice At m ct] 22)
    rw [e1] at this
    exact cell_of_one this

set_option maxRecDepth 100000 in
set_option maxHeartbeats 4000000 in
theorem rankTables_in (A : Option Addr) (n cap : Nat) (xs : List Int) (A2 : Option Addr) (n2 cap2 : Nat) (ws : List ByteArray) (stop : Int) (w : World) (hx : xs.length = min n 300) (hcap : n ≤ cap) (hcap' : cap ≤ maxLen) (h : RI w w.heap.size A xs)
    (hx2 : ws.length = min n2 300) (hcap2 : n2 ≤ cap2) (hcap2' : cap2 ≤ maxLen) (h2 : RS w w.heap.size A2 ws) :
    CallsIn Fence.wide 5 Try.prog 7 #[.slice A n cap, .slice A2 n2 cap2, .int .i64 stop] w (True1 w) := by
  have H := Lib.hid h
  have Hn := Lib.hid hx
  have H2 := Lib.hid h2
  have Hn2 := Lib.hid hx2
  unfold maxLen at hcap' hcap2'
  clear h hx h2 hx2
  have hO : Hid (Own3 w (((w.alloc (.cells #[.slice A n cap] 22)).alloc (.cells #[.int .i64 stop] 3)).alloc (.cells #[.bool false] 4)) A n cap stop) := own3_new w A n cap stop
  refine callsIn_of_wp_marks Try.func7 rfl trivial ?_ rfl
  simp only [Try.ntmps7, List.size_toArray, List.length_cons, List.length_nil, Nat.reduceAdd, Nat.reduceSub, Array.replicate_succ, Array.replicate_zero, List.push_toArray, List.append_toArray, List.nil_append, List.cons_append]
  gi_upto_if 27 with (fail)
  gi_cut [28] from 28 (fun _ W => Hid (Own3 w W A (min n 300) cap stop))
  case first =>
    have hO0 := hO.out.l
    have hc0 := cell_of_one hO0
    have hf0 := free_of_one hO0
    by_cases hl : n ≤ 300
    · have hl' : decide ((300 : Int) < (n : Int)) = false := by rw [decide_eq_false_iff_not]; omega
      clear hO0
      gi_wp2
      gi_meet
      case rel => rw [Nat.min_eq_left hl]; exact hO.out
    · have hl' : (300 : Int) < (n : Int) := by omega
      have hcl : (300 : Int) ≤ (cap : Int) := by omega
      clear hO0
      gi_wp2
      gi_meet
      case rel => rw [Nat.min_eq_right (by omega)]; exact own3_new w A 300 cap stop
  case rest =>
    clear hO
    have HO := hcut
    clear hcut
    have hmc : min n 300 ≤ cap := by omega
    have hm3 : min n 300 ≤ 300 := by omega
    generalize min n 300 = m at *
    clear hcap
    gi_upto_if 32 with (fail)
    gi_cut [1] from 33 (fun s1 W => s1 = .slice A2 (min n2 300) cap2 ∧ Hid (Own3 w W A m cap stop))
    case first =>
      by_cases hl : n2 ≤ 300
      · have hl' : decide ((300 : Int) < (n2 : Int)) = false := by rw [decide_eq_false_iff_not]; omega
        gi_wp2
        gi_meet
        case rel => exact ⟨by rw [Nat.min_eq_left hl], HO.out⟩
      · have hl' : (300 : Int) < (n2 : Int) := by omega
        have hcl : (300 : Int) ≤ (cap2 : Int) := by omega
        gi_wp2
        gi_meet
        case rel => exact ⟨by rw [Nat.min_eq_right (by omega)], HO.out⟩
    case rest =>
      clear HO
      obtain ⟨rfl, HO⟩ := hcut
      have hmc2 : min n2 300 ≤ cap2 := by omega
      have hm32 : min n2 300 ≤ 300 := by omega
      generalize min n2 300 = m2 at *
      clear hcap2
      have hBl := HO.out.below.size
      obtain ⟨W3, rfl⟩ : ∃ W3 : World, W3 = wc := ⟨_, rfl⟩
      have HN := Lib.hid (nine_new w W3 A m cap stop HO.out)
      gi_wp2
      obtain ⟨HO6, ht0, ho0, hs0, hsz, hlt3⟩ := HN.out
      obtain ⟨W6, hW6⟩ : ∃ W6, (((W3.alloc (.cells #[.slice none 0 0, .pointer none] 41)).alloc (.cells #[.slice none 0 0, .pointer none] 41)).alloc (.cells #[.slice none 0 0, .pointer none] 43)) = W6 := ⟨_, rfl⟩
      rw [hW6] at HO6 ht0 ho0 hs0 hsz ⊢
      clear HN hW6 HO
      have HO6 := Lib.hid HO6
      have HT0 := Lib.hid ht0
      have HOT := Lib.hid ho0
      have HS0 := Lib.hid hs0
      obtain ⟨B, hB⟩ : ∃ B, W6.heap.size = B := ⟨_, rfl⟩
      have HBz := Lib.hid hB
      have hgB : W3.heap.size < B := by omega
      have hoB : W3.heap.size + 1 < B := by omega
      have hsB : W3.heap.size + 2 < B := by omega
      have hwB : w.heap.size + 2 < W3.heap.size := hlt3
      clear ht0 ho0 hs0 hB hsz hlt3 hBl
      generalize W3.heap.size = gt at *
      have f20 : Fence.wide.fn 20 := trivial
      have f21 : Fence.wide.fn 21 := trivial
      have f22 : Fence.wide.fn 22 := trivial
      have f23 : Fence.wide.fn 23 := trivial
      have f24 : Fence.wide.fn 24 := trivial
      have f25 : Fence.wide.fn 25 := trivial
      have f26 : Fence.wide.fn 26 := trivial
      have f9 : Fence.wide.fn 9 := trivial
      have h15 : 1 ≤ 5 := by omega
      gi_loopw [11] (fun s11 wr => ∃ i : Nat, i ≤ m ∧ s11 = .int .i64 i ∧ Hid (TabI wr B gt (xs.take i)) ∧ Hid (KeepT B gt W6 wr)) (fun s11 _ => m - (intOf s11).toNat)
      case atStart => exact ⟨0, Nat.zero_le _, rfl, .inl ⟨rfl, HT0.out⟩, KeepT.refl _ _ _⟩
      case round =>
        obtain ⟨i, hi, rfl, HT, HK⟩ := hrel
        have cl := cell_of_one ((HK.out.block w.heap.size (by omega) (by omega)).trans HO6.out.l)
        by_cases hlt : i < m
        · have hlt' : (i : Int) < (m : Int) := by omega
          have hti : (xs.take i).length = i := by rw [List.length_take, Hn.out]; omega
          have hxr : RI wr w.heap.size A xs := H.out.keep fun p hp => World.cell?_of_block ((HK.out.block p.block (by omega) (by omega)).trans (HO6.out.below.block p.block hp))
          obtain ⟨b, off, rfl, _, hc⟩ := hxr.at_ (i := i) (by rw [Hn.out]; exact hlt)
          obtain ⟨At, ct, hct, _, _, _, _⟩ := HT.out.head
          rw [hti] at hct
          have HL := Lib.hid (lenI_any gt At i ct wr hct)
          have HA : Hid (Calls Try.prog 21 #[.pointer (some ⟨gt, 0, none⟩), .int .i64 (xs.getD i 0)] wr fun e w' => e = .returned (.int .i64 (i : Int)) ∧ TabI w' B gt (xs.take (i + 1)) ∧ KeepT B gt W6 w') :=
            (addI_any B gt (xs.take i) (xs.getD i 0) wr HT.out hgB (by rw [← HBz.out]; exact HK.out.size) (by rw [hti]; omega)).mono (fun e w' hp => ⟨by rw [hp.1, hti], by rw [take_get xs i (by rw [Hn.out]; exact hlt)]; exact hp.2.1, HK.out.trans hp.2.2⟩)
          have hne : ((i : Int) != (i : Int)) = false := by simp
          clear hti hxr hct
          generalize xs.getD i 0 = y at *
          gi_wp2_with (first | (gi_at_call 20; ((with_reducible refine (callsIn_wide.2 HL.out).mono ?_); rintro e w' ⟨rfl, rfl⟩)) | (gi_at_call 21; ((with_reducible refine (callsIn_wide.2 HA.out).mono ?_); rintro e w' ⟨rfl, ht2, hk2⟩); have HT2 := Lib.hid ht2; have HK2 := Lib.hid hk2; clear ht2 hk2))
          go_roundw
          case rel => exact ⟨i + 1, by omega, by go_num, HT2.out, HK2.out⟩
          case measure => simp [intOf]; omega
        · obtain rfl : m = i := by omega
          have hge : ¬ (m : Int) < (m : Int) := by omega
          have hfull : xs.take m = xs := List.take_of_length_le (by rw [Hn.out]; exact Nat.le_refl _)
          have HT7 : Hid (TabI wr B gt xs) := hfull ▸ HT.out
          clear hfull HT HT0
          have HS7 : Hid (wr.heap[gt + 2]? = some (.cells #[.slice none 0 0, .pointer none] 43 (0, 0))) := (HK.out.block _ hsB (by omega)).trans HS0.out
          have HO7 : Hid (wr.heap[gt + 1]? = some (.cells #[.slice none 0 0, .pointer none] 41 (0, 0))) := (HK.out.block _ hoB (by omega)).trans HOT.out
          have HW7 : Hid (Own3 w wr A m cap stop) := ⟨own_keep HO6.out.below HK.out (by omega) (by omega), (HK.out.block _ (by omega) (by omega)).trans HO6.out.l, (HK.out.block _ (by omega) (by omega)).trans HO6.out.s, (HK.out.block _ (by omega) (by omega)).trans HO6.out.r⟩
          have hB7 : B ≤ wr.heap.size := HBz.out ▸ HK.out.size
          clear HS0 HOT HO6 HK HBz
          obtain ⟨W7, rfl⟩ : ∃ W7 : World, W7 = wr := ⟨_, rfl⟩
          obtain ⟨C, hC⟩ : ∃ C, W7.heap.size = C := ⟨_, rfl⟩
          have HCz := Lib.hid hC
          rw [hC] at hB7
          clear hC
          gi_wp2
          clear cl
          gi_loopw [12] (fun s12 wr => ∃ i : Nat, i ≤ m2 ∧ s12 = .int .i64 i ∧ Hid (TabS wr C (gt + 2) (ws.take i)) ∧ Hid (KeepT C (gt + 2) W7 wr)) (fun s12 _ => m2 - (intOf s12).toNat)
          case atStart => exact ⟨0, Nat.zero_le _, rfl, .inl ⟨rfl, HS7.out⟩, KeepT.refl _ _ _⟩
          case round =>
            obtain ⟨i, hi, rfl, HT, HK⟩ := hrel
            by_cases hlt : i < m2
            · have hlt' : (i : Int) < (m2 : Int) := by omega
              have hti : (ws.take i).length = i := by rw [List.length_take, Hn2.out]; omega
              have hxr : RS wr w.heap.size A2 ws := H2.out.keep fun p hp => World.cell?_of_block ((HK.out.block p.block (by omega) (by omega)).trans (HW7.out.below.block p.block hp))
              obtain ⟨b, off, rfl, _, hc⟩ := hxr.at_ (i := i) (by rw [Hn2.out]; exact hlt)
              have HA : Hid (Calls Try.prog 22 #[.pointer (some ⟨gt + 2, 0, none⟩), .string (ws.getD i ⟨#[]⟩)] wr fun e w' => e = .returned (.int .i64 (i : Int)) ∧ TabS w' C (gt + 2) (ws.take (i + 1)) ∧ KeepT C (gt + 2) W7 w') :=
                (addS_any C (gt + 2) (ws.take i) (ws.getD i ⟨#[]⟩) wr HT.out (by omega) (by rw [← HCz.out]; exact HK.out.size) (by rw [hti]; omega)).mono (fun e w' hp => ⟨by rw [hp.1, hti], by rw [take_getS ws i (by rw [Hn2.out]; exact hlt)]; exact hp.2.1, HK.out.trans hp.2.2⟩)
              have hne : ((i : Int) != (i : Int)) = false := by simp
              clear hti hxr
              generalize ws.getD i ⟨#[]⟩ = y at *
              gi_wp2_with (gi_at_call 22; ((with_reducible refine (callsIn_wide.2 HA.out).mono ?_); rintro e w' ⟨rfl, ht2, hk2⟩); have HT2 := Lib.hid ht2; have HK2 := Lib.hid hk2; clear ht2 hk2)
              go_roundw
              case rel => exact ⟨i + 1, by omega, by go_num, HT2.out, HK2.out⟩
              case measure => simp [intOf]; omega
            · obtain rfl : m2 = i := by omega
              have hge2 : ¬ (m2 : Int) < (m2 : Int) := by omega
              have hfull : ws.take m2 = ws := List.take_of_length_le (by rw [Hn2.out]; exact Nat.le_refl _)
              have HS8 : Hid (TabS wr C (gt + 2) ws) := hfull ▸ HT.out
              have HT8 : Hid (TabI wr B gt xs) := HT7.out.kept2 (fun k hk hne => HK.out.block k (by rw [← HCz.out]; exact hk) hne) hsB (by omega)
              have HO8 : Hid (wr.heap[gt + 1]? = some (.cells #[.slice none 0 0, .pointer none] 41 (0, 0))) := (HK.out.block _ (by omega) (by omega)).trans HO7.out
              have HW8 : Hid (Own3 w wr A m cap stop) := ⟨own_keep HW7.out.below HK.out (by omega) (by omega), (HK.out.block _ (by omega) (by omega)).trans HW7.out.l, (HK.out.block _ (by omega) (by omega)).trans HW7.out.s, (HK.out.block _ (by omega) (by omega)).trans HW7.out.r⟩
              have hC8 : C ≤ wr.heap.size := HCz.out ▸ HK.out.size
              clear hfull HT HK HS7 HO7 HW7 HT7 HCz
              obtain ⟨W8, rfl⟩ : ∃ W8 : World, W8 = wr := ⟨_, rfl⟩
              obtain ⟨At, ct, hct, _, _, hrt, hgt8⟩ := HT8.out.head
              obtain ⟨N, hN⟩ : ∃ N, W8.heap.size = N := ⟨_, rfl⟩
              have hb9 : Below N W8 ((W8.alloc (.cells #[.int .i64 0] 3)).alloc (.cells #[.slice At m ct] 22)) := by
                rw [← hN]; exact ((Below.refl _ _).alloc (Nat.le_refl _) _).alloc (by rw [World.size_alloc]; omega) _
              rw [Hn.out] at hct
              have HAl := Lib.hid (tabAll_any gt At m ct (W8.alloc (.cells #[.int .i64 0] 3)) (by rw [World.cell?_of_block (Below.heap_alloc _ _ _ hgt8)]; exact hct))
              gi_wp2_with (gi_at_call 23; ((with_reducible refine (callsIn_wide.2 HAl.out).mono ?_); rintro e w' ⟨rfl, rfl⟩))
              obtain ⟨W9, hW9⟩ : ∃ W9, ((W8.alloc (.cells #[.int .i64 0] 3)).alloc (.cells #[.slice At m ct] 22)) = W9 := ⟨_, rfl⟩
              have hN9 := own_nine W8 N hN At m ct
              rw [hW9] at hN9 hb9 ⊢
              obtain ⟨hz9, hbx9, hbs9⟩ := hN9
              have hR9 : RI W9 N At xs := (hN ▸ hrt).below hb9 (Nat.le_refl _)
              have HB9 := Lib.hid hb9
              have hgN : gt < N := hN ▸ hgt8
              have hCN : C ≤ N := hN ▸ hC8
              have HNz := Lib.hid hN
              clear hW9 hb9 hrt hN hC8 hgt8
              refine range_any rfl (by omega) (gf := 52) (lb := #[.pointer (some ⟨N + 1, 0, none⟩)]) rfl trivial (enters_of Try.func52 (by kernel_rfl) rfl)
                (all_stops 4 (by omega) (N + 1) N At m ct xs Hn.out (by omega) W9 (by omega) (by omega) hbs9 hR9) KeepL.trans (KeepL.put (by omega) (by omega)) (fun _ => rfl)
                (fun pre W => Cnt N pre.length W9 W ∧ (stop < 1 ∨ (pre.length : Int) < stop))
                (fun c pre W => (c = .ret ∧ raw pre ≠ List.range pre.length) ∨ (c = .exit 4 ∧ Cnt N pre.length W9 W ∧ (pre.length : Int) = stop ∧ 1 ≤ stop ∧ pre.length ≤ m))
                (fun W => ∃ k : Nat, Cnt N k W9 W ∧ (1 ≤ stop → stop ≤ (m : Int) → (k : Int) = stop) ∧ ((stop < 1 ∨ (m : Int) < stop) → k = m))
                (fun s X Y row hs hg hr => ⟨hs.1.own (by omega) hg hr, hs.2⟩)
                (fun c s X Y row hs hg hr => by
                  rcases hs with ⟨h1, h2⟩ | ⟨h1, h2, h3⟩
                  · exact .inl ⟨h1, h2⟩
                  · exact .inr ⟨h1, h2.own (by omega) hg hr, h3⟩)
                ⟨⟨hbx9, Below.refl _ _⟩, by simp only [List.length_nil]; omega⟩
                (fun ys W hS hi => by
                  have hl := congrArg List.length hS
                  rw [raw_len, List.length_range] at hl
                  rw [hl.trans Hn.out] at hi
                  exact ⟨m, hi.1, fun h1 h2 => by have := hi.2; omega, fun _ => rfl⟩)
                (fun c pre W hS hi => by
                  rcases hi with ⟨_, h2⟩ | ⟨rfl, h2, h3, h4, h5⟩
                  · exact absurd hS h2
                  · exact ⟨⟨pre.length, h2, fun _ _ => h3, fun h => by omega⟩, fun a' h => wpIn_exit h⟩)
                ?round ?rest
              case round =>
                rintro ⟨i, hi⟩
                obtain ⟨y, hy⟩ : ∃ y, xs.getD i 0 = y := ⟨_, rfl⟩
                have henc : encA xs ⟨i, hi⟩ = #[.int .i64 (i : Int), .int .i64 y] := by rw [← hy]; rfl
                rw [henc]
                clear henc
                have Hy := Lib.hid hy
                clear hy
                apply Exists.intro
                refine ⟨?_, ?_⟩
                · intro l W K hK
                  gi_wp2
                  exact hK
                · intro l pre W hi2 hc2
                  obtain ⟨hcn, hlt2⟩ := hi2
                  have hne3 : ∀ k, pre.length = k → i ≠ k → raw (pre ++ [(⟨i, hi⟩ : Fin xs.length)]) ≠ List.range (pre ++ [(⟨i, hi⟩ : Fin xs.length)]).length := by
                    intro k hk hik h
                    rw [raw_snoc, List.length_append, hk, List.length_singleton, List.range_succ] at h
                    have := (List.append_inj' h rfl).2
                    simp at this
                    exact hik this
                  obtain ⟨k, hk⟩ : ∃ k, pre.length = k := ⟨_, rfl⟩
                  have Hne3 := Lib.hid (hne3 k hk)
                  have hk1 : Hid ((pre ++ [(⟨i, hi⟩ : Fin xs.length)]).length = k + 1) := by
                    show _ = _
                    rw [List.length_append, hk, List.length_singleton]
                  rw [hk] at hcn hlt2
                  have him : i < m := by rw [← Hn.out]; exact hi
                  have hbW : Below N W8 W := HB9.out.trans hcn.below
                  have cl := cell_of_one ((hbW.block w.heap.size (by omega)).trans HW8.out.l)
                  have cs := cell_of_one ((hbW.block (w.heap.size + 1) (by omega)).trans HW8.out.s)
                  have hrr := (hbW.block (w.heap.size + 2) (by omega)).trans HW8.out.r
                  have cr := cell_of_one hrr
                  have fr := free_of_one hrr
                  have cn := cell_of_one hcn.box
                  have fn := free_of_one hcn.box
                  have hxr : RI W w.heap.size A xs := H.out.keep fun p hp => World.cell?_of_block ((hbW.block p.block (by omega)).trans (HW8.out.below.block p.block hp))
                  obtain ⟨b, off, rfl, _, hc⟩ := hxr.at_ (i := i) hi
                  rw [Hy.out] at hc
                  have HC := Lib.hid hcn
                  have him2 : (i : Int) < (m : Int) := by omega
                  have hy : ∀ z : Int, (z != z) = false := fun z => by simp
                  have hyy := hy y
                  have hii := hy (i : Int)
                  clear hk hne3 hcn hbW hrr hxr hc2 hy hbs9 hR9
                  by_cases hik : i = k
                  · subst hik
                    by_cases hst : (i : Int) + 1 = stop
                    · have hst2 : ((i : Int) + 1 == stop) = true := by rw [beq_iff_eq]; exact hst
                      have Hst := Lib.hid hst
                      clear hst
                      gi_wp2
                      refine ⟨KeepsFrom.of_grownBy (grownBy_setCell' W N _) (fun j e => by injection e with e; omega), .inr ⟨rfl, by rw [hk1.out]; exact HC.out.put, ?_, ?_, ?_⟩⟩
                      · rw [hk1.out, ← Hst.out]; omega
                      · rw [← Hst.out]; omega
                      · rw [hk1.out]; omega
                    · have hst2 : ((i : Int) + 1 == stop) = false := by rw [beq_eq_false_iff_ne]; exact hst
                      gi_wp2
                      refine ⟨KeepsFrom.of_grownBy (grownBy_setCell' W N _) (fun j e => by injection e with e; omega), ⟨fun j hj => Below.heap_setCell _ _ _ _ (by show j ≠ N; omega), Below.heap_setCell _ _ _ _ (by show N + 1 ≠ N; omega)⟩, by rw [hk1.out]; exact HC.out.put, ?_⟩
                      rw [hk1.out]; omega
                  · have hik2 : ((i : Int) != (k : Int)) = true := by rw [bne_iff_ne]; omega
                    gi_wp2
                    exact ⟨KeepsFrom.of_grownBy (grownBy_setCell' W (w.heap.size + 1 + 1) _) (fun j e => by injection e with e; omega), .inl ⟨rfl, Hne3.out hik⟩⟩
              case rest =>
                intro D W hD hJ hK
                obtain ⟨k, hcn, hk1, hk2⟩ := hJ
                have hbW : Below N W8 W := HB9.out.trans hcn.below
                have HW := Lib.hid hbW
                have cl := cell_of_one ((hbW.block w.heap.size (by omega)).trans HW8.out.l)
                have cs := cell_of_one ((hbW.block (w.heap.size + 1) (by omega)).trans HW8.out.s)
                have cn := cell_of_one hcn.box
                have hrr := (hbW.block (w.heap.size + 2) (by omega)).trans HW8.out.r
                have hHK := Lib.hid hK
                have hlow : ∀ q, q < W8.heap.size → W.heap[q]? = W8.heap[q]? := fun q hq => hbW.block q (by rw [← HNz.out]; exact hq)
                have HTW := Lib.hid (HT8.out.kept hlow)
                have HSW := Lib.hid (HS8.out.kept hlow)
                have HOW := Lib.hid ((hbW.block (gt + 1) (by omega)).trans HO8.out)
                have hwW : Below w.heap.size w W := HW8.out.below.trans (hbW.mono (by omega))
                have HwW := Lib.hid hwW
                have HRR := Lib.hid hrr
                have hDW := lt_of_block hK
                clear hcn hbW hbs9 hR9 hK hct HAl hlow hwW hrr HT8 HS8 HO8 HB9 hbx9
                gi_upto_region 26 with (fail)
                gi_cut [119] from 91 (fun s W' => s = .bool false ∧ W' = W)
                case first =>
                  rcases (by omega : (1 ≤ stop ∧ stop ≤ (m : Int)) ∨ stop < 1 ∨ (1 ≤ stop ∧ (m : Int) < stop)) with ⟨h1, h2⟩ | h1 | ⟨h1, h2⟩
                  · have e := hk1 h1 h2
                    subst e
                    have e1 : ((k : Int) != (k : Int)) = false := by simp
                    have e2 : ¬ (k : Int) < 1 := by omega
                    have e3 : ¬ (m : Int) < (k : Int) := by omega
                    clear hk1 hk2
                    gi_wp2
                    gi_meet
                    case rel => exact ⟨rfl, rfl⟩
                  · have e := hk2 (.inl h1)
                    subst e
                    have e1 : ((k : Int) != (k : Int)) = false := by simp
                    have e2 : ¬ 1 ≤ stop := by omega
                    clear hk1 hk2
                    gi_wp2
                    gi_meet
                    case rel => exact ⟨rfl, rfl⟩
                  · have e := hk2 (.inr h2)
                    subst e
                    have e1 : ((k : Int) != (k : Int)) = false := by simp
                    have e2 : ¬ stop < 1 := by omega
                    have e3 : ¬ stop ≤ (k : Int) := by omega
                    clear hk1 hk2
                    gi_wp2
                    gi_meet
                    case rel => exact ⟨rfl, rfl⟩
                case rest =>
                  obtain ⟨rfl, rfl⟩ := hcut
                  clear hk1 hk2 cn cs
                  obtain ⟨W5, rfl⟩ : ∃ W5 : World, W5 = wc := ⟨_, rfl⟩
                  obtain ⟨As, cs, hcs, _, _, hrs, _⟩ := HSW.out.head
                  obtain ⟨Au, cu, hcu, _, _, _, _⟩ := HTW.out.head
                  rw [Hn2.out] at hcs
                  rw [Hn.out] at hcu
                  have HRs := Lib.hid hrs
                  have Hcs := Lib.hid hcs
                  have Hcu := Lib.hid hcu
                  clear hcs hcu hrs
                  gi_wp2
                  gi_loopw [16] (fun s16 wr => ∃ i : Nat, i ≤ m2 ∧ s16 = .int .i64 i ∧ wr = W5) (fun s16 _ => m2 - (intOf s16).toNat)
                  case atStart => exact ⟨0, Nat.zero_le _, rfl, rfl⟩
                  case round =>
                    obtain ⟨i, hi, rfl, rfl⟩ := hrel
                    by_cases hlt : i < m2
                    · have hlt' : (i : Int) < (m2 : Int) := by omega
                      have hxr : RS wr w.heap.size A2 ws := H2.out.keep fun p hp => World.cell?_of_block (HwW.out.block p.block hp)
                      obtain ⟨b, off, rfl, _, hc⟩ := hxr.at_ (i := i) (by rw [Hn2.out]; exact hlt)
                      obtain ⟨b2, off2, rfl, _, hc2⟩ := HRs.out.at_ (i := i) (by rw [Hn2.out]; exact hlt)
                      have HA := Lib.hid (atS_yes (gt + 2) _ m2 cs i (ws.getD i ⟨#[]⟩) wr Hcs.out b2 off2 rfl hc2 hlt)
                      have hyy := str_ne (ws.getD i ⟨#[]⟩)
                      clear hxr hc2
                      generalize ws.getD i ⟨#[]⟩ = y at *
                      gi_wp2_with (gi_at_call 24; ((with_reducible refine (callsIn_wide.2 HA.out).mono ?_); rintro e w' ⟨rfl, rfl⟩))
                      go_roundw
                      case rel => exact ⟨i + 1, by omega, by go_num, trivial⟩
                      case measure => simp [intOf]; omega
                    · obtain rfl : m2 = i := by omega
                      have hge2 : ¬ (m2 : Int) < (m2 : Int) := by omega
                      have HB1 := Lib.hid (atI_behind gt Au m cu wr Hcu.out)
                      have HA1 := Lib.hid (atI_ahead gt Au m cu wr Hcu.out)
                      have HN1 := Lib.hid (atI_none wr)
                      have HKn := Lib.hid (known_any wr)
                      have hmm : ((m2 : Int) == (m2 : Int)) = true := by simp
                      gi_wp2_with (first | (gi_at_call 25; ((with_reducible refine (callsIn_wide.2 HB1.out).mono ?_); rintro e w' ⟨rfl, rfl⟩)) | (gi_at_call 25; ((with_reducible refine (callsIn_wide.2 HA1.out).mono ?_); rintro e w' ⟨rfl, rfl⟩)) | (gi_at_call 25; ((with_reducible refine (callsIn_wide.2 HN1.out).mono ?_); rintro e w' ⟨rfl, rfl⟩)) | (gi_at_call 9; ((with_reducible refine (callsIn_wide.2 HKn.out).mono ?_); rintro e w1 ⟨rfl, hb1⟩); have hrr1 := (hb1.block _ (lt_of_block HRR.out)).trans HRR.out; have cr1 := cell_of_one hrr1; have fr1 := free_of_one hrr1; have HR1 := Lib.hid hrr1; have hk1 := (hb1.block _ (lt_of_block hHK.out)).trans hHK.out; have HK1 := Lib.hid hk1; have HL1 := Lib.hid (lenI_any (gt + 1) none 0 0 w1 (cell_of_two ((hb1.block _ (lt_of_block HOW.out)).trans HOW.out))); have HL2 := Lib.hid (lenS_any (gt + 2) As m2 cs w1 ((hb1.cell (p := ⟨gt + 2, 0, none⟩) (block_lt Hcs.out)).trans Hcs.out)); have HB2 := Lib.hid (HwW.out.trans (hb1.mono HwW.out.size)); clear hb1 hrr1 hk1) | (gi_at_call 21; ((with_reducible refine (callsIn_wide.2 (addI_none 1 _)).mono ?_); rintro e w' ⟨rfl, rfl⟩)) | (gi_at_call 20; ((with_reducible refine (callsIn_wide.2 (lenI_none _)).mono ?_); rintro e w' ⟨rfl, rfl⟩)) | (gi_at_call 20; ((with_reducible refine (callsIn_wide.2 HL1.out).mono ?_); rintro e w' ⟨rfl, rfl⟩)) | (gi_at_call 26; ((with_reducible refine (callsIn_wide.2 HL2.out).mono ?_); rintro e w' ⟨rfl, rfl⟩)))
                      exact tables_end w w1 D _ rfl HR1.out HK1.out HB2.out (by omega)

theorem rankTables_walk (A : Option Addr) (n cap : Nat) (zs : List Int) (A2 : Option Addr) (n2 cap2 : Nat) (zs2 : List ByteArray) (stop : Int) (w : World) (hrow : Row .i64 w A n cap zs) (hrow2 : RowS w A2 n2 cap2 zs2) (hxw : (Lit.int .i64 stop).wf = true) :
    Calls Try.prog 7 #[.slice A n cap, .slice A2 n2 cap2, .int .i64 stop] w fun e w' => e = .returned (.bool true) ∧ Below w.heap.size w w' := by
  obtain ⟨xs, hx, hcap, hcap', h, _⟩ := row_ri hrow
  obtain ⟨ws, hx2, hcap2, hcap2', h2, _⟩ := row_rs hrow2
  exact callsIn_wide.1 (rankTables_in A n cap (xs.take 300) A2 n2 cap2 (ws.take 300) stop w (by rw [List.length_take, hx, Nat.min_comm]) hcap hcap' (h.take 300) (by rw [List.length_take, hx2, Nat.min_comm]) hcap2 hcap2' (h2.take 300))
end Go.Proofs.Ytakgkfdbgjljkaa.Rank
