/-
  Layer 10 (shape): (*Plan).part: each place's node becomes a copy of its own. Written by gen_shapepart.py.
-/
import Derived.Test.YtmknghhgcecafaaDoorJxF
import Derived.Test.YtmknghhgcecafaaDoorJxD
namespace Go.Proofs.YtmknghhgcecafaaDoor.Shape
open Go.ChangeShapes Go.WideShapes Go.ChangeAt Go.RowKit Mem Tree
set_option linter.unusedVariables false

abbrev TL (W W' : World) : Prop := Below W.heap.size W W'
/-- A region whose last operation (iS) stores what a call (iC) gave: ahead of it all is told by conditions that no new memory breaks. -/
structure CI (w0 : World) (Φ : List (Cd TL)) (Fin : Value → World → Prop) (iC iS : Nat) (L : Nat → Bool) (x : Nat → Value) (W : World) : Prop where
  bel : L iS = false → Below w0.heap.size w0 W
  kc : L iS = false → ∀ i, L i = true → (atC Φ i).p (x i) W
  fin : L iS = true → Fin (x iC) W
section
variable {w0 W W' : World} {Φ : List (Cd TL)} {Fin : Value → World → Prop} {iC iS : Nat} {L : Nat → Bool} {x : Nat → Value} {v : Value}
theorem CI.start (w : World) : CI w Φ Fin iC iS (fun _ => false) x w.drew := ⟨fun _ => ⟨rfl, rfl, rfl, Nat.le_refl _, fun _ _ => rfl⟩, fun _ _ h => (by cases h), fun h => (by cases h)⟩
theorem CI.quiet (h : CI w0 Φ Fin iC iS L x W) {i : Nat} (hS : L iS = false) (hi : iS ≠ i) (hb : Below W.heap.size W W') (hp : (atC Φ i).p v W') : CI w0 Φ Fin iC iS (updL L i) (updX x i v) W' := by
  refine ⟨fun _ => (h.bel hS).trans (hb.mono (h.bel hS).size), fun _ j hj => ?_, fun a => (by rw [updL_ne hi, hS] at a; cases a)⟩
  by_cases e : j = i
  · subst e; rw [updX_eq]; exact hp
  · rw [updX_ne e]; rw [updL_ne e] at hj; exact (atC Φ j).mono _ _ _ hb (h.kc hS j hj)
theorem CI.store (h : CI w0 Φ Fin iC iS L x W) (hc : iC ≠ iS) (hf : Fin (x iC) W') : CI w0 Φ Fin iC iS (updL L iS) (updX x iS v) W' :=
  ⟨fun a => (by rw [updL_eq] at a; cases a), fun a => (by rw [updL_eq] at a; cases a), fun _ => by rw [updX_ne hc]; exact hf⟩
end
/-- A node that a copy has given: its Kids lie in memory from h on. -/
def cCopy (h : Nat) (k : Int) (x y : ByteArray) (c : F) : Cd TL := ⟨fun v W => ∃ A n C, v = .agg #[.int .i64 k, .string x, .string y, .slice A n C] ∧ Fs W (Rng h W) (.slice A n C) c ∧ TF W (.slice A n C), fun v W W' h hp => by
  obtain ⟨A, n, C, e, hr, ht⟩ := hp
  exact ⟨A, n, C, e, (hr.keep fun b hb => h.block b hb.2).more (fun b hb => ⟨hb.1, Nat.lt_of_lt_of_le hb.2 h.size⟩), ht.below h⟩⟩
theorem flat_set : ∀ (nps : List (Nd × Value)) (i : Nat) (k : Int) (x y : ByteArray) (c : F) (s u : Value), nps[i]? = some (⟨k, x, y, c⟩, s) →
    (((((nps.flatMap ndC).set (i * 4) (.int .i64 k)).set (i * 4 + 1) (.string x)).set (i * 4 + 2) (.string y)).set (i * 4 + 3) u) = (nps.set i (⟨k, x, y, c⟩, u)).flatMap ndC
  | [], i, k, x, y, c, s, u, h => by simp at h
  | p :: ps, 0, k, x, y, c, s, u, h => by
    simp only [List.getElem?_cons_zero, Option.some.injEq] at h
    subst h
    simp [ndC]
  | p :: ps, i + 1, k, x, y, c, s, u, h => by
    have ih := flat_set ps i k x y c s u (by simpa using h)
    simp only [List.set_cons_succ, List.flatMap_cons]
    rw [← ih, show (i + 1) * 4 = i * 4 + 4 by omega]
    simp [ndC]
/-- At most so much. -/
def limA (i : Nat) : Int := (i : Int) * 1001
theorem limA_zero : limA 0 = 0 := rfl
theorem limA_succ (i : Nat) : limA (i + 1) = limA i + 1001 := by unfold limA; omega
theorem limA_le {i : Nat} (h : i ≤ 1001) : limA i ≤ 1002001 := by unfold limA; omega
theorem box_cl2 (w : World) (k : Int) (x y : ByteArray) (s : Value) {W : World} (hW : Below (w.alloc (.cells #[.int .i64 k, .string x, .string y, s] 24)).heap.size (w.alloc (.cells #[.int .i64 k, .string x, .string y, s] 24)) W) :
    W.cell? ⟨w.heap.size, 0, none⟩ = some (.int .i64 k) ∧ W.cell? ⟨w.heap.size, 1, none⟩ = some (.string x) ∧ W.cell? ⟨w.heap.size, 2, none⟩ = some (.string y) ∧ W.cell? ⟨w.heap.size, 3, none⟩ = some s := by
  have h : W.heap[w.heap.size]? = _ := (hW.block w.heap.size (by simp)).trans (heap_alloc_new w _)
  refine ⟨?_, ?_, ?_, ?_⟩ <;> simp [World.cell?, h]
def PartPost (B : Nat) (X : List Thing) (g : Nat) (L : List Nd) (ps zs : List Int) (ks : List (List Nat)) (w : World) (e : Ending) (w' : World) : Prop :=
  e = .returned (.tuple #[]) ∧ (∃ (vN vP vS vK : Value) (us : List Value) (nps : List (Nd × Value)), Fam w' B (PR g vN vP vS vK nps.length (nps.flatMap ndC) ps.length (ps.map iv) zs.length (zs.map iv) us.length us us ks X) ∧ nps.map (·.1) = L ∧
    (∀ p ∈ nps, Fs w' (Rng w.heap.size w') p.2 p.1.c ∧ TF w' p.2) ∧ us.length = ks.length) ∧ Below B w w'

/-- How far the copying has come: i nodes. -/
structure CpI (w0 : World) (B : Nat) (S : Nat → Prop) (g gN cNp N : Nat) (vP vS vK : Value) (nP : Nat) (cP : List Value) (nS : Nat) (cS : List Value) (nK : Nat) (us : List Value) (ks : List (List Nat)) (X : List Thing) (nps0 : List (Nd × Value)) (i : Nat) (nps : List (Nd × Value)) (W : World) : Prop where
  fam : Fam W B (PR g (.slice (some ⟨gN, 0, none⟩) N cNp) vP vS vK N (nps.flatMap ndC) nP cP nS cS nK us us ks X)
  fst : nps.map (·.1) = nps0.map (·.1)
  done : ∀ q p, q < i → nps[q]? = some p → Fs W (Rng w0.heap.size W) p.2 p.1.c ∧ TF W p.2
  todo : ∀ q, i ≤ q → nps[q]? = nps0[q]?
  grown : w0.grownBy W (some gN)
section
variable {w0 W W' : World} {B : Nat} {S : Nat → Prop} {g gN cNp N : Nat} {vP vS vK : Value} {nP : Nat} {cP : List Value} {nS : Nat} {cS : List Value} {nK : Nat} {us : List Value} {ks : List (List Nat)} {X : List Thing} {nps0 nps : List (Nd × Value)} {i : Nat}
theorem CpI.later (h : CpI w0 B S g gN cNp N vP vS vK nP cP nS cS nK us ks X nps0 i nps W) (hb : Below W.heap.size W W') : CpI w0 B S g gN cNp N vP vS vK nP cP nS cS nK us ks X nps0 i nps W' :=
  ⟨h.fam.later hb, h.fst, fun q p hq hp => ⟨((h.done q p hq hp).1.keep fun b hb' => hb.block b hb'.2).more (fun b hb' => ⟨hb'.1, Nat.lt_of_lt_of_le hb'.2 hb.size⟩), (h.done q p hq hp).2.below hb⟩, h.todo,
    ⟨hb.os.trans h.grown.os, hb.tape.trans h.grown.tape, hb.output.trans h.grown.output, Nat.le_trans h.grown.size hb.size, fun k hk hne => (hb.block k (Nat.lt_of_lt_of_le hk h.grown.size)).trans (h.grown.block k hk hne)⟩⟩
theorem CpI.put (h : CpI w0 B S g gN cNp N vP vS vK nP cP nS cS nK us ks X nps0 i nps W) (hg : gN < w0.heap.size) {k : Int} {x y : ByteArray} {c : F} {s u : Value} (hi : nps[i]? = some (⟨k, x, y, c⟩, s)) (hf : Fs W (Rng w0.heap.size W) u c) (ht : TF W u) :
    CpI w0 B S g gN cNp N vP vS vK nP cP nS cS nK us ks X nps0 (i + 1) (nps.set i (⟨k, x, y, c⟩, u)) ((((W.setCell ⟨gN, i * 4, none⟩ (.int .i64 k)).setCell ⟨gN, i * 4 + 1, none⟩ (.string x)).setCell ⟨gN, i * 4 + 2, none⟩ (.string y)).setCell ⟨gN, i * 4 + 3, none⟩ u) := by
  have hst := Fam.store4 (i := 1) h.fam rfl (i * 4) (.int .i64 k) (.string x) (.string y) u
  rw [flat_set nps i k x y c s u hi] at hst
  have hk : ∀ b, b ≠ gN → ((((W.setCell ⟨gN, i * 4, none⟩ (.int .i64 k)).setCell ⟨gN, i * 4 + 1, none⟩ (.string x)).setCell ⟨gN, i * 4 + 2, none⟩ (.string y)).setCell ⟨gN, i * 4 + 3, none⟩ u).heap[b]? = W.heap[b]? := fun b hb => by
    rw [Below.heap_setCell _ _ _ _ hb, Below.heap_setCell _ _ _ _ hb, Below.heap_setCell _ _ _ _ hb, Below.heap_setCell _ _ _ _ hb]
  have htf : ∀ v, TF W v → TF ((((W.setCell ⟨gN, i * 4, none⟩ (.int .i64 k)).setCell ⟨gN, i * 4 + 1, none⟩ (.string x)).setCell ⟨gN, i * 4 + 2, none⟩ (.string y)).setCell ⟨gN, i * 4 + 3, none⟩ u) v := fun v hv => (((hv.set _ _ _).set _ _ _).set _ _ _).set _ _ _
  have hsz : W.heap.size ≤ ((((W.setCell ⟨gN, i * 4, none⟩ (.int .i64 k)).setCell ⟨gN, i * 4 + 1, none⟩ (.string x)).setCell ⟨gN, i * 4 + 2, none⟩ (.string y)).setCell ⟨gN, i * 4 + 3, none⟩ u).heap.size := by simp
  have hos : ((((W.setCell ⟨gN, i * 4, none⟩ (.int .i64 k)).setCell ⟨gN, i * 4 + 1, none⟩ (.string x)).setCell ⟨gN, i * 4 + 2, none⟩ (.string y)).setCell ⟨gN, i * 4 + 3, none⟩ u).os = W.os ∧ ((((W.setCell ⟨gN, i * 4, none⟩ (.int .i64 k)).setCell ⟨gN, i * 4 + 1, none⟩ (.string x)).setCell ⟨gN, i * 4 + 2, none⟩ (.string y)).setCell ⟨gN, i * 4 + 3, none⟩ u).tape = W.tape ∧ ((((W.setCell ⟨gN, i * 4, none⟩ (.int .i64 k)).setCell ⟨gN, i * 4 + 1, none⟩ (.string x)).setCell ⟨gN, i * 4 + 2, none⟩ (.string y)).setCell ⟨gN, i * 4 + 3, none⟩ u).output = W.output := ⟨rfl, rfl, rfl⟩
  generalize (((W.setCell ⟨gN, i * 4, none⟩ (.int .i64 k)).setCell ⟨gN, i * 4 + 1, none⟩ (.string x)).setCell ⟨gN, i * 4 + 2, none⟩ (.string y)).setCell ⟨gN, i * 4 + 3, none⟩ u = W4 at *
  have fix : ∀ {v : Value} {c : F}, Fs W (Rng w0.heap.size W) v c ∧ TF W v → Fs W4 (Rng w0.heap.size W4) v c ∧ TF W4 v := fun hv =>
    ⟨(hv.1.keep fun b hb => hk b (fun e => by have := hb.1; omega)).more (fun b hb => ⟨hb.1, Nat.lt_of_lt_of_le hb.2 hsz⟩), htf _ hv.2⟩
  refine ⟨hst.1, ?_, fun q p hq hp => ?_, fun q hq => ?_, ⟨hos.1.trans h.grown.os, hos.2.1.trans h.grown.tape, hos.2.2.trans h.grown.output, Nat.le_trans h.grown.size hsz, fun b hb hne => ?_⟩⟩
  · rw [List.map_set]
    have e : (nps.map (·.1))[i]? = some (⟨k, x, y, c⟩ : Nd) := by rw [List.getElem?_map, hi]; rfl
    obtain ⟨h1, h2⟩ := List.getElem?_eq_some_iff.1 e
    rw [← h.fst]
    show (nps.map (·.1)).set i (⟨k, x, y, c⟩ : Nd) = _
    rw [← h2, List.set_getElem_self]
  · rw [List.getElem?_set] at hp
    by_cases e : i = q
    · rw [if_pos e, if_pos (by have := (List.getElem?_eq_some_iff.1 hi).1; omega)] at hp
      injection hp with hp
      subst hp
      exact fix ⟨hf, ht⟩
    · rw [if_neg e] at hp
      exact fix (h.done q p (by omega) hp)
  · rw [List.getElem?_set_ne (by omega)]
    exact h.todo q (by omega)
  · exact (hk b (fun e => hne (by rw [e]))).trans (h.grown.block b hb hne)
end
set_option maxRecDepth 100000 in
set_option maxHeartbeats 16000000 in
theorem part_any (w : World) (B : Nat) (S : Nat → Prop) (X : List Thing) (g : Nat) (L : List Nd) (ps zs : List Int) (ks : List (List Nat)) (h : PS w B S X g L ps zs ks) (hz : ∀ z ∈ zs, 0 ≤ z ∧ z ≤ 1001) (hl : zs.length ≤ 1001) (hL1 : 1 ≤ L.length) (hL2 : L.length ≤ 1001) (hn : ∀ nd ∈ L, nd.c.size ≤ 1001) (hS : ∀ b, S b → b < w.heap.size) :
    Calls Tryd.prog 25 #[.pointer (some ⟨g, 0, none⟩)] w (PartPost B X g L ps zs ks w) := by
  obtain ⟨vN, vP, vS, vK, us, nps, hF, hL, hfs, hus⟩ := h.all
  have hnl : nps.length = L.length := by rw [← hL, List.length_map]
  obtain ⟨gN, cNp, rfl, _, _⟩ := hF.sliceAt (i := 1) rfl (by omega)
  obtain ⟨aS, cSp, rfl, _, _⟩ := hF.slice (i := 3) rfl
  have hgN : gN < w.heap.size := (hF.lt (k := gN) (List.mem_of_getElem? (i := 1) rfl) rfl).2
  have hSN : ∀ b, S b → b < w.heap.size ∧ b ≠ gN := fun b hb => ⟨hS b hb, fun e => by
    have hgB : B ≤ gN := (hF.lt (k := gN) (List.mem_of_getElem? (i := 1) rfl) rfl).1
    rcases h.safe b hb with q | ⟨ob, ho⟩
    · omega
    · rcases pr_ne hF ho with h' | h'
      · cases h'
      · exact h' (by rw [e]; rfl)⟩
  obtain ⟨N, hN⟩ : ∃ N, nps.length = N := ⟨_, rfl⟩
  obtain ⟨cN, hcN⟩ : ∃ cN, nps.flatMap ndC = cN := ⟨_, rfl⟩
  obtain ⟨nP, hnP⟩ : ∃ nP, ps.length = nP := ⟨_, rfl⟩
  obtain ⟨nS, hnS⟩ : ∃ nS, zs.length = nS := ⟨_, rfl⟩
  obtain ⟨nK, hnK⟩ : ∃ nK, us.length = nK := ⟨_, rfl⟩
  obtain ⟨cP, hcP⟩ : ∃ cP, ps.map iv = cP := ⟨_, rfl⟩
  obtain ⟨cS, hcS⟩ : ∃ cS, zs.map iv = cS := ⟨_, rfl⟩
  rw [hN, hnP, hnS, hnK, hcP, hcS] at hF
  rw [hnS] at hl
  obtain ⟨⟨q0, q1, q2, q3⟩, z0, z1, z2, z3⟩ := box_at hF (j := 0) rfl
  have hgB : B ≤ gN := (hF.lt (k := gN) (List.mem_of_getElem? (i := 1) rfl) rfl).1
  have HF := Lib.hid hF
  have HSN := Lib.hid hSN
  have HFS := Lib.hid hfs
  have HUS := Lib.hid hus
  have HL := Lib.hid hL
  have HNL := Lib.hid hnl
  have HNP := Lib.hid hnP
  have HNS := Lib.hid hnS
  have HNK := Lib.hid hnK
  have HCP := Lib.hid hcP
  have HCS := Lib.hid hcS
  have HN := Lib.hid hN
  have hN1 : 1 ≤ N := by omega
  have hN2 : N ≤ 1001 := by omega
  have HZ := Lib.hid hz
  have HNS1 : Hid (∀ nd ∈ L, nd.c.size ≤ 1001) := hn
  have HGN := Lib.hid hgN
  have HGB := Lib.hid hgB
  clear h hz hL1 hL2 hn hS hF hL hfs hus hnl hgN hSN hN hcN hnP hnS hnK hcP hcS hgB
  go_enter Tryd.func25, Tryd.ntmps25
  go_wp2
  go_loopw [2, 12] (fun s2 s12 wr => ∃ (i : Nat) (all : Int), i ≤ nS ∧ 0 ≤ all ∧ all ≤ limA i ∧ s2 = .int .i64 all ∧ s12 = .int .i64 (i : Int) ∧ wr = w) (fun _ s _ => nS - (intOf s).toNat)
  case atStart => exact ⟨0, 0, Nat.zero_le _, Int.le_refl _, Int.le_refl _, rfl, rfl, rfl⟩
  case round =>
    obtain ⟨i, all, hi, ha0, ha1, rfl, rfl, rfl⟩ := hrel
    by_cases hlt : i < nS
    · have hlt' : (i : Int) < (nS : Int) := by omega
      have hi0 : (0 : Int) ≤ (i : Int) := by omega
      obtain ⟨gS, cs', e, _, _⟩ := HF.out.sliceAt (i := 3) rfl (by omega)
      injection e with e _ _
      subst e
      have hlz : i < zs.length := by rw [HNS.out]; exact hlt
      obtain ⟨z, hze⟩ : ∃ z, zs[i]'hlz = z := ⟨_, rfl⟩
      have hzz := HZ.out z (by rw [← hze]; exact List.getElem_mem hlz)
      have hc := HF.out.cell (i := 3) rfl (j := i) (u := .int .i64 z) (by rw [← HCS.out, List.getElem?_map, List.getElem?_eq_getElem hlz, hze]; rfl)
      obtain ⟨hz1, hz2⟩ := hzz
      have hlm := limA_succ i
      have hl5 := limA_le (i := i) (by omega)
      have HLT := Lib.hid hlt
      have HL1 : Hid (all + z ≤ limA (i + 1)) := by show _ ≤ _; omega
      have ha5 : all ≤ 1002001 := by omega
      clear hze hlz hlm hl5 ha1 hlt
      go_wp2
      go_roundw
      case rel => exact ⟨i + 1, all + z, by have := HLT.out; omega, by omega, HL1.out, rfl, by go_num, trivial⟩
      case measure => have := HLT.out; simp [intOf]; omega
    · have hlt' : ¬ (i : Int) < (nS : Int) := by omega
      have hl5 := limA_le (i := i) (by omega)
      have hgt : ¬ (4194304 : Int) < all := by omega
      clear hl5 ha1 hlt
      go_wp2
      obtain ⟨w0, rfl⟩ : ∃ w0, w0 = wr := ⟨_, rfl⟩
      have HC0 : Hid (CpI w0 B S g gN cNp N vP (.slice aS nS cSp) vK nP cP nS cS nK us ks X nps 0 nps w0) := ⟨HF.out, rfl, fun q _ hq => absurd hq (Nat.not_lt_zero q), fun _ _ => rfl, World.grownBy.refl w0 _⟩
      clear q0 q1 q2 q3 z0 z1 z2 z3
      go_loopw [27] (fun s27 wr => ∃ (i : Nat) (npi : List (Nd × Value)), i ≤ N ∧ s27 = .int .i64 (i : Int) ∧ Hid (CpI w0 B S g gN cNp N vP (.slice aS nS cSp) vK nP cP nS cS nK us ks X nps i npi wr)) (fun s _ => N - (intOf s).toNat)
      case atStart => exact ⟨0, nps, Nat.zero_le _, rfl, HC0.out⟩
      case round =>
        clear HC0
        obtain ⟨i, npi, hi, rfl, HC⟩ := hrel
        by_cases hlt : i < N
        · have hlt' : (i : Int) < (N : Int) := by omega
          have hi0 : (0 : Int) ≤ (i : Int) := by omega
          have hip : i < nps.length := by rw [HN.out]; exact hlt
          obtain ⟨⟨⟨k, x, y, c⟩, s⟩, hp⟩ : ∃ p, nps[i]? = some p := ⟨_, List.getElem?_eq_getElem hip⟩
          have hpi := (HC.out.todo i (Nat.le_refl _)).trans hp
          have hfi : Fs w0 S s c := HFS.out _ (List.mem_of_getElem? hp)
          obtain ⟨As, Cs, rfl, _, _⟩ := hfi.slice
          obtain ⟨ln, hln⟩ : ∃ ln, c.len = ln := ⟨_, rfl⟩
          rw [hln] at hpi hfi
          obtain ⟨v0, v1, v2, v3⟩ := node_at (j := 1) (nps := npi) HC.out.fam rfl hpi
          have hc1 : c.size ≤ 1001 := HNS1.out ⟨k, x, y, c⟩ (by rw [← HL.out]; exact List.mem_map.2 ⟨_, List.mem_of_getElem? hp, rfl⟩)
          have HFW : Hid (Fs wr S (.slice As ln Cs) c) := hfi.keep fun b hb => HC.out.grown.block b (HSN.out b hb).1 (fun e => (HSN.out b hb).2 (Option.some.inj e))
          have HLO : Hid (∀ b, S b → b < wr.heap.size) := fun b hb => Nat.lt_of_lt_of_le (HSN.out b hb).1 HC.out.grown.size
          have hbx := bel1 wr (.cells #[.int .i64 k, .string x, .string y, .slice As ln Cs] 24)
          have HC1 := Lib.hid (HC.out.later hbx)
          have HBX := Lib.hid hbx
          have HBC : Hid (∀ W, Below (wr.alloc (.cells #[.int .i64 k, .string x, .string y, .slice As ln Cs] 24)).heap.size (wr.alloc (.cells #[.int .i64 k, .string x, .string y, .slice As ln Cs] 24)) W → W.cell? ⟨wr.heap.size, 0, none⟩ = some (.int .i64 k) ∧ W.cell? ⟨wr.heap.size, 1, none⟩ = some (.string x) ∧ W.cell? ⟨wr.heap.size, 2, none⟩ = some (.string y) ∧ W.cell? ⟨wr.heap.size, 3, none⟩ = some (.slice As ln Cs)) := fun W hW => box_cl2 wr k x y _ hW
          have HPI := Lib.hid hpi
          have HLT := Lib.hid hlt
          have HC5 := Lib.hid hc1
          clear hp hpi hfi hln hip hbx hlt
          go_wp2
          clear v0 v1 v2 v3
          obtain ⟨gb, hgb⟩ : ∃ gb, wr.heap.size = gb := ⟨_, rfl⟩
          have HGB2 := Lib.hid hgb
          rw [hgb] at HBC
          obtain ⟨w1, hw1⟩ : ∃ w1, wr.alloc (.cells #[.int .i64 k, .string x, .string y, .slice As ln Cs] 24) = w1 := ⟨_, rfl⟩
          rw [hw1] at HC1 HBX HBC
          try rw [hw1]
          try rw [hgb]
          clear hw1 hgb
          refine region_inv2 (CI w1 [Cd.is (.pointer (some ⟨g, 0, none⟩)), Cd.is (.pointer (some ⟨g, 0, none⟩)), Cd.is (.pointer (some ⟨g, 0, none⟩)), Cd.is (.slice (some ⟨gN, 0, none⟩) N cNp), Cd.is (.int .i64 (i : Int)), Cd.is (.agg #[.int .i64 k, .string x, .string y, .slice As ln Cs]), cCopy w0.heap.size k x y c, Cd.is (.pointer (some ⟨gN, i * 4, none⟩))] (fun v W => ∃ u, CpI w0 B S g gN cNp N vP (.slice aS nS cSp) vK nP cP nS cS nK us ks X nps (i + 1) (npi.set i (⟨k, x, y, c⟩, u)) W) 6 8) (by kernel_rfl) (by decide) (by kernel_rfl) (fun _ => CI.start _) ?steps ?done
          case steps =>
            intro L xv W hI hcl a ha
            simp only [fillA] at ha
            simp only [List.setIfInBounds_toArray, List.set_cons_succ, List.set_cons_zero, Nat.zero_add, Nat.reduceAdd] at ha
            subst ha
            refine ⟨fun hL hd K hK => ?s0, fun hL hd K hK => ?s1, fun hL hd K hK => ?s2, fun hL hd K hK => ?s3, fun hL hd K hK => ?s4, fun hL hd K hK => ?s5, fun hL hd K hK => ?s6, fun hL hd K hK => ?s7, fun hL hd K hK => ?s8, trivial⟩
            case s0 =>
              have hS := notRun (i := 0) (r := 8) hcl hL (by kernel_rfl)
              have hB := hI.bel hS
              clear hd
              simp only [Act.put, List.setIfInBounds_toArray, List.set_cons_succ, List.set_cons_zero] at hK
              refine (if_pos (by rfl)).mpr ?_
              go_simp
              exact hK.out _ _ (hI.quiet hS (by decide) (Below.refl _ _) rfl)
            case s1 =>
              have hS := notRun (i := 1) (r := 8) hcl hL (by kernel_rfl)
              have hB := hI.bel hS
              have hx0 : xv 0 = .pointer (some ⟨g, 0, none⟩) := hI.kc hS 0 (hd 0 (by kernel_rfl))
              clear hd
              simp only [Act.put, List.setIfInBounds_toArray, List.set_cons_succ, List.set_cons_zero] at hK
              rw [hx0] at hK ⊢
              refine (if_pos (by rfl)).mpr ?_
              go_simp
              exact hK.out _ _ (hI.quiet hS (by decide) (Below.refl _ _) rfl)
            case s2 =>
              have hS := notRun (i := 2) (r := 8) hcl hL (by kernel_rfl)
              have hB := hI.bel hS
              have hx1 : xv 1 = .pointer (some ⟨g, 0, none⟩) := hI.kc hS 1 (hd 1 (by kernel_rfl))
              clear hd
              simp only [Act.put, List.setIfInBounds_toArray, List.set_cons_succ, List.set_cons_zero] at hK
              rw [hx1] at hK ⊢
              refine (if_pos (by rfl)).mpr ?_
              go_simp
              exact hK.out _ _ (hI.quiet hS (by decide) (Below.refl _ _) rfl)
            case s3 =>
              have hS := notRun (i := 3) (r := 8) hcl hL (by kernel_rfl)
              have hB := hI.bel hS
              have hx2 : xv 2 = .pointer (some ⟨g, 0, none⟩) := hI.kc hS 2 (hd 2 (by kernel_rfl))
              have hC := HC1.out.later hB
              obtain ⟨⟨q0, q1, q2, q3⟩, z0, z1, z2, z3⟩ := box_at hC.fam (j := 0) rfl
              clear hC
              clear hd
              simp only [Act.put, List.setIfInBounds_toArray, List.set_cons_succ, List.set_cons_zero] at hK
              rw [hx2] at hK ⊢
              refine (if_pos (by rfl)).mpr ?_
              go_simp
              exact hK.out _ _ (hI.quiet hS (by decide) (Below.refl _ _) rfl)
            case s4 =>
              have hS := notRun (i := 4) (r := 8) hcl hL (by kernel_rfl)
              have hB := hI.bel hS
              clear hd
              simp only [Act.put, List.setIfInBounds_toArray, List.set_cons_succ, List.set_cons_zero] at hK
              refine (if_pos (by rfl)).mpr ?_
              go_simp
              exact hK.out _ _ (hI.quiet hS (by decide) (Below.refl _ _) rfl)
            case s5 =>
              have hS := notRun (i := 5) (r := 8) hcl hL (by kernel_rfl)
              have hB := hI.bel hS
              obtain ⟨m0, m1, m2, m3⟩ := HBC.out W hB
              clear hd
              simp only [Act.put, List.setIfInBounds_toArray, List.set_cons_succ, List.set_cons_zero] at hK
              refine (if_pos (by rfl)).mpr ?_
              go_simp
              exact hK.out _ _ (hI.quiet hS (by decide) (Below.refl _ _) rfl)
            case s6 =>
              have hS := notRun (i := 6) (r := 8) hcl hL (by kernel_rfl)
              have hB := hI.bel hS
              have hx5 : xv 5 = .agg #[.int .i64 k, .string x, .string y, .slice As ln Cs] := hI.kc hS 5 (hd 5 (by kernel_rfl))
              have hW0 : wr.heap.size ≤ W.heap.size := Nat.le_trans HBX.out.size hB.size
              have hfw : Fs W (Lo W.heap.size) (.slice As ln Cs) c := (HFW.out.keep fun b hb => ((hB.mono HBX.out.size).block b (HLO.out b hb)).trans (HBX.out.block b (HLO.out b hb))).more fun b hb => Nat.lt_of_lt_of_le (HLO.out b hb) hW0
              have HCP := tcopyF_any c.size k x y As ln Cs c W (Nat.le_refl _) (by have := HC5.out; omega) hfw
              have hw0 : w0.heap.size ≤ W.heap.size := Nat.le_trans HC.out.grown.size hW0
              clear hd
              simp only [Act.put, List.setIfInBounds_toArray, List.set_cons_succ, List.set_cons_zero] at hK
              rw [hx5] at hK ⊢
              refine (if_pos (by rfl)).mpr ?_
              go_simp
              go_at_call 24
              refine HCP.mono ?_
              rintro e W' ⟨hb, Ar, nr, Cr, rfl, hfr, htr⟩
              exact hK.out _ _ (hI.quiet hS (by decide) hb ⟨Ar, nr, Cr, rfl, hfr.more (fun b hb' => ⟨Nat.le_trans hw0 hb'.1, hb'.2⟩), htr⟩)
            case s7 =>
              have hS := notRun (i := 7) (r := 8) hcl hL (by kernel_rfl)
              have hB := hI.bel hS
              have hx3 : xv 3 = .slice (some ⟨gN, 0, none⟩) N cNp := hI.kc hS 3 (hd 3 (by kernel_rfl))
              have hx4 : xv 4 = .int .i64 (i : Int) := hI.kc hS 4 (hd 4 (by kernel_rfl))
              have hlt2 : (i : Int) < (N : Int) := by have := HLT.out; omega
              clear hd
              simp only [Act.put, List.setIfInBounds_toArray, List.set_cons_succ, List.set_cons_zero] at hK
              rw [hx3] at hK ⊢
              rw [hx4] at hK ⊢
              refine (if_pos (by rfl)).mpr ?_
              go_simp
              exact hK.out _ _ (hI.quiet hS (by decide) (Below.refl _ _) rfl)
            case s8 =>
              have hS := hL
              have hB := hI.bel hS
              have hx7 : xv 7 = .pointer (some ⟨gN, i * 4, none⟩) := hI.kc hS 7 (hd 7 (by kernel_rfl))
              obtain ⟨A6, n6, C6, hx6, hf6, ht6⟩ : ∃ A n C, xv 6 = .agg #[.int .i64 k, .string x, .string y, .slice A n C] ∧ Fs W (Rng w0.heap.size W) (.slice A n C) c ∧ TF W (.slice A n C) := hI.kc hS 6 (hd 6 (by kernel_rfl))
              have hC := HC1.out.later hB
              obtain ⟨v0, v1, v2, v3⟩ := node_at (j := 1) (nps := npi) hC.fam rfl HPI.out
              have hz := fun q => hC.fam.frz (i := 1) rfl (i * 4 + q)
              obtain ⟨z0, z1, z2, z3⟩ := (⟨hz 0, hz 1, hz 2, hz 3⟩ : _ ∧ _ ∧ _ ∧ _)
              simp only [Nat.add_zero] at z0
              have hput := hC.put HGN.out HPI.out hf6 ht6
              clear hd
              simp only [Act.put] at hK
              rw [hx7] at hK ⊢
              rw [hx6] at hK ⊢
              refine (if_pos (by rfl)).mpr ?_
              go_simp
              exact hK.out undef _ (hI.store (by decide) ⟨_, hput⟩)
          case done =>
            intro Lq xv W hI hall a ha
            obtain ⟨u, hC⟩ := hI.fin (hall 8 (by decide))
            simp only [fillA] at ha
            simp only [List.setIfInBounds_toArray, List.set_cons_succ, List.set_cons_zero, Nat.zero_add, Nat.reduceAdd] at ha
            subst ha
            have HC2 := Lib.hid hC
            clear hI hall hC HC HC1
            go_wp2
            go_roundw
            case rel => exact ⟨i + 1, _, by have := HLT.out; omega, by go_num, HC2.out⟩
            case measure => have := HLT.out; simp [intOf]; omega
        · obtain rfl : N = i := by omega
          have hlt' : ¬ (N : Int) < (N : Int) := by omega
          clear hlt
          go_wp2
          go_end0
          have hC := HC.out
          have hl : npi.length = N := by
            have := congrArg List.length hC.fst
            rwa [List.length_map, List.length_map, HN.out] at this
          refine ⟨rfl, ⟨.slice (some ⟨gN, 0, none⟩) N cNp, vP, .slice aS nS cSp, vK, us, npi, ?_, hC.fst.trans HL.out, fun p hp => ?_, HUS.out⟩, ?_⟩
          · have := hC.fam
            rw [hl, HNP.out, HNS.out, HNK.out, HCP.out, HCS.out]
            exact this
          · obtain ⟨q, hq⟩ := List.getElem?_of_mem hp
            exact hC.done q p (by have := (List.getElem?_eq_some_iff.1 hq).1; omega) hq
          · exact ⟨hC.grown.os, hC.grown.tape, hC.grown.output, hC.grown.size, fun b hb => hC.grown.block b (by have := HGB.out; have := HGN.out; omega) (fun e => by have := Option.some.inj e; have := HGB.out; omega)⟩
end Go.Proofs.YtmknghhgcecafaaDoor.Shape
