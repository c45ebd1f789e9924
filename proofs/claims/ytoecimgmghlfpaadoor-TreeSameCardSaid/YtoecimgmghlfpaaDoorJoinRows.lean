import Derived.Test.YtoecimgmghlfpaaDoorTreeRight
import Derived.Test.YtoecimgmghlfpaaDoorMemT
import Derived.OwnWalk
import Derived.Maps.AppendAt

/-
  Layer 5 (tree): rows of nodes of a call's own, and the document's Nodes.
-/
namespace Go.Proofs.YtoecimgmghlfpaaDoor.Tree
open Go.ChangeShapes Go.WideShapes Go.ChangeAt Go.RowKit Mem
set_option linter.unusedVariables false

theorem node_info : (Tryd.prog.info? 24).map (fun i => (i.zero, i.size, i.bytes)) = some (some (.agg #[.int .i64 0, .string ⟨#[]⟩, .string ⟨#[]⟩, .slice none 0 0]), 4, 64) := by kernel_rfl

/-- A node's cells, its Kids at s. -/
def ndC (p : Nd × Value) : List Value := [.int .i64 p.1.k, .string p.1.x, .string p.1.y, p.2]
theorem ndC_len (p : Nd × Value) : (ndC p).length = 4 := rfl

/-- The slice v, whose array is the call's own (from block base on), holds the nodes L; their Kids go through blocks below B alone. -/
def OwnN (w : World) (B base : Nat) (v : Value) (L : List Nd) : Prop :=
  ∃ ps : List (Nd × Value), ps.map (·.1) = L ∧ w.ownsRow base 24 4 v L.length (ps.flatMap ndC) ∧ ∀ p ∈ ps, Fs w (Lo B) p.2 p.1.c

theorem own_slice' {w : World} {base : Nat} {e : TypeId} {size n : Nat} {v : Value} {xs : List Value} (h : w.ownsRow base e size v n xs) : ∃ a c, v = .slice a n c ∧ n ≤ c ∧ c ≤ maxLen := by
  rcases h.2 with ⟨rfl, rfl⟩ | ⟨g, cap, cur, rfl, _, _, h1, h2, _⟩
  · exact ⟨none, 0, rfl, Nat.le_refl _, Nat.zero_le _⟩
  · exact ⟨_, _, rfl, h1, h2⟩
theorem OwnN.slice {w : World} {B base : Nat} {v : Value} {L : List Nd} (h : OwnN w B base v L) : ∃ a c, v = .slice a L.length c ∧ L.length ≤ c ∧ c ≤ maxLen := by
  obtain ⟨ps, _, ho, _⟩ := h
  exact own_slice' ho
theorem OwnN.below {w w' : World} {B base : Nat} {v : Value} {L : List Nd} (h : OwnN w B base v L) (hb : Below w.heap.size w w') (hB : B ≤ w.heap.size) : OwnN w' B base v L := by
  obtain ⟨ps, h1, ho, hf⟩ := h
  refine ⟨ps, h1, ⟨ho.1, ?_⟩, fun p hp => (hf p hp).below hb hB⟩
  rcases ho.2 with h' | ⟨g, cap, cur, a, b, hg, r⟩
  · exact .inl h'
  · exact .inr ⟨g, cap, cur, a, b, (hb.block g (lt_of_block hg)).trans hg, r⟩
theorem OwnN.base {w : World} {B base base' : Nat} {v : Value} {L : List Nd} (h : OwnN w B base v L) (hb : base' ≤ base) : OwnN w B base' v L := by
  obtain ⟨ps, h1, ho, hf⟩ := h
  refine ⟨ps, h1, ⟨ho.1, ?_⟩, hf⟩
  rcases ho.2 with h' | ⟨g, cap, cur, a, b, hg, r⟩
  · exact .inl h'
  · exact .inr ⟨g, cap, cur, a, Nat.le_trans hb b, hg, r⟩
theorem ndC_one {w : World} {B : Nat} {ps : List (Nd × Value)} (hf : ∀ p ∈ ps, Fs w (Lo B) p.2 p.1.c) : ∀ u ∈ ps.flatMap ndC, u.oneCell' = true := fun u hu => by
  obtain ⟨p, hp, hu⟩ := List.mem_flatMap.1 hu
  obtain ⟨A, C, e, _, _⟩ := (hf p hp).slice
  simp only [ndC, List.mem_cons, List.not_mem_nil, or_false] at hu
  rcases hu with rfl | rfl | rfl | rfl
  · rfl
  · rfl
  · rfl
  · rw [e]; rfl

/-- One node of such a row. -/
theorem OwnN.at_ {w : World} {B base : Nat} {A : Option Addr} {n c : Nat} {L : List Nd} (h : OwnN w B base (.slice A n c) L) {i : Nat} {nd : Nd} (hi : L[i]? = some nd) :
    ∃ g s, A = some ⟨g, 0, none⟩ ∧ base ≤ g ∧ g < w.heap.size ∧ w.cell? ⟨g, i * 4, none⟩ = some (.int .i64 nd.k) ∧ w.cell? ⟨g, i * 4 + 1, none⟩ = some (.string nd.x) ∧ w.cell? ⟨g, i * 4 + 2, none⟩ = some (.string nd.y) ∧ w.cell? ⟨g, i * 4 + 3, none⟩ = some s ∧ Fs w (Lo B) s nd.c := by
  obtain ⟨ps, h1, ho, hf⟩ := h
  have hlen : ps.length = L.length := by rw [← h1]; simp
  have hil : i < L.length := (List.getElem?_eq_some_iff.1 hi).1
  obtain ⟨p, hp⟩ : ∃ p, ps[i]? = some p := ⟨_, List.getElem?_eq_getElem (by omega)⟩
  have hpn : p.1 = nd := by
    have : (ps.map (·.1))[i]? = some p.1 := by rw [List.getElem?_map, hp]; rfl
    rw [h1, hi] at this
    exact (Option.some.inj this).symm
  rcases ho.2 with ⟨_, h0⟩ | ⟨g, cap, cur, hv, hg0, hg, q1, q2, q3, q4⟩
  · omega
  · injection hv with e1 e2 e3
    have hc := ho.cells (g := g) (by rw [e1]; rfl)
    have ad : ∀ j, (⟨g, 0, none⟩ : Addr).add j = ⟨g, j, none⟩ := fun j => by unfold Addr.add; split <;> simp_all
    have at_ : ∀ j u, (ndC p)[j]? = some u → w.cell? ⟨g, i * 4 + j, none⟩ = some u := fun j u hu => by
      have := hc (i * 4 + j) u (MemT.flat_at (sz := 4) ndC_len ps i p hp j u hu)
      rwa [ad] at this
    refine ⟨g, p.2, e1, hg0, lt_of_block hg, ?_, ?_, ?_, ?_, ?_⟩
    · have := at_ 0 _ rfl; rwa [hpn] at this
    · have := at_ 1 _ rfl; rwa [hpn] at this
    · have := at_ 2 _ rfl; rwa [hpn] at this
    · exact at_ 3 _ rfl
    · have := hf p (List.mem_of_getElem? hp); rwa [hpn] at this

theorem app_nodes (w : World) {ops : Array Oper} {rest : List Oper} {o : Oper} {a : Act} {Q : Exit → Act → World → Prop} (hgd : o.guard = none) (s x : Operand)
    (ho : o.op = .call { callee := .builtin .append, args := #[s, x], argTypes := #[22, 22] }) (B base base2 : Nat) (v : Value) (L1 L2 : List Nd) (A : Option Addr) (m c : Nat) (hs : a.eval s = v) (hx : a.eval x = .slice A m c)
    (h1 : OwnN w B base v L1) (h2 : OwnN w B base2 (.slice A m c) L2) (hB : B ≤ base) (hbase : base ≤ w.heap.size) (hne : L2 ≠ []) (hlen : L1.length + L2.length ≤ 1000000)
    (h : ∀ v' w', OwnN w' B base v' (L1 ++ L2) → Below base w w' → wpList Tryd.prog ops Q rest (a.put o.dst v') w') : wpList Tryd.prog ops Q (o :: rest) a w := by
  obtain ⟨i0, hi0, hz0, hz1, hz2⟩ := info_parts node_info
  obtain ⟨ps1, e1, ho1, hf1⟩ := h1
  obtain ⟨ps2, e2, ho2, hf2⟩ := h2
  have hm : m = L2.length := by
    obtain ⟨a', c', e, _, _⟩ := own_slice' ho2
    injection e
  subst hm
  rcases ho2.2 with ⟨_, h0⟩ | ⟨g, cap, cur, hv, hg0, hg, q1, q2, q3, q4⟩
  · exact absurd (List.eq_nil_of_length_eq_zero h0) hne
  · have e3 : A = some ⟨g, 0, none⟩ := by injection hv
    subst e3
    refine wpList_append_own_at (P := Tryd.prog) w hgd s x 22 ho base 24 i0 (.agg #[.int .i64 0, .string ⟨#[]⟩, .string ⟨#[]⟩, .slice none 0 0]) 4 64 Tryd.underlying22 hi0 hz0 hz1 hz2 rfl (by decide) v L1.length _ hs ho1 ⟨g, 0, none⟩ L2.length c (ps2.flatMap ndC) hx ho2.1 (ho2.cells rfl) (ndC_one hf2) (by unfold maxLen; omega) (by omega) hbase fun v' w' r1 r2 _ _ => ?_
    have hbl : Below base w w' := (Below.refl _ _).grown r2 hbase (fun k hk => (ho1.lt k hk).1)
    refine h v' w' ⟨ps1 ++ ps2, by rw [List.map_append, e1, e2], by rw [List.flatMap_append, List.length_append]; exact r1, fun p hp => ?_⟩ hbl
    rcases List.mem_append.1 hp with hp | hp
    · exact (hf1 p hp).below hbl hB
    · exact (hf2 p hp).below hbl hB

/-- A row of one node, newly laid. -/
theorem ownN_new (w : World) (B : Nat) (nd : Nd) (s : Value) (hf : Fs w (Lo B) s nd.c) (hB : B ≤ w.heap.size) : OwnN (w.alloc (.cells #[.int .i64 nd.k, .string nd.x, .string nd.y, s] 24)) B w.heap.size (.slice (some ⟨w.heap.size, 0, none⟩) 1 1) [nd] :=
  ⟨[(nd, s)], rfl, ⟨rfl, .inr ⟨w.heap.size, 1, _, rfl, Nat.le_refl _, heap_alloc_new w _, Nat.le_refl _, by unfold maxLen; omega, rfl, rfl⟩⟩, fun p hp => by
    simp only [List.mem_singleton] at hp
    subst hp
    exact hf.below (below1 _ _) hB⟩

/-- What holds at each round of Nodes: T all nodes, m how many are wanted. -/
structure NAt (w wr : World) (B : Nat) (v : Value) (T L : List Nd) (R : F) (m : Nat) : Prop where
  bel : Below w.heap.size w wr
  own : OwnN wr B (w.heap.size + 1) v L
  eq : (L ++ nodes R).take m = T.take m
  le : L.length ≤ m

theorem take_more {α : Type} {L kn R : List α} {m : Nat} (h : L.length ≤ m) : (L ++ (kn.take (m - L.length) ++ R)).take m = (L ++ (kn ++ R)).take m := by
  rw [List.take_append, List.take_append, List.take_append, List.take_append]
  by_cases hk : kn.length ≤ m - L.length
  · rw [List.take_of_length_le (l := kn) hk]
    rw [List.take_of_length_le (l := kn) hk]
  · have e : (kn.take (m - L.length)).length = m - L.length := by rw [List.length_take]; omega
    rw [e, List.take_take, Nat.min_self, Nat.sub_self, show m - L.length - kn.length = 0 by omega]

def NodesSpec (N : Nat) : Prop := ∀ (k : Int) (x y : ByteArray) (A : Option Addr) (n C : Nat) (c : F) (m B : Nat) (w : World), c.size ≤ N → Fs w (Lo B) (.slice A n C) c → B ≤ w.heap.size → 1 ≤ m → m ≤ 100000 →
  Calls Tryd.prog 12 #[.agg #[.int .i64 k, .string x, .string y, .slice A n C], .int .i64 (m : Int)] w fun e w' => (∃ v, e = .returned v ∧ OwnN w' B w.heap.size v ((⟨k, x, y, c⟩ :: nodes c).take m)) ∧ Below w.heap.size w w'

set_option maxRecDepth 100000 in
set_option maxHeartbeats 8000000 in
theorem nodes_step (N : Nat) (ih : ∀ M, M < N → NodesSpec M) : NodesSpec N := by
  intro k x y A n C c m B w hN hf hB hm1 hm2
  have HIH := Lib.hid ih
  have b1 := below1 w (.cells #[.int .i64 k, .string x, .string y, .slice A n C] 24)
  have b2 := below1 (w.alloc (.cells #[.int .i64 k, .string x, .string y, .slice A n C] 24)) (.cells #[.int .i64 k, .string x, .string y, .slice A n C] 24)
  have b3 := b1.trans (b2.mono b1.size)
  obtain ⟨A0, C0, e, hnC, hCm⟩ := hf.slice
  injection e with q1 q2 q3
  subst q1; subst q2; subst q3
  obtain ⟨T, hT⟩ : ∃ T, (⟨k, x, y, c⟩ :: nodes c : List Nd) = T := ⟨_, rfl⟩
  have HM : Hid (NAt w ((w.alloc (.cells #[.int .i64 k, .string x, .string y, .slice A c.len C] 24)).alloc (.cells #[.int .i64 k, .string x, .string y, .slice A c.len C] 24)) B (.slice (some ⟨w.heap.size + 1, 0, none⟩) 1 1) T [⟨k, x, y, c⟩] (c.drop 0) m) := by
    refine ⟨b3, ?_, by rw [← hT]; rfl, hm1⟩
    have := ownN_new (w.alloc (.cells #[.int .i64 k, .string x, .string y, .slice A c.len C] 24)) B ⟨k, x, y, c⟩ (.slice A c.len C) (hf.below b1 hB) (Nat.le_trans hB b1.size)
    have e : (w.alloc (.cells #[.int .i64 k, .string x, .string y, .slice A c.len C] 24)).heap.size = w.heap.size + 1 := by simp
    rw [e] at this
    exact this
  have HBX : Hid (∀ W, Below (w.heap.size + 1) (w.alloc (.cells #[.int .i64 k, .string x, .string y, .slice A c.len C] 24)) W → W.cell? ⟨w.heap.size, 3, none⟩ = some (.slice A c.len C)) := fun W hW => by
    rw [hW.cell (p := ⟨w.heap.size, 3, none⟩) (by show w.heap.size < _; omega), World.cell?_alloc_at _ _ _ _ rfl]; rfl
  have HF := Lib.hid hf
  have HB := Lib.hid hB
  have hCm' : C ≤ 9223372036854775807 := hCm
  rw [hT]
  have HBB : Hid (Below (w.heap.size + 1) (w.alloc (.cells #[.int .i64 k, .string x, .string y, .slice A c.len C] 24)) ((w.alloc (.cells #[.int .i64 k, .string x, .string y, .slice A c.len C] 24)).alloc (.cells #[.int .i64 k, .string x, .string y, .slice A c.len C] 24))) := by
    show Below _ _ _
    have := b2; simpa using this
  obtain ⟨n, hn⟩ : ∃ n, c.len = n := ⟨_, rfl⟩
  rw [hn] at HM HBX HF hnC HBB ⊢
  have HN := Lib.hid hn
  clear ih hf b1 b2 b3 hB hT hn
  go_enter Tryd.func12, Tryd.ntmps12
  go_wp2
  go_loopw [5, 6] (fun s5 s6 wr => ∃ (i ln cp : Nat) (Al : Option Addr) (L : List Nd), i ≤ n ∧ L.length = ln ∧ ln ≤ m ∧ ln ≤ cp ∧ s6 = .int .i64 (i : Int) ∧ s5 = .slice Al ln cp ∧ Hid (NAt w wr B (.slice Al ln cp) T L (c.drop i) m) ∧ Hid (Below (w.heap.size + 1) (w.alloc (.cells #[.int .i64 k, .string x, .string y, .slice A n C] 24)) wr)) (fun _ i _ => n - (intOf i).toNat)
  case atStart => exact ⟨0, 1, 1, _, [⟨k, x, y, c⟩], Nat.zero_le _, rfl, hm1, Nat.le_refl _, rfl, rfl, HM.out, HBB.out⟩
  case round =>
    clear HM HBB
    obtain ⟨i, ln, cp, Al, L, hi, hL, hlm, hlc, rfl, rfl, HM, HBB⟩ := hrel
    have hq3 := HBX.out wr HBB.out
    by_cases hin : i < n
    · have hin' : (i : Int) < (n : Int) := by omega
      by_cases hlt : ln < m
      · have hlt' : (ln : Int) < (m : Int) := by omega
        obtain ⟨kk, kx, ky, kc, kr, hdr, hdr2⟩ := F.drop_cons (n := i) (f := c) (by rw [HN.out]; exact hin)
        have hfw := HF.out.below HM.out.bel HB.out
        obtain ⟨b2, off2, s2, rfl, hb2S, _, hat2⟩ := hfw.at_ hdr
        obtain ⟨Ak, Ck, rfl, _, _⟩ := hat2.kids.slice
        have e0 := hat2.c0; have e1 := hat2.c1; have e2 := hat2.c2; have e3 := hat2.c3
        have hi0 : (0 : Int) ≤ (i : Int) := by omega
        have hsz2 := size_drop hdr
        have hsub : ((m - ln : Nat) : Int) = (m : Int) - (ln : Int) := by omega
        have hcall := HIH.out kc.size (by omega) kk kx ky Ak kc.len Ck kc (m - ln) B wr (Nat.le_refl _) hat2.kids (Nat.le_trans HB.out HM.out.bel.size) (by omega) (by omega)
        rw [hsub] at hcall
        have HC := Lib.hid hcall
        have hcat : (L ++ ((⟨kk, kx, ky, kc⟩ :: nodes kc : List Nd).take (m - L.length) ++ nodes (c.drop (i + 1)))).take m = T.take m := by
          rw [take_more (by omega), ← HM.out.eq, hdr, hdr2]
          rfl
        rw [hL] at hcat
        have hkl : ((⟨kk, kx, ky, kc⟩ :: nodes kc : List Nd).take (m - ln)).length ≤ m - ln := by rw [List.length_take]; omega
        have hkn : (⟨kk, kx, ky, kc⟩ :: nodes kc : List Nd).take (m - ln) ≠ [] := by
          obtain ⟨q, hq⟩ : ∃ q, m - ln = q + 1 := ⟨m - ln - 1, by omega⟩
          rw [hq]; simp
        generalize (⟨kk, kx, ky, kc⟩ :: nodes kc : List Nd).take (m - ln) = K at *
        have HCAT := Lib.hid hcat
        have HKN := Lib.hid hkn
        clear hdr hdr2 hfw hat2 hb2S hcall hcat hkn hsz2 hsub
        go_wp2_with fail
        refine HC.out.mono ?_
        rintro e w2 ⟨⟨v2, rfl, ho2⟩, hb2⟩
        obtain ⟨a2, c2, rfl, hc2, hc2'⟩ := ho2.slice
        have HO2 := Lib.hid ho2
        have HO1 := Lib.hid (HM.out.own.below hb2 (Nat.le_trans HB.out HM.out.bel.size))
        have HW2 := Lib.hid (HM.out.bel.trans (hb2.mono HM.out.bel.size))
        have HBB2 := Lib.hid (HBB.out.trans (hb2.mono (by have := HBB.out.size; simpa using this)))
        have HS2 : Hid (w.heap.size + 1 ≤ w2.heap.size) := by
          show _ ≤ _
          have := HBB2.out.size; simpa using this
        clear ho2 hb2 hc2 hc2'
        go_wp2_with (at_builtin; refine app_nodes w2 rfl _ _ rfl B (w.heap.size + 1) wr.heap.size _ L K _ _ _ rfl rfl HO1.out HO2.out (Nat.le_succ_of_le HB.out) HS2.out HKN.out ?_ ?_)
        · omega
        intro v3 w3 ho3 hb3
        obtain ⟨a3, c3, rfl, hc3, hc3'⟩ := ho3.slice
        have hll : (L ++ K).length = ln + K.length := by rw [List.length_append, hL]
        rw [hll] at hc3 ⊢
        have HM3 : Hid (NAt w w3 B (.slice a3 (ln + K.length) c3) T (L ++ K) (c.drop (i + 1)) m) := by
          refine ⟨HW2.out.trans (hb3.mono (Nat.le_succ _)), ?_, ?_, by omega⟩
          · rw [hll] at ho3; exact ho3
          · have := HCAT.out
            rwa [← List.append_assoc] at this
        have HBB3 := Lib.hid (HBB2.out.trans hb3)
        clear ho3 hb3 hc3'
        go_wp2
        go_roundw
        case rel => exact ⟨i + 1, ln + K.length, c3, a3, L ++ K, by omega, hll, by omega, hc3, by go_num, rfl, HM3.out, HBB3.out⟩
        case measure => simp [intOf]; omega
      · have hlt' : ¬ (ln : Int) < (m : Int) := by omega
        have HE : Hid (L = T.take m) := by
          show L = _
          rw [← HM.out.eq, List.take_append_of_le_length (by omega), List.take_of_length_le (by omega)]
        clear hlt
        go_wp2
        go_ret
        exact ⟨⟨_, rfl, HE.out ▸ HM.out.own.base (Nat.le_succ _)⟩, HM.out.bel⟩
    · have hin' : ¬ (i : Int) < (n : Int) := by omega
      have HE : Hid (L = T.take m) := by
        show L = _
        rw [← HM.out.eq, F.drop_all _ _ (by rw [HN.out]; omega)]
        simp only [nodes, List.append_nil]
        rw [List.take_of_length_le (by omega)]
      clear hin
      go_wp2
      go_ret
      exact ⟨⟨_, rfl, HE.out ▸ HM.out.own.base (Nat.le_succ _)⟩, HM.out.bel⟩

theorem nodes_any (N : Nat) : NodesSpec N := by
  induction N using Nat.strongRecOn with
  | _ N ih => exact nodes_step N ih
end Go.Proofs.YtoecimgmghlfpaaDoor.Tree

/-
  Layer 5 (tree): Few: the trees that are gone through.
-/
namespace Go.Proofs.YtoecimgmghlfpaaDoor.Tree
open Go.ChangeShapes Go.WideShapes Go.ChangeAt Go.RowKit Mem
set_option linter.unusedVariables false

def wt (nd : Nd) : Nat := min nd.x.size 100000 + min nd.y.size 100000
def sumW (L : List Nd) : Nat := L.foldr (fun nd s => wt nd + s) 0
theorem sumW_cons (nd : Nd) (L : List Nd) : sumW (nd :: L) = wt nd + sumW L := rfl
theorem sumW_append : ∀ L1 L2 : List Nd, sumW (L1 ++ L2) = sumW L1 + sumW L2
  | [], L2 => by simp [sumW]
  | nd :: L, L2 => by rw [List.cons_append, sumW_cons, sumW_cons, sumW_append L L2]; omega
theorem sumW_take_step {L : List Nd} {i : Nat} {nd : Nd} (h : L[i]? = some nd) : sumW (L.take (i + 1)) = sumW (L.take i) + wt nd := by
  rw [List.take_add_one, h, sumW_append]; simp [sumW]
theorem sumW_take_le (L : List Nd) (i : Nat) : sumW (L.take i) ≤ sumW L := by
  have := sumW_append (L.take i) (L.drop i)
  rw [List.take_append_drop] at this
  omega
theorem sumW_mem {L : List Nd} {nd : Nd} (h : nd ∈ L) : wt nd ≤ sumW L := by
  induction L with
  | nil => cases h
  | cons a L ih =>
    rw [sumW_cons]
    rcases List.mem_cons.1 h with rfl | h
    · omega
    · have := ih h; omega

/-- Is a tree one that is gone through? -/
def fewB (k : Int) (x y : ByteArray) (c : F) : Bool := decide (sumW (((⟨k, x, y, c⟩ : Nd) :: nodes c).take 2001) ≤ 50000) && decide ((((⟨k, x, y, c⟩ : Nd) :: nodes c).take 2001).length ≤ 2000)

theorem small_of : ∀ (c : F), (∀ nd ∈ nodes c, wt nd ≤ 50000) → Small c
  | .nil, _ => trivial
  | .cons k x y c r, h => by
    have h0 := h ⟨k, x, y, c⟩ (by simp [nodes])
    simp only [wt] at h0
    exact ⟨by omega, by omega, small_of c fun nd hn => h nd (by simp [nodes, hn]), small_of r fun nd hn => h nd (by simp [nodes, hn])⟩
structure FewIs (x y : ByteArray) (c : F) : Prop where
  hx : x.size ≤ 50000
  hy : y.size ≤ 50000
  sm : Small c
  sz : c.size < 2000
theorem few_is {k : Int} {x y : ByteArray} {c : F} (h : fewB k x y c = true) : FewIs x y c := by
  unfold fewB at h
  rw [Bool.and_eq_true, decide_eq_true_eq, decide_eq_true_eq] at h
  obtain ⟨h1, h2⟩ := h
  have hl : (((⟨k, x, y, c⟩ : Nd) :: nodes c)).length = c.size + 1 := by rw [List.length_cons, nodes_len]
  rw [List.length_take, hl] at h2
  rw [List.take_of_length_le (by omega)] at h1
  have hm := fun nd (hn : nd ∈ (⟨k, x, y, c⟩ : Nd) :: nodes c) => Nat.le_trans (sumW_mem hn) h1
  have h0 := hm ⟨k, x, y, c⟩ (List.mem_cons_self ..)
  simp only [wt] at h0
  exact ⟨by omega, by omega, small_of c fun nd hn => hm nd (List.mem_cons_of_mem _ hn), by omega⟩

set_option maxRecDepth 100000 in
set_option maxHeartbeats 8000000 in
theorem few_any (k : Int) (x y : ByteArray) (A : Option Addr) (n C : Nat) (c : F) (w : World) (hf : Fs w (Lo w.heap.size) (.slice A n C) c) :
    Calls Tryd.prog 5 #[.agg #[.int .i64 k, .string x, .string y, .slice A n C]] w fun e w' => e = .returned (.bool (fewB k x y c)) ∧ Below w.heap.size w w' := by
  have b1 := below1 w (.cells #[.int .i64 k, .string x, .string y, .slice A n C] 24)
  have HC := Lib.hid (nodes_any c.size k x y A n C c 2001 w.heap.size (w.alloc (.cells #[.int .i64 k, .string x, .string y, .slice A n C] 24)) (Nat.le_refl _) (hf.below b1 (Nat.le_refl _)) b1.size (by omega) (by omega))
  have HV : Hid (fewB k x y c = (decide (sumW (((⟨k, x, y, c⟩ : Nd) :: nodes c).take 2001) ≤ 50000) && decide ((((⟨k, x, y, c⟩ : Nd) :: nodes c).take 2001).length ≤ 2000))) := rfl
  have HL : Hid ((((⟨k, x, y, c⟩ : Nd) :: nodes c).take 2001).length ≤ 2001) := by show _ ≤ _; rw [List.length_take]; omega
  have HB := Lib.hid b1
  generalize ((⟨k, x, y, c⟩ : Nd) :: nodes c).take 2001 = L at *
  generalize fewB k x y c = bb at *
  obtain ⟨ln, hln⟩ : ∃ ln, L.length = ln := ⟨_, rfl⟩
  rw [hln] at HV HL
  have HLN := Lib.hid hln
  have hl2 := HL.out
  clear b1 hf hln HL
  go_enter Tryd.func5, Tryd.ntmps5
  go_wp2_with fail
  refine HC.out.mono ?_
  rintro e w1 ⟨⟨v1, rfl, ho1⟩, hb1⟩
  obtain ⟨a1, c1, rfl, hc1, hc1'⟩ := ho1.slice
  rw [HLN.out] at hc1 ho1 ⊢
  have HO := Lib.hid ho1
  have HB1 := Lib.hid (HB.out.trans (hb1.mono HB.out.size))
  have hc1m : c1 ≤ 9223372036854775807 := hc1'
  clear ho1 hb1 HC hc1'
  go_wp2
  go_loopw [4, 5] (fun s4 s5 wr => ∃ i q m : Nat, i ≤ ln ∧ s5 = .int .i64 (i : Int) ∧ s4 = .int .i64 (m : Int) ∧ m ≤ 50000 ∧ Hid (m = sumW (L.take i)) ∧ wr = w1.drewN q) (fun _ s5 _ => ln - (intOf s5).toNat)
  case atStart => exact ⟨0, 0, 0, Nat.zero_le _, rfl, rfl, by omega, (by show _ = _; simp [sumW]), rfl⟩
  case round =>
    obtain ⟨i, q, m, hi, rfl, rfl, hm, hms, rfl⟩ := hrel
    by_cases hlt : i < ln
    · obtain ⟨nd, hnd⟩ : ∃ nd, L[i]? = some nd := ⟨_, List.getElem?_eq_getElem (by rw [HLN.out]; exact hlt)⟩
      obtain ⟨g, s, rfl, _, _, _, d1, d2, _, _⟩ := HO.out.at_ hnd
      have e1 : ∀ q, (w1.drewN q).cell? ⟨g, i * 4 + 1, none⟩ = some (.string nd.x) := fun _ => d1
      have e2 : ∀ q, (w1.drewN q).cell? ⟨g, i * 4 + 2, none⟩ = some (.string nd.y) := fun _ => d2
      have hlt' : (i : Int) < (ln : Int) := by omega
      have hi0 : (0 : Int) ≤ (i : Int) := by omega
      have HS : Hid (m + (min nd.x.size 100000 + min nd.y.size 100000) = sumW (L.take (i + 1))) := by
        show _ = _
        rw [sumW_take_step hnd, ← hms.out]; rfl
      have HLE := Lib.hid (sumW_take_le L (i + 1))
      clear hnd d1 d2 hms
      have hA : min ((nd.x.size : Nat) : Int) 100000 = ((min nd.x.size 100000 : Nat) : Int) := by omega
      have hAB : min ((nd.y.size : Nat) : Int) 100000 = ((min nd.y.size 100000 : Nat) : Int) := by omega
      generalize min nd.x.size 100000 = ta at *
      generalize min nd.y.size 100000 = tb at *
      generalize nd.x = tx at *
      generalize nd.y = ty at *
      by_cases hgt : 50000 < m + (ta + tb)
      · have hgt' : (50000 : Int) < (m : Int) + (ta : Int) + (tb : Int) := by omega
        have HE : Hid (bb = false) := by
          show _ = _
          rw [HV.out, decide_eq_false (by have := HS.out; have := HLE.out; omega)]; rfl
        clear hgt
        go_wp2
        go_quiet (fail)
        go_wp2
        go_ret
        exact ⟨by rw [HE.out]; rfl, drewNb HB1.out _⟩
      · have hgt' : ¬ (50000 : Int) < (m : Int) + (ta : Int) + (tb : Int) := by omega
        have hle : m + (ta + tb) ≤ 50000 := by omega
        clear hgt
        go_wp2
        go_quiet (fail)
        go_wp2
        go_roundw
        case rel => exact ⟨i + 1, _, m + (ta + tb), by omega, by go_num, by go_num, hle, HS.out, rfl⟩
        case measure => simp [intOf]; omega
    · have hlt' : ¬ (i : Int) < (ln : Int) := by omega
      obtain rfl : i = ln := by omega
      have HE : Hid (bb = decide (i ≤ 2000)) := by
        show _ = _
        rw [HV.out, decide_eq_true, Bool.true_and]
        rw [List.take_of_length_le (by rw [HLN.out]; exact Nat.le_refl _)] at hms
        rw [← hms.out]; exact hm
      clear hlt hms
      by_cases h2 : i ≤ 2000
      · have h2' : (i : Int) ≤ 2000 := by omega
        rw [decide_eq_true h2] at HE
        clear h2
        go_wp2
        go_ret
        exact ⟨by rw [HE.out]; rfl, drewNb HB1.out _⟩
      · have h2' : ¬ (i : Int) ≤ 2000 := by omega
        rw [decide_eq_false h2] at HE
        clear h2
        go_wp2
        go_ret
        exact ⟨by rw [HE.out]; rfl, drewNb HB1.out _⟩
end Go.Proofs.YtoecimgmghlfpaaDoor.Tree

/-
  Layer 5 (tree): Size.
-/
namespace Go.Proofs.YtoecimgmghlfpaaDoor.Tree
open Go.ChangeShapes Go.WideShapes Go.ChangeAt Go.RowKit Mem
set_option linter.unusedVariables false

def SizeSpec (N : Nat) : Prop := ∀ (k : Int) (x y : ByteArray) (A : Option Addr) (n C : Nat) (c : F) (w : World), c.size ≤ N → c.size ≤ 1000000000 → Fs w (Lo w.heap.size) (.slice A n C) c →
  Calls Tryd.prog 10 #[.agg #[.int .i64 k, .string x, .string y, .slice A n C]] w fun e w' => e = .returned (.int .i64 ((c.size + 1 : Nat) : Int)) ∧ Below w.heap.size w w'

/-- What holds at each round. -/
structure SAt (w wr : World) (A : Option Addr) (n C : Nat) (f : F) (m tot : Nat) : Prop where
  bel : Below w.heap.size w wr
  fs : Fs wr (Lo w.heap.size) (.slice A n C) f
  eq : m + f.size = tot

set_option maxRecDepth 100000 in
set_option maxHeartbeats 8000000 in
theorem size_step (N : Nat) (ih : ∀ M, M < N → SizeSpec M) : SizeSpec N := by
  intro k x y A n C c w hN hbig hf
  have HIH := Lib.hid ih
  have b1 := below1 w (.cells #[.int .i64 k, .string x, .string y, .slice A n C] 24)
  have HM : Hid (SAt w (w.alloc (.cells #[.int .i64 k, .string x, .string y, .slice A n C] 24)) A n C c 1 (c.size + 1)) := ⟨b1, hf.below b1 (Nat.le_refl _), by omega⟩
  have htot : c.size + 1 ≤ 1000000001 := by omega
  obtain ⟨tot, ht⟩ : ∃ tot, c.size + 1 = tot := ⟨_, rfl⟩
  rw [ht] at htot HM ⊢
  clear ih hf b1 hbig
  go_enter Tryd.func10, Tryd.ntmps10
  go_wp2
  go_loopg [3, 4] (c.size + 1) (fun p s3 s4 wr => ∃ (m : Nat) (A : Option Addr) (n C : Nat) (f : F), f.size < p ∧ f.size ≤ N ∧ m ≤ tot ∧ s3 = .int .i64 (m : Int) ∧ s4 = .slice A n C ∧ Hid (SAt w wr A n C f m tot))
  case atStart => exact ⟨1, A, n, C, c, by omega, hN, by omega, rfl, rfl, HM.out⟩
  case round =>
    clear HM hN ht
    obtain ⟨m, A, n, C, f, hsz, hN, hm, rfl, rfl, HM⟩ := hrel
    cases hfe : f with
    | nil =>
      rw [hfe] at HM
      obtain ⟨A0, C0, e, _, _⟩ := HM.out.fs.slice
      injection e with e1 e2 e3
      simp only [F.len] at e2
      subst e2
      have HE : Hid (m = tot) := by
        show m = tot
        have := HM.out.eq; simpa [F.size] using this
      clear e1 e3 hfe
      go_wp2
      go_ret
      exact ⟨by rw [← HE.out]; rfl, HM.out.bel⟩
    | cons k1 x1 y1 c1 r1 =>
      rw [hfe] at HM hsz hN
      obtain ⟨b, off, s1, rfl, hbS, hn0, hat⟩ := HM.out.fs.at_ (i := 0) rfl
      obtain ⟨A1, C1, rfl, hl1, hl1'⟩ := hat.kids.slice
      have HAT := Lib.hid hat
      obtain ⟨h1n, hnC, hCm, hrl, hr⟩ := HM.out.fs.tail
      obtain ⟨A', n', C', hsl, en, eC, hA'⟩ := tail_slice b off n C h1n hnC
      have hr2 := hr A' hA'
      rw [← en, ← eC] at hr2
      rw [← en] at hrl
      have HR1 := Lib.hid hr2
      have HRL := Lib.hid hrl
      have hn01 : (0 : Int) < (n : Int) := by omega
      have heq := HM.out.eq
      simp only [F.size] at heq hsz hN
      have HBS : Hid (b < w.heap.size) := hbS
      have hCm' : C' ≤ 9223372036854775807 := by omega
      have hn' : n' ≤ 1000000001 := by have := F.len_le_size r1; omega
      clear hfe hat hr hr2 hrl hA' en eC hbS
      go_wp2
      go_loopw [3, 21] (fun s3 i wr2 => ∃ (j m2 : Nat), j ≤ n' ∧ i = .int .i64 (j : Int) ∧ s3 = .int .i64 (m2 : Int) ∧ m2 ≤ tot ∧ Hid (m2 + (r1.drop j).size = m + 1 + r1.size) ∧ Hid (Below wr.heap.size wr wr2)) (fun _ i _ => n' - (intOf i).toNat)
      case atStart => exact ⟨0, m + 1, Nat.zero_le _, rfl, by go_num, by omega, rfl, Below.refl _ _⟩
      case round =>
        obtain ⟨j, m2, hj, rfl, rfl, hm2, hms, hbw⟩ := hrel
        have hww := HM.out.bel.trans (hbw.out.mono HM.out.bel.size)
        by_cases hlt : j < n'
        · obtain ⟨kk, kx, ky, kc, kr, hdr, hdr2⟩ := F.drop_cons (n := j) (f := r1) (by rw [HRL.out]; exact hlt)
          obtain ⟨b2, off2, s2, rfl, hb2S, _, hat2⟩ := HR1.out.at_ hdr
          obtain ⟨Ak, Ck, rfl, _, _⟩ := hat2.kids.slice
          have hb2 : b2 < wr.heap.size := Nat.lt_of_lt_of_le hb2S hww.size
          have hb2g := Nat.lt_of_lt_of_le hb2S HM.out.bel.size
          have e0 := (hbw.out.cell (p := ⟨b2, off2 + j * 4, none⟩) hb2g).trans hat2.c0
          have e1 := (hbw.out.cell (p := ⟨b2, off2 + j * 4 + 1, none⟩) hb2g).trans hat2.c1
          have e2 := (hbw.out.cell (p := ⟨b2, off2 + j * 4 + 2, none⟩) hb2g).trans hat2.c2
          have e3 := (hbw.out.cell (p := ⟨b2, off2 + j * 4 + 3, none⟩) hb2g).trans hat2.c3
          have hlt' : (j : Int) < (n' : Int) := by omega
          have hj0 : (0 : Int) ≤ (j : Int) := by omega
          have hsz2 := size_drop hdr
          have bk := below1 wr (.cells #[.int .i64 kk, .string kx, .string ky, .slice Ak kc.len Ck] 24)
          have hb3 := hww.trans (bk.mono hww.size)
          have hms2 : m2 + (kc.size + kr.size + 1) = m + 1 + r1.size := by have := hms.out; rw [hdr] at this; simpa [F.size] using this
          have HC := Lib.hid (HIH.out kc.size (by omega) kk kx ky Ak kc.len Ck kc _ (Nat.le_refl _) (by omega) (((hat2.kids.below hbw.out HM.out.bel.size).below (bk.mono hww.size) (Nat.le_refl _)).up hb3.size))
          have HDR : Hid (m2 + (kc.size + 1) + (r1.drop (j + 1)).size = m + 1 + r1.size) := by show _ = _; rw [hdr2]; omega
          have HB3 := Lib.hid (hbw.out.trans (bk.mono hbw.out.size))
          have hm3 : m2 + (kc.size + 1) ≤ tot := by omega
          clear hdr hdr2 hb2S hat2 bk hms hsz2 hb3
          obtain ⟨ks, hks⟩ : ∃ ks, kc.size + 1 = ks := ⟨_, rfl⟩
          rw [hks] at HC HDR hm3
          clear hms2 hks
          go_wp2_with fail
          refine HC.out.mono ?_
          rintro e wk ⟨rfl, hbk⟩
          have HB4 := Lib.hid (HB3.out.trans (hbk.mono HB3.out.size))
          clear hbk
          go_wp2
          go_roundw
          case rel => exact ⟨j + 1, m2 + ks, by omega, by go_num, by go_num, hm3, HDR.out, HB4.out⟩
          case measure => simp [intOf]; omega
        · have hn'' : ¬ (j : Int) < (n' : Int) := by omega
          obtain rfl : j = n' := by omega
          have hms2 : m2 = m + 1 + r1.size := by have := hms.out; rw [F.drop_all _ _ (by rw [HRL.out]; exact Nat.le_refl _)] at this; simpa [F.size] using this
          have hbl : b < wr.heap.size := Nat.lt_of_lt_of_le HBS.out hww.size
          obtain ⟨q0, q1, q2, q3⟩ := kid0 HAT.out hbw.out (Nat.lt_of_lt_of_le HBS.out HM.out.bel.size)
          have HM2 : Hid (SAt w wr A1 c1.len C1 c1 m2 tot) := ⟨hww, HAT.out.kids.below hbw.out HM.out.bel.size, by omega⟩
          clear hms hms2 heq
          go_wp2
          go_roundg (c1.size + 1)
          case measure => omega
          case rel => exact ⟨m2, A1, c1.len, C1, c1, by omega, by omega, hm2, rfl, rfl, HM2.out⟩

theorem size_any (N : Nat) : SizeSpec N := by
  induction N using Nat.strongRecOn with
  | _ N ih => exact size_step N ih
end Go.Proofs.YtoecimgmghlfpaaDoor.Tree
