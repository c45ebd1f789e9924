/-
  Layer 5 (tree): rows of nodes of a call's own, and the document's Nodes.
-/
import Derived.Test.YtoecimgmghlfpaaDoorTreeRight
import Derived.Test.YtoecimgmghlfpaaDoorMemT
import Derived.OwnWalk
import Derived.Maps.AppendAt
namespace Go.Proofs.YtoecimgmghlfpaaDoor.Tree
open Go.ChangeShapes Go.WideShapes Go.ChangeAt Go.RowKit Mem
set_option linter.unusedVariables false

theorem node_info : (Tryd.prog.info? 24).map (fun i => (i.zero, i.size, i.bytes)) = some (some (.agg #[.int .i64 0, .string ⟨#[]⟩, .string ⟨#[]⟩, .slice none 0 0]), 4, 64) := by kernel_rfl

/-- A node's cells, its Kids at s. -/
def ndC (p : Nd × Value) : List Value := [.int .i64 p.1.k, .string p.1.x, .string p.1.y, p.2]
theorem ndC_len (p : Nd × Value) : (ndC p).length = 4 := rfl

/-- The slice v, whose array is the call's own (from block base on), holds the nodes L; their Kids go through blocks below B alone. -/
def OwnN (w : World) (B base : Nat) (v : Value) (L : List Nd) : Prop :=
  ∃ ps : List (Nd × Value), ps.map (·.1) = L ∧ w.ownsRow base 24 4 v L.length (ps.flatMap ndC) ∧ ∀ p ∈ ps, Fs w (Lo B) p.2 p.1.c

theorem own_slice' {w : World} {base : Nat} {e : TypeId} {size n : Nat} {v : Value} {xs : List Value} (h : w.ownsRow base e size v n xs) : ∃ a c, v = .slice a n c ∧ n ≤ c ∧ c ≤ maxLen := by
  rcases h.2 with ⟨rfl, rfl⟩ | ⟨g, cap, cur, rfl, _, _, h1, h2, _⟩
  · exact ⟨none, 0, rfl, Nat.le_refl _, Nat.zero_le _⟩
  · exact ⟨_, _, rfl, h1, h2⟩
theorem OwnN.slice {w : World} {B base : Nat} {v : Value} {L : List Nd} (h : OwnN w B base v L) : ∃ a c, v = .slice a L.length c ∧ L.length ≤ c ∧ c ≤ maxLen := by
  obtain ⟨ps, _, ho, _⟩ := h
  exact own_slice' ho
theorem OwnN.below {w w' : World} {B base : Nat} {v : Value} {L : List Nd} (h : OwnN w B base v L) (hb : Below w.heap.size w w') (hB : B ≤ w.heap.size) : OwnN w' B base v L := by
  obtain ⟨ps, h1, ho, hf⟩ := h
  refine ⟨ps, h1, ⟨ho.1, ?_⟩, fun p hp => (hf p hp).below hb hB⟩
  rcases ho.2 with h' | ⟨g, cap, cur, a, b, hg, r⟩
  · exact .inl h'
  · exact .inr ⟨g, cap, cur, a, b, (hb.block g (lt_of_block hg)).trans hg, r⟩
theorem OwnN.base {w : World} {B base base' : Nat} {v : Value} {L : List Nd} (h : OwnN w B base v L) (hb : base' ≤ base) : OwnN w B base' v L := by
  obtain ⟨ps, h1, ho, hf⟩ := h
  refine ⟨ps, h1, ⟨ho.1, ?_⟩, hf⟩
  rcases ho.2 with h' | ⟨g, cap, cur, a, b, hg, r⟩
  · exact .inl h'
  · exact .inr ⟨g, cap, cur, a, Nat.le_trans hb b, hg, r⟩
theorem ndC_one {w : World} {B : Nat} {ps : List (Nd × Value)} (hf : ∀ p ∈ ps, Fs w (Lo B) p.2 p.1.c) : ∀ u ∈ ps.flatMap ndC, u.oneCell' = true := fun u hu => by
  obtain ⟨p, hp, hu⟩ := List.mem_flatMap.1 hu
  obtain ⟨A, C, e, _, _⟩ := (hf p hp).slice
  simp only [ndC, List.mem_cons, List.not_mem_nil, or_false] at hu
  rcases hu with rfl | rfl | rfl | rfl
  · rfl
  · rfl
  · rfl
  · rw [e]; rfl

/-- One node of such a row. -/
theorem OwnN.at_ {w : World} {B base : Nat} {A : Option Addr} {n c : Nat} {L : List Nd} (h : OwnN w B base (.slice A n c) L) {i : Nat} {nd : Nd} (hi : L[i]? = some nd) :
    ∃ g s, A = some ⟨g, 0, none⟩ ∧ base ≤ g ∧ g < w.heap.size ∧ w.cell? ⟨g, i * 4, none⟩ = some (.int .i64 nd.k) ∧ w.cell? ⟨g, i * 4 + 1, none⟩ = some (.string nd.x) ∧ w.cell? ⟨g, i * 4 + 2, none⟩ = some (.string nd.y) ∧ w.cell? ⟨g, i * 4 + 3, none⟩ = some s ∧ Fs w (Lo B) s nd.c := by
  obtain ⟨ps, h1, ho, hf⟩ := h
  have hlen : ps.length = L.length := by rw [← h1]; simp
  have hil : i < L.length := (List.getElem?_eq_some_iff.1 hi).1
  obtain ⟨p, hp⟩ : ∃ p, ps[i]? = some p := ⟨_, List.getElem?_eq_getElem (by omega)⟩
  have hpn : p.1 = nd := by
    have : (ps.map (·.1))[i]? = some p.1 := by rw [List.getElem?_map, hp]; rfl
    rw [h1, hi] at this
    exact (Option.some.inj this).symm
  rcases ho.2 with ⟨_, h0⟩ | ⟨g, cap, cur, hv, hg0, hg, q1, q2, q3, q4⟩
  · omega
  · injection hv with e1 e2 e3
    have hc := ho.cells (g := g) (by rw [e1]; rfl)
    have ad : ∀ j, (⟨g, 0, none⟩ : Addr).add j = ⟨g, j, none⟩ := fun j => by unfold Addr.add; split <;> simp_all
    have at_ : ∀ j u, (ndC p)[j]? = some u → w.cell? ⟨g, i * 4 + j, none⟩ = some u := fun j u hu => by
      have := hc (i * 4 + j) u (MemT.flat_at (sz := 4) ndC_len ps i p hp j u hu)
      rwa [ad] at this
    refine ⟨g, p.2, e1, hg0, lt_of_block hg, ?_, ?_, ?_, ?_, ?_⟩
    · have := at_ 0 _ rfl; rwa [hpn] at this
    · have := at_ 1 _ rfl; rwa [hpn] at this
    · have := at_ 2 _ rfl; rwa [hpn] at this
    · exact at_ 3 _ rfl
    · have := hf p (List.mem_of_getElem? hp); rwa [hpn] at this

theorem app_nodes (w : World) {ops : Array Oper} {rest : List Oper} {o : Oper} {a : Act} {Q : Exit → Act → World → Prop} (hgd : o.guard = none) (s x : Operand)
    (ho : o.op = .call { callee := .builtin .append, args := #[s, x], argTypes := #[22, 22] }) (B base base2 : Nat) (v : Value) (L1 L2 : List Nd) (A : Option Addr) (m c : Nat) (hs : a.eval s = v) (hx : a.eval x = .slice A m c)
    (h1 : OwnN w B base v L1) (h2 : OwnN w B base2 (.slice A m c) L2) (hB : B ≤ base) (hbase : base ≤ w.heap.size) (hne : L2 ≠ []) (hlen : L1.length + L2.length ≤ 1000000)
    (h : ∀ v' w', OwnN w' B base v' (L1 ++ L2) → Below base w w' → wpList Tryd.prog ops Q rest (a.put o.dst v') w') : wpList Tryd.prog ops Q (o :: rest) a w := by
  obtain ⟨i0, hi0, hz0, hz1, hz2⟩ := info_parts node_info
  obtain ⟨ps1, e1, ho1, hf1⟩ := h1
  obtain ⟨ps2, e2, ho2, hf2⟩ := h2
  have hm : m = L2.length := by
    obtain ⟨a', c', e, _, _⟩ := own_slice' ho2
    injection e
  subst hm
  rcases ho2.2 with ⟨_, h0⟩ | ⟨g, cap, cur, hv, hg0, hg, q1, q2, q3, q4⟩
  · exact absurd (List.eq_nil_of_length_eq_zero h0) hne
  · have e3 : A = some ⟨g, 0, none⟩ := by injection hv
    subst e3
    refine wpList_append_own_at (P := Tryd.prog) w hgd s x 22 ho base 24 i0 (.agg #[.int .i64 0, .string ⟨#[]⟩, .string ⟨#[]⟩, .slice none 0 0]) 4 64 Tryd.underlying22 hi0 hz0 hz1 hz2 rfl (by decide) v L1.length _ hs ho1 ⟨g, 0, none⟩ L2.length c (ps2.flatMap ndC) hx ho2.1 (ho2.cells rfl) (ndC_one hf2) (by unfold maxLen; omega) (by omega) hbase fun v' w' r1 r2 _ _ => ?_
    have hbl : Below base w w' := (Below.refl _ _).grown r2 hbase (fun k hk => (ho1.lt k hk).1)
    refine h v' w' ⟨ps1 ++ ps2, by rw [List.map_append, e1, e2], by rw [List.flatMap_append, List.length_append]; exact r1, fun p hp => ?_⟩ hbl
    rcases List.mem_append.1 hp with hp | hp
    · exact (hf1 p hp).below hbl hB
    · exact (hf2 p hp).below hbl hB

/-- A row of one node, newly laid. -/
theorem ownN_new (w : World) (B : Nat) (nd : Nd) (s : Value) (hf : Fs w (Lo B) s nd.c) (hB : B ≤ w.heap.size) : OwnN (w.alloc (.cells #[.int .i64 nd.k, .string nd.x, .string nd.y, s] 24)) B w.heap.size (.slice (some ⟨w.heap.size, 0, none⟩) 1 1) [nd] :=
  ⟨[(nd, s)], rfl, ⟨rfl, .inr ⟨w.heap.size, 1, _, rfl, Nat.le_refl _, heap_alloc_new w _, Nat.le_refl _, by unfold maxLen; omega, rfl, rfl⟩⟩, fun p hp => by
    simp only [List.mem_singleton] at hp
    subst hp
    exact hf.below (below1 _ _) hB⟩

/-- What holds at each round of Nodes: T all nodes, m how many are wanted. -/
structure NAt (w wr : World) (B : Nat) (v : Value) (T L : List Nd) (R : F) (m : Nat) : Prop where
  bel : Below w.heap.size w wr
  own : OwnN wr B (w.heap.size + 1) v L
  eq : (L ++ nodes R).take m = T.take m
  le : L.length ≤ m

theorem take_more {α : Type} {L kn R : List α} {m : Nat} (h : L.length ≤ m) : (L ++ (kn.take (m - L.length) ++ R)).take m = (L ++ (kn ++ R)).take m := by
  rw [List.take_append, List.take_append, List.take_append, List.take_append]
  by_cases hk : kn.length ≤ m - L.length
  · rw [List.take_of_length_le (l := kn) hk]
    rw [List.take_of_length_le (l := kn) hk]
  · have e : (kn.take (m - L.length)).length = m - L.length := by rw [List.length_take]; omega
    rw [e, List.take_take, Nat.min_self, Nat.sub_self, show m - L.length - kn.length = 0 by omega]

def NodesSpec (N : Nat) : Prop := ∀ (k : Int) (x y : ByteArray) (A : Option Addr) (n C : Nat) (c : F) (m B : Nat) (w : World), c.size ≤ N → Fs w (Lo B) (.slice A n C) c → B ≤ w.heap.size → 1 ≤ m → m ≤ 100000 →
  Calls Tryd.prog 12 #[.agg #[.int .i64 k, .string x, .string y, .slice A n C], .int .i64 (m : Int)] w fun e w' => (∃ v, e = .returned v ∧ OwnN w' B w.heap.size v ((⟨k, x, y, c⟩ :: nodes c).take m)) ∧ Below w.heap.size w w'

set_option maxRecDepth 100000 in
set_option maxHeartbeats 8000000 in
theorem nodes_step (N : Nat) (ih : ∀ M, M < N → NodesSpec M) : NodesSpec N := by
  intro k x y A n C c m B w hN hf hB hm1 hm2
  have HIH := Lib.hid ih
  have b1 := below1 w (.cells #[.int .i64 k, .string x, .string y, .slice A n C] 24)
  have b2 := below1 (w.alloc (.cells #[.int .i64 k, .string x, .string y, .slice A n C] 24)) (.cells #[.int .i64 k, .string x, .string y, .slice A n C] 24)
  have b3 := b1.trans (b2.mono b1.size)
  obtain ⟨A0, C0, e, hnC, hCm⟩ := hf.slice
  injection e with q1 q2 q3
  subst q1; subst q2; subst q3
  obtain ⟨T, hT⟩ : ∃ T, (⟨k, x, y, c⟩ :: nodes c : List Nd) = T := ⟨_, rfl⟩
  have HM : Hid (NAt w ((w.alloc (.cells #[.int .i64 k, .string x, .string y, .slice A c.len C] 24)).alloc (.cells #[.int .i64 k, .string x, .string y, .slice A c.len C] 24)) B (.slice (some ⟨w.heap.size + 1, 0, none⟩) 1 1) T [⟨k, x, y, c⟩] (c.drop 0) m) := by
    refine ⟨b3, ?_, by rw [← hT]; rfl, hm1⟩
    have := ownN_new (w.alloc (.cells #[.int .i64 k, .string x, .string y, .slice A c.len C] 24)) B ⟨k, x, y, c⟩ (.slice A c.len C) (hf.below b1 hB) (Nat.le_trans hB b1.size)
    have e : (w.alloc (.cells #[.int .i64 k, .string x, .string y, .slice A c.len C] 24)).heap.size = w.heap.size + 1 := by simp
    rw [e] at this
    exact this
  have HBX : Hid (∀ W, Below (w.heap.size + 1) (w.alloc (.cells #[.int .i64 k, .string x, .string y, .slice A c.len C] 24)) W → W.cell? ⟨w.heap.size, 3, none⟩ = some (.slice A c.len C)) := fun W hW => by
    rw [hW.cell (p := ⟨w.heap.size, 3, none⟩) (by show w.heap.size < _; omega), World.cell?_alloc_at _ _ _ _ rfl]; rfl
  have HF := Lib.hid hf
  have HB := Lib.hid hB
  have hCm' : C ≤ 9223372036854775807 := hCm
  rw [hT]
  have HBB : Hid (Below (w.heap.size + 1) (w.alloc (.cells #[.int .i64 k, .string x, .string y, .slice A c.len C] 24)) ((w.alloc (.cells #[.int .i64 k, .string x, .string y, .slice A c.len C] 24)).alloc (.cells #[.int .i64 k, .string x, .string y, .slice A c.len C] 24))) := by
    show Below _ _ _
    have := b2; simpa using this
  obtain ⟨n, hn⟩ : ∃ n, c.len = n := ⟨_, rfl⟩
  rw [hn] at HM HBX HF hnC HBB ⊢
  have HN := Lib.hid hn
  clear ih hf b1 b2 b3 hB hT hn
  go_enter Tryd.func12, Tryd.ntmps12
  go_wp2
  go_loopw [5, 6] (fun s5 s6 wr => ∃ (i ln cp : Nat) (Al : Option Addr) (L : List Nd), i ≤ n ∧ L.length = ln ∧ ln ≤ m ∧ ln ≤ cp ∧ s6 = .int .i64 (i : Int) ∧ s5 = .slice Al ln cp ∧ Hid (NAt w wr B (.slice Al ln cp) T L (c.drop i) m) ∧ Hid (Below (w.heap.size + 1) (w.alloc (.cells #[.int .i64 k, .string x, .string y, .slice A n C] 24)) wr)) (fun _ i _ => n - (intOf i).toNat)
  case atStart => exact ⟨0, 1, 1, _, [⟨k, x, y, c⟩], Nat.zero_le _, rfl, hm1, Nat.le_refl _, rfl, rfl, HM.out, HBB.out⟩
  case round =>
    clear HM HBB
    obtain ⟨i, ln, cp, Al, L, hi, hL, hlm, hlc, rfl, rfl, HM, HBB⟩ := hrel
    have hq3 := HBX.out wr HBB.out
    by_cases hin : i < n
    · have hin' : (i : Int) < (n : Int) := by omega
      by_cases hlt : ln < m
      · have hlt' : (ln : Int) < (m : Int) := by omega
        obtain ⟨kk, kx, ky, kc, kr, hdr, hdr2⟩ := F.drop_cons (n := i) (f := c) (by rw [HN.out]; exact hin)
        have hfw := HF.out.below HM.out.bel HB.out
        obtain ⟨b2, off2, s2, rfl, hb2S, _, hat2⟩ := hfw.at_ hdr
        obtain ⟨Ak, Ck, rfl, _, _⟩ := hat2.kids.slice
        have e0 := hat2.c0; have e1 := hat2.c1; have e2 := hat2.c2; have e3 := hat2.c3
        have hi0 : (0 : Int) ≤ (i : Int) := by omega
        have hsz2 := size_drop hdr
        have hsub : ((m - ln : Nat) : Int) = (m : Int) - (ln : Int) := by omega
        have hcall := HIH.out kc.size (by omega) kk kx ky Ak kc.len Ck kc (m - ln) B wr (Nat.le_refl _) hat2.kids (Nat.le_trans HB.out HM.out.bel.size) (by omega) (by omega)
        rw [hsub] at hcall
        have HC := Lib.hid hcall
        have hcat : (L ++ ((⟨kk, kx, ky, kc⟩ :: nodes kc : List Nd).take (m - L.length) ++ nodes (c.drop (i + 1)))).take m = T.take m := by
          rw [take_more (by omega), ← HM.out.eq, hdr, hdr2]
          rfl
        rw [hL] at hcat
        have hkl : ((⟨kk, kx, ky, kc⟩ :: nodes kc : List Nd).take (m - ln)).length ≤ m - ln := by rw [List.length_take]; omega
        have hkn : (⟨kk, kx, ky, kc⟩ :: nodes kc : List Nd).take (m - ln) ≠ [] := by
          obtain ⟨q, hq⟩ : ∃ q, m - ln = q + 1 := ⟨m - ln - 1, by omega⟩
          rw [hq]; simp
        generalize (⟨kk, kx, ky, kc⟩ :: nodes kc : List Nd).take (m - ln) = K at *
        have HCAT := Lib.hid hcat
        have HKN := Lib.hid hkn
        clear hdr hdr2 hfw hat2 hb2S hcall hcat hkn hsz2 hsub
        go_wp2_with fail
        refine HC.out.mono ?_
        rintro e w2 ⟨⟨v2, rfl, ho2⟩, hb2⟩
        obtain ⟨a2, c2, rfl, hc2, hc2'⟩ := ho2.slice
        have HO2 := Lib.hid ho2
        have HO1 := Lib.hid (HM.out.own.below hb2 (Nat.le_trans HB.out HM.out.bel.size))
        have HW2 := Lib.hid (HM.out.bel.trans (hb2.mono HM.out.bel.size))
        have HBB2 := Lib.hid (HBB.out.trans (hb2.mono (by have := HBB.out.size; simpa using this)))
        have HS2 : Hid (w.heap.size + 1 ≤ w2.heap.size) := by
          show _ ≤ _
          have := HBB2.out.size; simpa using this
        clear ho2 hb2 hc2 hc2'
        go_wp2_with (at_builtin; refine app_nodes w2 rfl _ _ rfl B (w.heap.size + 1) wr.heap.size _ L K _ _ _ rfl rfl HO1.out HO2.out (Nat.le_succ_of_le HB.out) HS2.out HKN.out ?_ ?_)
        · omega
        intro v3 w3 ho3 hb3
        obtain ⟨a3, c3, rfl, hc3, hc3'⟩ := ho3.slice
        have hll : (L ++ K).length = ln + K.length := by rw [List.length_append, hL]
        rw [hll] at hc3 ⊢
        have HM3 : Hid (NAt w w3 B (.slice a3 (ln + K.length) c3) T (L ++ K) (c.drop (i + 1)) m) := by
          refine ⟨HW2.out.trans (hb3.mono (Nat.le_succ _)), ?_, ?_, by omega⟩
          · rw [hll] at ho3; exact ho3
          · have := HCAT.out
            rwa [← List.append_assoc] at this
        have HBB3 := Lib.hid (HBB2.out.trans hb3)
        clear ho3 hb3 hc3'
        go_wp2
        go_roundw
        case rel => exact ⟨i + 1, ln + K.length, c3, a3, L ++ K, by omega, hll, by omega, hc3, by go_num, rfl, HM3.out, HBB3.out⟩
        case measure => simp [intOf]; omega
      · have hlt' : ¬ (ln : Int) < (m : Int) := by omega
        have HE : Hid (L = T.take m) := by
          show L = _
          rw [← HM.out.eq, List.take_append_of_le_length (by omega), List.take_of_length_le (by omega)]
        clear hlt
        go_wp2
        go_ret
        exact ⟨⟨_, rfl, HE.out ▸ HM.out.own.base (Nat.le_succ _)⟩, HM.out.bel⟩
    · have hin' : ¬ (i : Int) < (n : Int) := by omega
      have HE : Hid (L = T.take m) := by
        show L = _
        rw [← HM.out.eq, F.drop_all _ _ (by rw [HN.out]; omega)]
        simp only [nodes, List.append_nil]
        rw [List.take_of_length_le (by omega)]
      clear hin
      go_wp2
      go_ret
      exact ⟨⟨_, rfl, HE.out ▸ HM.out.own.base (Nat.le_succ _)⟩, HM.out.bel⟩

theorem nodes_any (N : Nat) : NodesSpec N := by
  induction N using Nat.strongRecOn with
  | _ N ih => exact nodes_step N ih
end Go.Proofs.YtoecimgmghlfpaaDoor.Tree
