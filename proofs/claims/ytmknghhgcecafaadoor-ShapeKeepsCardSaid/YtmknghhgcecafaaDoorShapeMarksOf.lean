/-
  Layer 10 (shape): marksOf: one tree's numbers, by the map of words.
-/
import Derived.Test.YtmknghhgcecafaaDoorJxG
import Derived.Test.YtmknghhgcecafaaDoorShapeAdd
import Derived.StillTailTactics
namespace Go.Proofs.YtmknghhgcecafaaDoor.Shape
open Go.ChangeShapes Go.WideShapes Go.ChangeAt Go.RowKit Mem Tree
set_option linter.unusedVariables false

theorem tops_drop : ∀ (f : F) (j : Nat) (t : Nd), (tops f)[j]? = some t → ∃ r, f.drop j = .cons t.k t.x t.y t.c r
  | .nil, j, t, h => by simp [tops] at h
  | .cons k x y c r, 0, t, h => by
    simp only [tops, List.getElem?_cons_zero, Option.some.injEq] at h
    subst h
    exact ⟨r, rfl⟩
  | .cons k x y c r, j + 1, t, h => tops_drop r j t (by simpa [tops] using h)
/-- Where a node's Kid stands. -/
theorem kid_top {T : F} {p j : Nat} {n t : Nd} (hn : (nodes T)[p]? = some n) (ht : (tops n.c)[j]? = some t) : ∃ q, (places (p + 1) n.c)[j]? = some q ∧ (nodes T)[q]? = some t ∧ p < q ∧ q < T.size := by
  obtain ⟨r, hr⟩ := tops_drop n.c j t ht
  obtain ⟨q, h1, h2, h3, h4⟩ := places_drop n.c (p + 1) j _ _ _ _ _ hr
  have hs := sub_nodes T p n hn
  have hlt : q - (p + 1) < n.c.size := by
    have := (List.getElem?_eq_some_iff.1 h3).1
    rwa [nodes_len] at this
  refine ⟨q, h1, ?_, by omega, by omega⟩
  have := hs.2 (q - (p + 1)) hlt
  rw [show p + 1 + (q - (p + 1)) = q by omega] at this
  rw [this, h3]
/-- The empty Plan. -/
theorem ps_start0 {w3 : World} {g B0 : Nat} (hg : w3.heap[g]? = some (.cells #[.slice none 0 0, .slice none 0 0, .slice none 0 0, .slice none 0 0] 30 (0, 0))) (hg2 : w3.heap.size = g + 1) (hB : B0 ≤ g) : PS w3 g (Lo B0) [] g [] [] [] [] := by
  have ho : w3.ownsRow 0 30 4 (.slice (some ⟨g, 0, none⟩) 1 1) 1 [.slice none 0 0, .slice none 0 0, .slice none 0 0, .slice none 0 0] :=
    ⟨rfl, .inr ⟨g, 1, #[.slice none 0 0, .slice none 0 0, .slice none 0 0, .slice none 0 0], rfl, Nat.zero_le _, hg, Nat.le_refl _, by unfold maxLen; omega, rfl, rfl⟩⟩
  have h0 : Fam w3 g [boxT 30 g [.slice none 0 0, .slice none 0 0, .slice none 0 0, .slice none 0 0]] := ⟨fun t ht => by rw [List.mem_singleton.1 ht]; exact ho, fun t ht k hk => by
    rw [List.mem_singleton.1 ht] at hk
    have hk : some g = some k := hk
    injection hk with hk
    omega, List.pairwise_singleton _ _, by omega⟩
  have h1 := (((h0.nilRow (e := 24) (sz := 4)).nilRow (e := 3) (sz := 1)).nilRow (e := 3) (sz := 1)).nilRow (e := 27) (sz := 1)
  exact ⟨⟨.slice none 0 0, .slice none 0 0, .slice none 0 0, .slice none 0 0, [], [], h1, rfl, fun p hp => (by cases hp), rfl⟩, fun b hb => .inl (Nat.lt_of_lt_of_le hb hB)⟩
/-- What marksOf leaves: dict is what the map knows by then. -/
structure MkPost (w : World) (bm nb : Nat) (dict : List Nd) (T : F) (v : Value) (w' : World) (KS' : List (List UInt8)) (dict' : List Nd) (Ms : List Nat) : Prop where
  grown : w.grownBy w' (some bm)
  map : ∃ D nb', MapAt w' bm nb' D ∧ KM D KS' ∧ nb' ≤ nb + T.size
  dic : Dict KS' dict'
  pre : dict <+: dict'
  few : dict'.length ≤ dict.length + T.size
  row : w'.ownsRow w.heap.size 3 1 v Ms.length (Ms.map nv)
  len : Ms.length = T.size
  is : ∀ (p : Nat) (nd : Nd), (nodes T)[p]? = some nd → ∃ m, Ms[p]? = some m ∧ dict'[m]? = some nd
theorem small_at : ∀ (f : F), Small f → ∀ nd ∈ nodes f, nd.x.size ≤ 1000000 ∧ nd.y.size ≤ 1000000
  | .nil, _, nd, h => by cases h
  | .cons k x y c r, hs, nd, h => by
    simp only [nodes, List.mem_cons, List.mem_append] at h
    obtain ⟨h1, h2, h3, h4⟩ := hs
    rcases h with rfl | h | h
    · exact ⟨by simp only; omega, by simp only; omega⟩
    · exact small_at c h3 nd h
    · exact small_at r h4 nd h
theorem kinds_at : ∀ (f : F), Kinds f → ∀ nd ∈ nodes f, InK nd.k
  | .nil, _, nd, h => by cases h
  | .cons k x y c r, hs, nd, h => by
    simp only [nodes, List.mem_cons, List.mem_append] at h
    obtain ⟨h1, h2, h3⟩ := hs
    rcases h with rfl | h | h
    · exact h1
    · exact kinds_at c h2 nd h
    · exact kinds_at r h3 nd h
theorem pow_grown {w w' : World} {bm n : Nat} {D : Dm} (h : Pow w) (hm : MapAt w bm n D) (hg : w.grownBy w' (some bm)) : Pow w' := by
  obtain ⟨es, clock, hb, _⟩ := hm
  unfold Pow Lib.TabIs World.var? at *
  cases hgl : (Tryd.prog).globalNamed "internal/strconv.uint64pow10" with
  | none => simp [hgl] at h
  | some g =>
    simp only [hgl, Option.bind_some] at h ⊢
    have hlt : g < w.heap.size := by
      rcases Nat.lt_or_ge g w.heap.size with h' | h'
      · exact h'
      · rw [Array.getElem?_eq_none h'] at h; simp at h
    have hne : g ≠ bm := fun e => by
      subst e
      rw [hb] at h
      simp at h
    rw [hg.block g hlt (fun e => hne (Option.some.inj e))]
    exact h
theorem powB_grown {w w' : World} {bm n B : Nat} {D : Dm} (h : Pow w) (hm : MapAt w bm n D) (hg : w.grownBy w' (some bm)) (hB : w.heap.size ≤ B) : PowB B w' := fun w'' hb => pow_grown h hm (grown_bel hg hB hb)
theorem kidB_len : ∀ l : List Nat, (∀ m ∈ l, m < 10000000) → (kidB l).length ≤ 22 * l.length
  | [], _ => Nat.le_refl _
  | a :: l, h => by
    have ih := kidB_len l fun m hm => h m (List.mem_cons_of_mem _ hm)
    have ha := h a List.mem_cons_self
    have h1 := Lib.itoa_length_le (a : Int) (by omega) (by omega)
    show (numB (a : Int) ++ kidB l).length ≤ _
    unfold numB
    simp only [List.length_append, List.length_cons, List.length_nil]
    omega
/-- How far the numbers of a tree have come: all places from e on have theirs. -/
structure MI (w : World) (B bm nb : Nat) (dict0 L : List Nd) (N e : Nat) (wv mv : Value) (PR0 : List Thing) (wl : List UInt8) (mc : List Value) (D : Dm) (KS : List (List UInt8)) (dict : List Nd) (W : World) : Prop where
  fam : Fam W B (rowT 5 1 wv wl.length (Lib.byteCells wl) :: rowT 3 1 mv N mc :: PR0)
  map : ∃ nb', MapAt W bm nb' D ∧ nb' ≤ nb + (N - e)
  km : KM D KS
  dic : Dict KS dict
  pre : dict0 <+: dict
  few : dict.length ≤ dict0.length + (N - e)
  len : mc.length = N
  is : ∀ (p : Nat) (nd : Nd), e ≤ p → L[p]? = some nd → ∃ m, mc[p]? = some (nv m) ∧ dict[m]? = some nd
  grown : w.grownBy W (some bm)
theorem Dict.knodup {KS : List (List UInt8)} {dict : List Nd} (h : Dict KS dict) : KS.Nodup := by
  unfold List.Nodup
  rw [List.pairwise_iff_getElem]
  intro i j hi hj hij e
  have h1 : KS[i]? = some (KS[i]'hi) := List.getElem?_eq_getElem hi
  have h2 : KS[j]? = some (KS[i]'hi) := by rw [e]; exact List.getElem?_eq_getElem hj
  have := h.inj h1 h2
  omega
theorem wf_nat {n : Nat} (h : n ≤ 1000000000) : (Lit.int .i64 (n : Int)).wf = true := by
  simp [Lit.wf]
  exact ⟨by rw [show IntKind.i64.min = -9223372036854775808 from rfl]; omega, by omega⟩
theorem list_nv : ∀ (l : List Value), (∀ p, p < l.length → ∃ m, l[p]? = some (nv m)) → ∃ Ms : List Nat, l = Ms.map nv
  | [], _ => ⟨[], rfl⟩
  | v :: l, h => by
    obtain ⟨m, hm⟩ := h 0 (by simp)
    obtain ⟨Ms, hMs⟩ := list_nv l fun p hp => by
      have := h (p + 1) (by simpa using hp)
      simpa using this
    simp only [List.getElem?_cons_zero, Option.some.injEq] at hm
    exact ⟨m :: Ms, by rw [hm, hMs]; rfl⟩
theorem mi_end {w W : World} {bm nb : Nat} {dict0 : List Nd} {T : F} {N : Nat} {wv mv : Value} {PR0 : List Thing} {wl : List UInt8} {mc : List Value} {D : Dm} {KS : List (List UInt8)} {dict : List Nd} (h : MI w (w.heap.size + 1) bm nb dict0 (nodes T) N 0 wv mv PR0 wl mc D KS dict W) (hN : T.size = N) :
    ∃ v KS' dict' Ms, Ending.returned mv = .returned v ∧ MkPost w bm nb dict0 T v W KS' dict' Ms := by
  subst hN
  obtain ⟨Ms, rfl⟩ := list_nv mc fun p hp => by
    rw [h.len] at hp
    obtain ⟨nd, hnd⟩ : ∃ nd, (nodes T)[p]? = some nd := ⟨_, List.getElem?_eq_getElem (by rw [nodes_len]; exact hp)⟩
    obtain ⟨m, hm, _⟩ := h.is p nd (Nat.zero_le _) hnd
    exact ⟨m, hm⟩
  have hl : Ms.length = T.size := by have := h.len; rwa [List.length_map] at this
  obtain ⟨nb', h1, h2⟩ := h.map
  refine ⟨mv, KS, dict, Ms, rfl, h.grown, ⟨D, nb', h1, h.km, h2⟩, h.dic, h.pre, h.few, ?_, hl, fun p nd hnd => ?_⟩
  · rw [hl]
    exact own_up (h.fam.get (i := 1) rfl) fun k hk => by have := h.fam.ge _ (List.mem_of_getElem? (i := 1) rfl) k hk; omega
  · obtain ⟨m, h3, h4⟩ := h.is p nd (Nat.zero_le _) hnd
    rw [List.getElem?_map] at h3
    cases hp : Ms[p]? with
    | none => rw [hp] at h3; cases h3
    | some q =>
      rw [hp] at h3
      have h3 : nv q = nv m := Option.some.inj h3
      have : q = m := by injection h3 with _ h3; omega
      subst this
      exact ⟨q, rfl, h4⟩
theorem mi_step {w W W' : World} {B bm nb : Nat} {dict0 L : List Nd} {N p i : Nat} {wv mv wv' : Value} {PR0 : List Thing} {wl wl' : List UInt8} {mc : List Value} {D D' : Dm} {KS KS' : List (List UInt8)} {dict dict' : List Nd} {nd : Nd} (h : MI w B bm nb dict0 L N (p + 1) wv mv PR0 wl mc D KS dict W) (hp : p < N)
    (hf : Fam W' B (rowT 5 1 wv' wl'.length (Lib.byteCells wl') :: rowT 3 1 mv N (mc.set p (nv i)) :: PR0)) (hm : ∃ nb', MapAt W' bm nb' D' ∧ nb' ≤ nb + (N - p)) (hk : KM D' KS') (hd : Dict KS' dict') (hpre : dict <+: dict') (hfew : dict'.length ≤ dict.length + 1)
    (hnd : L[p]? = some nd) (hi : dict'[i]? = some nd) (hg : w.grownBy W' (some bm)) : MI w B bm nb dict0 L N p wv' mv PR0 wl' (mc.set p (nv i)) D' KS' dict' W' := by
  refine ⟨hf, hm, hk, hd, h.pre.trans hpre, by have := h.few; omega, by rw [List.length_set]; exact h.len, fun q nd' hq hnd' => ?_, hg⟩
  by_cases e : p = q
  · subst e
    rw [hnd] at hnd'
    injection hnd' with hnd'
    subst hnd'
    exact ⟨i, by rw [List.getElem?_set_self (by rw [h.len]; exact hp)], hi⟩
  · obtain ⟨m, h1, h2⟩ := h.is q nd' (by omega) hnd'
    exact ⟨m, by rw [List.getElem?_set_ne e]; exact h1, pre_at hpre h2⟩
set_option maxRecDepth 100000 in
set_option maxHeartbeats 16000000 in
theorem marksOf_any (k : Int) (x y : ByteArray) (A : Option Addr) (n C : Nat) (c : F) (w : World) (bm nb : Nat) (D : Dm) (KS : List (List UInt8)) (dict : List Nd) (hf : Fs w (Lo w.heap.size) (.slice A n C) c) (hc : c.size ≤ 1000) (hs : Small (one k x y c)) (hk : Kinds (one k x y c))
    (hm : MapAt w bm nb D) (hkm : KM D KS) (hd : Dict KS dict) (hnb : nb ≤ 1000000) (hdl : dict.length ≤ 1000000) (hP : Pow w) :
    Calls Tryd.prog 26 #[.agg #[.int .i64 k, .string x, .string y, .slice A n C], .map (some bm)] w fun e w' => ∃ v KS' dict' Ms, e = .returned v ∧ MkPost w bm nb dict (one k x y c) v w' KS' dict' Ms := by
  obtain ⟨i0, hi0, hz0, hz1, hz2⟩ := info_parts int_info
  have hbm : bm < w.heap.size := World.ownsMap.lt hm
  have b1 := below1 w (.cells #[.int .i64 k, .string x, .string y, .slice A n C] 24)
  have b2 := below1 (w.alloc (.cells #[.int .i64 k, .string x, .string y, .slice A n C] 24)) (.cells #[.slice none 0 0, .slice none 0 0, .slice none 0 0, .slice none 0 0] 30)
  have b12 := b1.trans (b2.mono b1.size)
  have hg : ((w.alloc (.cells #[.int .i64 k, .string x, .string y, .slice A n C] 24)).alloc (.cells #[.slice none 0 0, .slice none 0 0, .slice none 0 0, .slice none 0 0] 30)).heap[w.heap.size + 1]? = some (.cells #[.slice none 0 0, .slice none 0 0, .slice none 0 0, .slice none 0 0] 30 (0, 0)) := blk2' w _ _
  have hsz : ((w.alloc (.cells #[.int .i64 k, .string x, .string y, .slice A n C] 24)).alloc (.cells #[.slice none 0 0, .slice none 0 0, .slice none 0 0, .slice none 0 0] 30)).heap.size = w.heap.size + 1 + 1 := by simp
  have hq := box_cl2 w k x y (.slice A n C) (W := (w.alloc (.cells #[.int .i64 k, .string x, .string y, .slice A n C] 24)).alloc (.cells #[.slice none 0 0, .slice none 0 0, .slice none 0 0, .slice none 0 0] 30)) b2
  obtain ⟨w3, hw3⟩ : ∃ w3, (w.alloc (.cells #[.int .i64 k, .string x, .string y, .slice A n C] 24)).alloc (.cells #[.slice none 0 0, .slice none 0 0, .slice none 0 0, .slice none 0 0] 30) = w3 := ⟨_, rfl⟩
  rw [hw3] at b12 hg hsz hq
  obtain ⟨q0, q1, q2, q3⟩ := hq
  have hps := ps_start0 (B0 := w.heap.size) hg hsz (Nat.le_succ _)
  have HAD := Lib.hid (add_any c.size k x y A n C c (-1) w3 (w.heap.size + 1) (Lo w.heap.size) [] (w.heap.size + 1) [] [] [] [] (Nat.le_refl _) (hf.below b12 (Nat.le_refl _)) hps rfl rfl rfl (by simp only [List.length_nil]; omega) (by omega) (by omega))
  have HB3 := Lib.hid b12
  have HMP := Lib.hid (hm.kept (b12.block _ hbm))
  have HKM := Lib.hid hkm
  have HDI := Lib.hid hd
  have HNB := Lib.hid hnb
  have HDL := Lib.hid hdl
  have HPW : Hid (∀ W, w.grownBy W (some bm) → PowB (w.heap.size + 1) W) := fun W hW => powB_grown hP hm hW (Nat.le_succ _)
  have HSM := Lib.hid (small_at _ hs)
  have HKI := Lib.hid (kinds_at _ hk)
  have HBM := Lib.hid hbm
  have hT : (one k x y c).size = c.size + 1 := one_size k x y c
  have hT1 : 1 ≤ (one k x y c).size := by omega
  have hT2 : (one k x y c).size ≤ 1001 := by omega
  simp only [List.nil_append, List.length_nil] at HAD
  obtain ⟨T, hTe⟩ : ∃ T, one k x y c = T := ⟨_, rfl⟩
  rw [hTe] at HAD hT1 hT2 HSM HKI
  rw [hTe]
  clear hf hc hs hk hm hkm hd hnb hdl hP b1 b2 b12 hg hsz hps hbm hT hTe
  go_enter Tryd.func26, Tryd.ntmps26
  go_wp2_with fail
  try rw [hw3]
  clear hw3
  refine HAD.out.mono ?_
  rintro e w4 ⟨rfl, hp4, hb4⟩
  obtain ⟨vN, vP, vS, vK, us, nps, hF, hL, hfs, hus⟩ := hp4.all
  have hnl : nps.length = T.size := by rw [← List.length_map (f := (·.1)), hL, nodes_len]
  obtain ⟨N, hN⟩ : ∃ N, T.size = N := ⟨_, rfl⟩
  rw [hN] at hnl hT1 hT2
  have hul : us.length = N := by rw [hus, kidF_len, hN]
  obtain ⟨gN, cNp, rfl, _, _⟩ := hF.sliceAt (i := 1) rfl (by omega)
  obtain ⟨gK, cKp, rfl, _, _⟩ := hF.sliceAt (i := 4) rfl (by omega)
  obtain ⟨cN, hcN⟩ : ∃ cN, nps.flatMap ndC = cN := ⟨_, rfl⟩
  obtain ⟨nP, hnP⟩ : ∃ nP, (parF (-1) 0 T).length = nP := ⟨_, rfl⟩
  obtain ⟨nS, hnS⟩ : ∃ nS, (sizF T).length = nS := ⟨_, rfl⟩
  obtain ⟨cP, hcP⟩ : ∃ cP, (parF (-1) 0 T).map iv = cP := ⟨_, rfl⟩
  obtain ⟨cS, hcS⟩ : ∃ cS, (sizF T).map iv = cS := ⟨_, rfl⟩
  rw [hnl, hul, hcN, hnP, hcP, hnS, hcS] at hF
  obtain ⟨⟨p0, p1, p2, p3⟩, z0, z1, z2, z3⟩ := box_at hF (j := 0) rfl
  have HB4 := Lib.hid (HB3.out.trans (hb4.mono (Nat.le_succ _)))
  have HM4 := Lib.hid (HMP.out.kept (hb4.block _ (by have := HBM.out; omega)))
  have HF4 := Lib.hid hF
  have HL := Lib.hid hL
  have HFS := Lib.hid hfs
  have HUS := Lib.hid hus
  have HN := Lib.hid hN
  have HNL := Lib.hid hnl
  have HUL := Lib.hid hul
  have HCN := Lib.hid hcN
  clear q0 q1 q2 q3 hp4 hF hL hfs hus hN hnl hul hcN hnP hcP hnS hcS hb4 HAD HMP
  go_wp2_with (at_make; refine wpList_make_full _ rfl _ _ 27 rfl 0 3 i0 (.int .i64 0) 1 Tryd.underlying27 hi0 hz0 hz1 _ _ _ _ N rfl rfl rfl rfl (by rw [hz2]; omega) (by unfold maxLen; omega) (Nat.zero_le _) ?_)
  intro w5 ho5 hg5
  obtain ⟨mc0, hmc0⟩ : ∃ mc0, (madeCells #[Value.int .i64 0] N).toList = mc0 := ⟨_, rfl⟩
  rw [hmc0] at ho5
  have hml : mc0.length = N := by have := ho5.1; omega
  obtain ⟨gm, hgm⟩ : ∃ gm, w4.heap.size = gm := ⟨_, rfl⟩
  have hfm : Fam w5 (w.heap.size + 1) (rowT 5 1 (.slice none 0 0) 0 [] :: rowT 3 1 (.slice (some ⟨w4.heap.size, 0, none⟩) N N) N mc0 :: PR (w.heap.size + 1) (.slice (some ⟨gN, 0, none⟩) N cNp) vP vS (.slice (some ⟨gK, 0, none⟩) N cKp) N cN nP cP nS cS N us us (kidF 0 T) []) :=
    (HF4.out.cons (t := rowT 3 1 (.slice (some ⟨w4.heap.size, 0, none⟩) N N) N mc0) hg5 ho5 (fun q hq => by have hq : some w4.heap.size = some q := hq; injection hq with hq; omega)).cons (t := rowT 5 1 (.slice none 0 0) 0 []) (World.grownBy.refl _ _) (World.ownsRow_nil _ _ _ _) (fun q hq => by cases hq)
  have hg4 : w.grownBy w4 (some bm) := ⟨HB4.out.os, HB4.out.tape, HB4.out.output, HB4.out.size, fun q hq _ => HB4.out.block q hq⟩
  have hb45 : Below w4.heap.size w4 w5 := ⟨hg5.os, hg5.tape, hg5.output, hg5.size, fun q hq => hg5.block q hq (by simp)⟩
  have HMI : Hid (MI w (w.heap.size + 1) bm nb dict (nodes T) N N (.slice none 0 0) (.slice (some ⟨gm, 0, none⟩) N N) (PR (w.heap.size + 1) (.slice (some ⟨gN, 0, none⟩) N cNp) vP vS (.slice (some ⟨gK, 0, none⟩) N cKp) N cN nP cP nS cS N us us (kidF 0 T) []) [] mc0 D KS dict w5) := by
    refine ⟨?_, ⟨nb, HM4.out.kept (hb45.block _ (World.ownsMap.lt HM4.out)), by omega⟩, HKM.out, HDI.out, List.prefix_refl _, by omega, hml, fun p nd hp hn => ?_, grown_bel hg4 HB4.out.size hb45⟩
    · rw [← hgm]; exact hfm
    · have := (List.getElem?_eq_some_iff.1 hn).1
      rw [nodes_len, HN.out] at this
      omega
  rw [hgm]
  clear ho5 hg5 hmc0 hml hgm hfm hg4 hb45 HF4 HM4 HKM HDI p0 p1 p2 p3 z0 z1 z2 z3
  go_wp2
  go_loopw [7, 8] (fun s7 s8 wr => ∃ (e : Nat) (z : Int) (wv : Value) (wl : List UInt8) (mc : List Value) (D1 : Dm) (KS1 : List (List UInt8)) (d1 : List Nd), e ≤ N ∧ z + 1 = (e : Int) ∧ s7 = wv ∧ s8 = .int .i64 z ∧ Hid (MI w (w.heap.size + 1) bm nb dict (nodes T) N e wv (.slice (some ⟨gm, 0, none⟩) N N) (PR (w.heap.size + 1) (.slice (some ⟨gN, 0, none⟩) N cNp) vP vS (.slice (some ⟨gK, 0, none⟩) N cKp) N cN nP cP nS cS N us us (kidF 0 T) []) wl mc D1 KS1 d1 wr)) (fun _ s _ => (intOf s + 1).toNat)
  case atStart => exact ⟨N, (N : Int) - 1, _, [], mc0, D, KS, dict, Nat.le_refl _, by omega, rfl, by go_num, HMI.out⟩
  case round =>
    clear HMI
    obtain ⟨e, z, wv, wl, mc, D1, KS1, d1, he, hz, rfl, rfl, HI⟩ := hrel
    cases e with
    | zero =>
      have hz' : ¬ (0 : Int) ≤ z := by omega
      go_wp2
      go_ret
      obtain ⟨v, KS', dict', Ms, he, hp⟩ := mi_end HI.out HN.out
      exact ⟨v, he, KS', dict', Ms, hp⟩
    | succ p =>
      obtain rfl : z = (p : Int) := by omega
      have hp0 : (0 : Int) ≤ (p : Int) := by omega
      have hpN : (p : Int) < (N : Int) := by omega
      obtain ⟨⟨nk, nx, ny, nc⟩, hnd⟩ : ∃ nd, (nodes T)[p]? = some nd := ⟨_, List.getElem?_eq_getElem (by rw [nodes_len, HN.out]; omega)⟩
      obtain ⟨hsx, hsy⟩ := HSM.out _ (List.mem_of_getElem? hnd)
      obtain ⟨hk0, hk1⟩ := HKI.out _ (List.mem_of_getElem? hnd)
      have hkd : (kidF 0 T)[p]? = some (places (p + 1) nc) := by have := kidF_at T 0 p _ hnd; rwa [Nat.zero_add] at this
      obtain ⟨s, hps⟩ := nps_at HL.out hnd
      obtain ⟨As, Cs, hss, _, _⟩ := (HFS.out _ (List.mem_of_getElem? hps)).slice
      have hss : s = .slice As nc.len Cs := hss
      subst hss
      obtain ⟨⟨v0, v1, v2, v3⟩, z0, z1, z2, z3⟩ := box_at HI.out.fam (j := 2) rfl
      obtain ⟨y0, y1, y2, y3⟩ := node_at (j := 3) (nps := nps) HI.out.fam (by rw [HCN.out]; rfl) hps
      obtain ⟨aw, cw, rfl, _, hcw⟩ := HI.out.fam.slice (i := 0) rfl
      have hBr : w.heap.size + 1 ≤ wr.heap.size := HI.out.fam.B
      have hwd := wd_cut (wd_of HI.out.fam) hBr
      have HOW := Lib.hid (ownWords_any nk nx ny (.slice As nc.len Cs) hk0 hk1 hsx hsy (.slice aw 0 cw) [] wr.drew (w.heap.size + 1) (World.ownsRow.drew hwd) hBr (by decide) ((HPW.out wr HI.out.grown).on ((bel_drew wr).mono hBr)) ⟨_, _, _, rfl⟩)
      have HWD := Lib.hid hwd
      obtain ⟨ln, hln⟩ : ∃ ln, nc.len = ln := ⟨_, rfl⟩
      rw [hln] at y3 HOW
      have HLN := Lib.hid hln
      have HND := Lib.hid hnd
      have HKD := Lib.hid hkd
      have hcw2 : (cw : Int) ≤ 9223372036854775807 := by unfold maxLen at hcw; omega
      have hcw0 : (0 : Int) ≤ (cw : Int) := by omega
      have HBR := Lib.hid hBr
      clear hnd hsx hsy hk0 hk1 hkd hps hwd hcw hln hBr
      go_wp2
      go_still_tail 7, (by kernel_rfl)
      change wpList _ _ _ _ _ wr.drew
      go_wp2_with fail
      refine HOW.out.mono ?_
      rintro e w8 ⟨v8, rfl, hw8, hk8⟩
      rw [List.nil_append] at hw8
      have hoth : ∀ t ∈ (rowT 3 1 (.slice (some ⟨gm, 0, none⟩) N N) N mc :: PR (w.heap.size + 1) (.slice (some ⟨gN, 0, none⟩) N cNp) vP vS (.slice (some ⟨gK, 0, none⟩) N cKp) N cN nP cP nS cS N us us (kidF 0 T) []), Oth t := fun t ht => by
        rcases List.mem_cons.1 ht with rfl | ht
        · exact oth_row (by decide)
        · exact oth_pr t ht
      have HOT := Lib.hid hoth
      have hf8 := fam_words (HI.out.fam.later (bel_drew wr)) hoth hk8 hw8
      have HB8 := Lib.hid (((bel_drew wr).mono HBR.out).trans hk8.bel)
      have HF8 := Lib.hid hf8
      obtain ⟨l8, hl8⟩ : ∃ l8, ownB nk nx ny = l8 := ⟨_, rfl⟩
      rw [hl8] at HF8 hw8
      have HL8 := Lib.hid hl8
      obtain ⟨a8, c8, rfl, _, _⟩ := own_slice' hw8
      obtain ⟨u, hu⟩ : ∃ u, us[p]? = some u := ⟨_, List.getElem?_eq_getElem (by rw [HUL.out]; omega)⟩
      have hui : ∀ (q0 q1 : Thing), (q0 :: q1 :: PR (w.heap.size + 1) (.slice (some ⟨gN, 0, none⟩) N cNp) vP vS (.slice (some ⟨gK, 0, none⟩) N cKp) N cN nP cP nS cS N us us (kidF 0 T) [])[p + 7]? = some (rowT 3 1 u (places (p + 1) nc).length ((places (p + 1) nc).map nv)) := fun q0 q1 => by
        show (PR (w.heap.size + 1) (.slice (some ⟨gN, 0, none⟩) N cNp) vP vS (.slice (some ⟨gK, 0, none⟩) N cKp) N cN nP cP nS cS N us us (kidF 0 T) [])[p + 5]? = _
        exact pr_at hu HKD.out
      obtain ⟨au, cu, rfl, _, _⟩ := HF8.out.slice (hui _ _)
      rw [places_len, HLN.out] at hui
      have hku := HF8.out.cell (i := 6) rfl hu
      rw [places_len, HLN.out] at hku
      obtain ⟨⟨v0', v1', v2', v3'⟩, z0', z1', z2', z3'⟩ := box_at HF8.out (j := 2) rfl
      have HUI := Lib.hid hui
      have hln5 : ln ≤ 1000 := by
        have h1 := nd_size_le T p _ HND.out
        have h2 := F.len_le_size nc
        have h3 := HN.out
        have h4 := HLN.out
        simp only at h1
        omega
      clear v0 v1 v2 v3 z0 z1 z2 z3 y0 y1 y2 y3 hw8 hk8 hoth hf8 hl8 hu hui HOW HWD
      go_wp2
      clear v0' v1' v2' v3' z0' z1' z2' z3' hku
      obtain ⟨ms, hms⟩ : ∃ ms, (tops nc).map (firstAt d1) = ms := ⟨_, rfl⟩
      have HMS := Lib.hid hms
      have hml : ms.length = ln := by rw [← hms, List.length_map, tops_len, HLN.out]
      have HML := Lib.hid hml
      -- each Kid's number
      have HKD2 : Hid (∀ j, j < ln → ∃ q m, (places (p + 1) nc)[j]? = some q ∧ q < N ∧ mc[q]? = some (nv m) ∧ ms[j]? = some m ∧ m < 10000000) := fun j hj => by
        obtain ⟨t, ht⟩ : ∃ t, (tops nc)[j]? = some t := ⟨_, List.getElem?_eq_getElem (by rw [tops_len, HLN.out]; exact hj)⟩
        obtain ⟨q, h1, h2, h3, h4⟩ := kid_top HND.out ht
        obtain ⟨m, h5, h6⟩ := HI.out.is q t (by omega) h2
        refine ⟨q, m, h1, by rw [← HN.out]; exact h4, h5, ?_, ?_⟩
        · rw [← hms, List.getElem?_map, ht]
          show some (firstAt d1 t) = _
          rw [first_same HI.out.dic.nodup h6]
        · have := (List.getElem?_eq_some_iff.1 h6).1
          have := HI.out.few
          have := HDL.out
          omega
      have HTM : Hid (∀ t ∈ tops nc, t ∈ d1) := fun t ht => by
        obtain ⟨j, hj⟩ := List.getElem?_of_mem ht
        obtain ⟨q, h1, h2, h3, h4⟩ := kid_top HND.out hj
        obtain ⟨m, h5, h6⟩ := HI.out.is q t (by omega) h2
        exact List.mem_of_getElem? h6
      have HMB : Hid (l8.length ≤ 100000000) := by
        show _ ≤ _
        rw [← HL8.out]
        unfold ownB txtB numB
        have e1 : nx.data.toList.length = nx.size := Array.length_toList
        have e2 : ny.data.toList.length = ny.size := Array.length_toList
        have hs := HSM.out _ (List.mem_of_getElem? HND.out)
        have hk := HKI.out _ (List.mem_of_getElem? HND.out)
        have i0 := Lib.itoa_length_le nk hk.1 hk.2
        have i1 := Lib.itoa_length_le (nx.size : Int) (by omega) (by have := hs.1; simp only at this; omega)
        have i2 := Lib.itoa_length_le (ny.size : Int) (by omega) (by have := hs.2; simp only at this; omega)
        have s1 := hs.1
        have s2 := hs.2
        simp only at s1 s2
        simp only [List.length_append, e1, e2, List.length_cons, List.length_nil]
        omega
      clear hms hml
      obtain ⟨w9, hw9⟩ : ∃ w9, w9 = w8 := ⟨_, rfl⟩
      rw [← hw9] at HF8 HB8 ⊢
      clear hw9
      obtain ⟨wm, hwm⟩ : ∃ wm, wm = wr := ⟨_, rfl⟩
      rw [← hwm] at HI HB8 HBR
      clear hwm
      go_loopw [7, 40] (fun s7 s40 wr => ∃ (j : Nat) (v : Value) (wl : List UInt8), j ≤ ln ∧ s7 = v ∧ s40 = .int .i64 (j : Int) ∧ Hid (wl = l8 ++ kidB (ms.take j)) ∧ Hid (Fam wr (w.heap.size + 1) (rowT 5 1 v wl.length (Lib.byteCells wl) :: rowT 3 1 (.slice (some ⟨gm, 0, none⟩) N N) N mc :: PR (w.heap.size + 1) (.slice (some ⟨gN, 0, none⟩) N cNp) vP vS (.slice (some ⟨gK, 0, none⟩) N cKp) N cN nP cP nS cS N us us (kidF 0 T) [])) ∧ Hid (Below (w.heap.size + 1) w9 wr)) (fun _ s _ => ln - (intOf s).toNat)
      case atStart => exact ⟨0, _, l8, Nat.zero_le _, rfl, rfl, by show _ = _; simp [kidB], HF8.out, Below.refl _ _⟩
      case round =>
        clear HF8
        obtain ⟨j, v, wl, hj, rfl, rfl, HWL, HF, HB⟩ := hrel
        obtain ⟨a9, c9, rfl, _, _⟩ := HF.out.slice (i := 0) rfl
        by_cases hjl : j < ln
        · have hjl' : (j : Int) < (ln : Int) := by omega
          have hj0 : (0 : Int) ≤ (j : Int) := by omega
          obtain ⟨q, m, h1, h2, h3, h4, h5⟩ := HKD2.out j hjl
          obtain ⟨gu, cu', eu, _, _⟩ := HF.out.sliceAt (i := p + 7) (HUI.out _ _) (by omega)
          injection eu with eu1 _ eu3
          subst eu1
          subst eu3
          have hq1 := HF.out.cell (i := p + 7) (HUI.out _ _) (j := j) (u := nv q) (by rw [List.getElem?_map, h1]; rfl)
          have hq2 := HF.out.cell (i := 1) rfl h3
          have hqN : (q : Int) < (N : Int) := by omega
          have hq0 : (0 : Int) ≤ (q : Int) := by omega
          have hlen : wl.length ≤ 1000000000 := by
            have hh := kidB_len (ms.take j) (fun m' hm' => by
              obtain ⟨jj, hjj⟩ := List.getElem?_of_mem (List.mem_of_mem_take hm')
              obtain ⟨q', m'', g1, g2, g3, g4, g5⟩ := HKD2.out jj (by rw [← HML.out]; exact (List.getElem?_eq_some_iff.1 hjj).1)
              rw [hjj] at g4
              injection g4 with g4
              omega)
            rw [HWL.out, List.length_append]
            have := HMB.out
            rw [List.length_take] at hh
            omega
          have HN2 := Lib.hid (appNum_any (m : Int) (by omega) (by omega) (.slice a9 wl.length c9) wl wr (w.heap.size + 1) (wd_of HF.out) HF.out.B hlen ((HPW.out wm HI.out.grown).on (HB8.out.trans HB.out)))
          have HW2 : Hid (wl ++ numB (m : Int) = l8 ++ kidB (ms.take (j + 1))) := by
            show _ = _
            rw [HWL.out, List.take_add_one, h4]
            simp [kidB]
          have HJL := Lib.hid hjl
          clear h1 h2 h3 h4 h5 hlen hjl
          go_wp2_with fail
          refine HN2.out.mono ?_
          rintro e w10 ⟨v10, rfl, hw10, hk10⟩
          have HF10 := Lib.hid (fam_words HF.out HOT.out hk10 hw10)
          have HB10 := Lib.hid (HB.out.trans hk10.bel)
          obtain ⟨l10, hl10⟩ : ∃ l10, wl ++ numB (m : Int) = l10 := ⟨_, rfl⟩
          rw [hl10] at HF10 HW2
          clear hq1 hq2 hw10 hk10 hl10 HN2
          go_wp2
          go_roundw
          case rel => exact ⟨j + 1, v10, l10, by have := HJL.out; omega, rfl, by go_num, HW2.out, HF10.out, HB10.out⟩
          case measure => have := HJL.out; simp [intOf]; omega
        · obtain rfl : ln = j := by omega
          have hjl' : ¬ (ln : Int) < (ln : Int) := by omega
          have hkey : wl = keyN d1 ⟨nk, nx, ny, nc⟩ := by
            rw [HWL.out, ← HL8.out, List.take_of_length_le (by rw [HML.out]; exact Nat.le_refl _), ← HMS.out]
            rfl
          have HKEY := Lib.hid hkey
          have hwd := wd_of HF.out
          have hcv := conv_wd hwd
          have hwlm : wl.length ≤ maxLen := by
            obtain ⟨a', c', e, h1, h2⟩ := own_slice' hwd
            omega
          have hky : keyOf Tryd.prog 9 (.string ⟨wl.toArray⟩) = some (.string wl) := by
            have := WideMaps.keyOf_string_mk (P := Tryd.prog) Tryd.underlying9 (s := ⟨wl.toArray⟩) (by show wl.toArray.size ≤ _; rw [List.size_toArray]; exact hwlm)
            rw [this]
          obtain ⟨nb', hmp, hnb'⟩ := HI.out.map
          have hmp9 : MapAt wr bm nb' D1 := hmp.kept ((HB8.out.trans HB.out).block _ (by have := HBM.out; omega))
          have HMP := Lib.hid hmp9
          have HNB2 := Lib.hid hnb'
          have hgr : w.grownBy wr (some bm) := grown_bel HI.out.grown (Nat.le_succ _) (HB8.out.trans HB.out)
          have HGR := Lib.hid hgr
          have HKY := Lib.hid hky
          have HCV := Lib.hid hcv
          have hpN2 : p < N := by omega
          have hst := fun (i : Nat) => HF.out.store (i := 1) rfl p (nv i)
          have HST := Lib.hid hst
          have hgmc : ∃ z, wr.cell? ⟨gm, p, none⟩ = some z := by
            have hlen := HI.out.len
            exact ⟨_, HF.out.cell (i := 1) rfl (List.getElem?_eq_getElem (by omega))⟩
          obtain ⟨zm, hzm⟩ := hgmc
          have hgmf := HF.out.frz (i := 1) rfl p
          have HGB : Hid (w.heap.size + 1 ≤ gm) := (HF.out.lt (k := gm) (List.mem_of_getElem? (i := 1) rfl) rfl).1
          clear hjl hkey hwd hwlm hmp hnb' hmp9 hgr hky hst HWL
          by_cases hin : keyN d1 ⟨nk, nx, ny, nc⟩ ∈ KS1
          · obtain ⟨i, hi1, hi2⟩ := HI.out.dic.at_ HTM.out hin
            rw [← HKEY.out] at hi1 hin
            have HHAS : Hid (Maps.has D1 (.string wl) = true) := HI.out.km.has wl hin
            have HAT : Hid (∀ z, D1.atKey (.string wl) z = .lit (.int .i64 (i : Int))) := HI.out.km.at_ i wl hi1
            have HI2 := Lib.hid hi2
            have hcv := HCV.out
            clear hin hi1 hi2
            go_wp2_with (at_lookup; refine wpList_lookup_own_ok_int _ rfl _ _ 47 rfl 9 3 .i64 (Maps.string_keyed Tryd.underlying9) Tryd.underlying47 Tryd.underlying3 (Tryd.zeroValue3 _) bm nb' D1 rfl HMP.out _ _ rfl HKY.out ?_)
            intro cc hat _
            rw [HAT.out] at hat
            obtain rfl : cc = (i : Int) := by injection hat with hat; injection hat with _ hat; exact hat.symm
            rw [HHAS.out]
            have HMN := Lib.hid (mi_step HI.out hpN2 (HST.out i).1 ⟨nb', HMP.out.kept (Below.heap_setCell _ _ _ _ (show bm ≠ gm by have := HBM.out; have := HGB.out; omega)), by have := HNB2.out; omega⟩ HI.out.km HI.out.dic (List.prefix_refl _) (Nat.le_succ _) HND.out HI2.out (grown_bel HGR.out (Nat.le_succ _) (HST.out i).2))
            clear hat hcv HST HMP HF HB HI
            go_wp2
            go_roundw
            case rel => exact ⟨p, (p : Int) - 1, _, _, _, D1, KS1, d1, by omega, by omega, rfl, by go_num, HMN.out⟩
            case measure => (simp [intOf]; try omega)
          · have HDP := Lib.hid (HI.out.dic.push HTM.out hin)
            rw [← HKEY.out] at hin HDP
            have HHAS : Hid (Maps.has D1 (.string wl) = false) := HI.out.km.hasN wl hin
            have HKP := Lib.hid (HI.out.km.put hin HI.out.dic.knodup)
            have HSZ : Hid (Maps.size D1 = KS1.length) := HI.out.km.size
            have HLD : Hid (d1.length = KS1.length) := HI.out.dic.len
            have hks : KS1.length ≤ 2000000 := by
              have h1 := HI.out.few
              have h2 := HDL.out
              have h3 := HLD.out
              omega
            have HKS := Lib.hid hks
            have HI2 : Hid ((d1 ++ [⟨nk, nx, ny, nc⟩])[KS1.length]? = some ⟨nk, nx, ny, nc⟩) := by
              show _ = _
              rw [List.getElem?_append_right (by rw [HLD.out]; exact Nat.le_refl _), HLD.out, Nat.sub_self]
              rfl
            obtain ⟨nk1, hnk1⟩ : ∃ nk1, KS1.length = nk1 := ⟨_, rfl⟩
            rw [hnk1] at HSZ HI2 HKP hks HKS
            have hcv := HCV.out
            clear hin hnk1
            go_wp2_with (at_lookup; refine wpList_lookup_own_ok_int _ rfl _ _ 47 rfl 9 3 .i64 (Maps.string_keyed Tryd.underlying9) Tryd.underlying47 Tryd.underlying3 (Tryd.zeroValue3 _) bm nb' D1 rfl HMP.out _ _ rfl HKY.out ?_)
            intro cc hat _
            rw [HHAS.out]
            clear hat
            go_wp2_with (at_len; refine wpList_len_own _ rfl _ 47 rfl 9 3 Tryd.underlying47 _ bm nb' D1 rfl HMP.out ?_)
            rw [HSZ.out]
            obtain ⟨w11, hrun, hm11, hg11⟩ := World.ownsMap.update (t := 47) (e := 3) HMP.out (Maps.string_keyed Tryd.underlying9) Tryd.underlying47 (by have := HNB2.out; have := HNB.out; unfold maxLen; omega) HKY.out (val := .int .i64 (nk1 : Int)) (plainElem_int Tryd.underlying3 (wf_nat (n := nk1) (by have := HKS.out; omega)))
            have hf11 := Fam.grownLow HF.out (by have := HBM.out; omega) hg11
            have hst := hf11.store (i := 1) rfl p (nv nk1)
            obtain ⟨zm', hzm'⟩ : ∃ z, w11.cell? ⟨gm, p, none⟩ = some z := by
              have hlen := HI.out.len
              exact ⟨_, hf11.cell (i := 1) rfl (List.getElem?_eq_getElem (by omega))⟩
            have hgmf' := hf11.frz (i := 1) rfl p
            have HMN := Lib.hid (mi_step HI.out hpN2 hst.1 ⟨nb' + 1, (show MapAt w11 bm (nb' + 1) _ from hm11).kept (Below.heap_setCell _ _ _ _ (show bm ≠ gm by have := HBM.out; have := HGB.out; omega)), by have := HNB2.out; omega⟩ HKP.out HDP.out (List.prefix_append _ _) (by simp) HND.out HI2.out (grown_bel (grown_both HGR.out hg11) (Nat.le_succ _) hst.2))
            clear HST HMP HF HB HI hm11 hg11 hf11 hst hzm hgmf
            go_wp2_with fail
            rw [hrun]
            go_wp2
            go_roundw
            case rel => exact ⟨p, (p : Int) - 1, _, _, _, _, _, _, by omega, by omega, rfl, by go_num, HMN.out⟩
            case measure => (simp [intOf]; try omega)
end Go.Proofs.YtmknghhgcecafaaDoor.Shape
