/-
  Layer 7 (doc): DeleteFunc at documents; Row.
-/
import Derived.Test.YtpankfbdlakmcaaDocRow
namespace Go.Proofs.Ytpankfbdlakmcaa.Doc
open Go.ChangeShapes Go.WideShapes Go.ChangeAt Go.RowKit Mem
set_option linter.unusedVariables false

def zs (n : Nat) : List Value := (Builtin.zeroCells #[.int .i64 0, .string ⟨#[]⟩, .slice none 0 0] n).toList
theorem zs_len (n : Nat) : (zs n).length = n * 3 := by simp [zs, Builtin.zeroCells]
theorem zs_one (n : Nat) : ∀ u ∈ zs n, u.oneCell' = true := by
  intro u hu
  simp only [zs, Builtin.zeroCells, Array.toList_map, List.mem_map] at hu
  obtain ⟨i, _, rfl⟩ := hu
  have h3 : i % 3 < 3 := Nat.mod_lt _ (by decide)
  show (#[Value.int .i64 0, .string ⟨#[]⟩, .slice none 0 0][i % 3]!).oneCell' = true
  generalize i % 3 = m at h3
  match m, h3 with
  | 0, _ => rfl
  | 1, _ => rfl
  | 2, _ => rfl
/-- clear of a row's last n documents. -/
theorem run_clear_doc (w : World) (ty : TypeId) (b o n c : Nat) (hn : 0 < n) (hc : ∀ j, j < n * 3 → (w.cell? ⟨b, o + j, none⟩).isSome = true) (hf : ∀ j, j < n * 3 → w.frozen? ⟨b, o + j, none⟩ = false) :
    (Builtin.clear_ #[30] ty #[.slice (some ⟨b, o, none⟩) n c]).run Try.prog w = .ok (.tuple #[]) (w.setCells b o (zs n)) := by
  have hv : ∀ w, (zeroValue 32).run Try.prog w = .ok (.agg #[.int .i64 0, .string ⟨#[]⟩, .slice none 0 0]) w := Try.zeroValue32
  have hst := run_storeCells_cells (P := Try.prog) b o (zs n) 0 w (by rw [zs_len]; simpa using hc) (by rw [zs_len]; simpa using hf) (zs_one n)
  simp only [Nat.add_zero] at hst
  obtain ⟨m, rfl⟩ : ∃ m, n = m + 1 := ⟨n - 1, by omega⟩
  unfold zs at hst ⊢
  simp [Builtin.clear_, run_underlying Try.underlying30, hv, Value.cells, hst]

theorem below_cells {B b : Nat} {a : World} (hb : B ≤ b) : ∀ (vs : List Value) (o : Nat) (w : World), Below B a w → Below B a (w.setCells b o vs)
  | [], _, _, h => h
  | v :: r, o, w, h => below_cells hb r (o + 1) _ (h.setCell (by exact hb) v)
def keepN (p : Nv) : Bool := !noth p.1
theorem RowC.frz {w : World} {g : Nat} {cur : List Nv} (h : RowC w g cur) (i : Nat) : w.frozen? ⟨g, i, none⟩ = false := by obtain ⟨⟨_, hc⟩, _⟩ := h; exact Doc.frz hc i
theorem RowC.isS {w : World} {g : Nat} {cur : List Nv} (h : RowC w g cur) {i j : Nat} (hi : i < cur.length) (hj : j < 3) : (w.cell? ⟨g, i * 3 + j, none⟩).isSome = true := by
  obtain ⟨q0, q1, q2⟩ := h.2 i _ (List.getElem?_eq_getElem hi)
  match j, hj with
  | 0, _ => rw [Nat.add_zero, q0]; rfl
  | 1, _ => rw [q1]; rfl
  | 2, _ => rw [q2]; rfl
theorem RowC.take {w : World} {g : Nat} {cur : List Nv} (h : RowC w g cur) (i : Nat) : RowC w g (cur.take i) := ⟨h.1, fun j p hp => h.2 j p (by
  rw [List.getElem?_take] at hp
  split at hp
  · exact hp
  · cases hp)⟩
theorem RowC.clear {w : World} {g : Nat} {cur : List Nv} (h : RowC w g cur) (i m : Nat) : RowC (w.setCells g (i * 3) (zs m)) g (cur.take i) := by
  obtain ⟨⟨cs, hc⟩, h2⟩ := h
  have hh : ∀ (vs : List Value) (o : Nat) (W : World), (∃ cs, W.heap[g]? = some (Obj.cells cs 32 (0, 0))) → ∃ cs, (W.setCells g o vs).heap[g]? = some (Obj.cells cs 32 (0, 0)) := by
    intro vs
    induction vs with
    | nil => intro o W h; exact h
    | cons v r ih => intro o W ⟨cs, h⟩; exact ih (o + 1) _ ⟨_, set_at h o v⟩
  refine ⟨hh _ _ _ ⟨cs, hc⟩, fun j p hp => ?_⟩
  rw [List.getElem?_take] at hp
  split at hp
  · rename_i hj
    obtain ⟨q0, q1, q2⟩ := h2 j p hp
    refine ⟨?_, ?_, ?_⟩
    · rw [World.cell?_setCells_out g _ _ _ _ (fun _ _ => .inl (by show j * 3 < i * 3; omega))]; exact q0
    · rw [World.cell?_setCells_out g _ _ _ _ (fun _ _ => .inl (by show j * 3 + 1 < i * 3; omega))]; exact q1
    · rw [World.cell?_setCells_out g _ _ _ _ (fun _ _ => .inl (by show j * 3 + 2 < i * 3; omega))]; exact q2
  · cases hp
/-- The loop of DeleteFunc: j have been looked at, i are kept. -/
structure DelI (ps cur : List Nv) (n i j : Nat) : Prop where
  len : cur.length = n
  lt : i < j
  le : j ≤ n
  keep : cur.take i = (ps.take j).filter keepN
  rest : cur.drop j = ps.drop j
theorem DelI.at_ {ps cur : List Nv} {n i j : Nat} (h : DelI ps cur n i j) (hj : j < n) : ∃ p, ps[j]? = some p ∧ cur[j]? = some p := by
  obtain ⟨p, hp⟩ : ∃ p, cur[j]? = some p := ⟨_, List.getElem?_eq_getElem (by rw [h.len]; exact hj)⟩
  refine ⟨p, ?_, hp⟩
  have e : (cur.drop j)[0]? = some p := by rw [List.getElem?_drop]; simpa using hp
  rw [h.rest, List.getElem?_drop] at e
  simpa using e
theorem DelI.skip {ps cur : List Nv} {n i j : Nat} (h : DelI ps cur n i j) (hj : j < n) {p : Nv} (hp : ps[j]? = some p) (hk : keepN p = false) : DelI ps cur n i (j + 1) := by
  refine ⟨h.len, by have := h.lt; omega, by omega, ?_, ?_⟩
  · rw [h.keep, List.take_add_one, hp]
    simp [List.filter_append, hk]
  · rw [← List.drop_drop, h.rest, List.drop_drop]
theorem DelI.put {ps cur : List Nv} {n i j : Nat} (h : DelI ps cur n i j) (hj : j < n) {p : Nv} (hp : ps[j]? = some p) (hk : keepN p = true) : DelI ps (cur.set i p) n (i + 1) (j + 1) := by
  have hij := h.lt
  have hil : i < cur.length := by rw [h.len]; omega
  refine ⟨by rw [List.length_set]; exact h.len, by omega, by omega, ?_, ?_⟩
  · rw [List.take_add_one, List.take_set_of_le (Nat.le_refl i), h.keep, List.take_add_one (l := ps), hp]
    simp [List.filter_append, hk, hil]
  · rw [List.drop_set_of_lt (by omega), ← List.drop_drop, h.rest, List.drop_drop]
theorem DelI.start {ps : List Nv} {n i : Nat} (hl : ps.length = n) (hi : i < n) (hpre : ∀ p ∈ ps.take i, noth p.1 = false) {p : Nv} (hp : ps[i]? = some p) (hn : noth p.1 = true) : DelI ps ps n i (i + 1) := by
  refine ⟨hl, by omega, by omega, ?_, rfl⟩
  have h1 : (ps.take i).filter keepN = ps.take i := List.filter_eq_self.2 fun q hq => by unfold keepN; rw [hpre q hq]; rfl
  rw [List.take_add_one, hp, List.filter_append, h1]
  simp [keepN, hn]
set_option maxHeartbeats 4000000 in
set_option maxRecDepth 100000 in
theorem del_any {S : Nat → Prop} (g n C : Nat) (ps : List Nv) (w0 w : World) (hb0 : Below w0.heap.size w0 w) (hg : w0.heap.size ≤ g) (hr : RowC w g ps) (hl : ps.length = n) (hn : n ≤ 1000000) (hC : n ≤ C) (hCm : C ≤ maxLen) (hk : ∀ p ∈ ps, Gs w0 S p.2 p.1.c) :
    Calls Try.prog 39 #[.slice (some ⟨g, 0, none⟩) n C, .func (.func 41) #[] #[]] w fun e w' => e = .returned (.slice (some ⟨g, 0, none⟩) (ps.filter keepN).length C) ∧ RowC w' g (ps.filter keepN) ∧ Below w0.heap.size w0 w' := by
  have HIX := Lib.hid (idx_any g n C ps w0 w hb0 hr hl hn hC hk)
  have HR := Lib.hid hr
  have HK := Lib.hid hk
  have HL := Lib.hid hl
  have HB0 := Lib.hid hb0
  unfold maxLen at hCm
  clear hr hk hb0 hl
  go_enter Try.func39, Try.ntmps39
  go_wp2_with fail
  refine HIX.out.mono ?_
  rintro e w1 ⟨⟨z, rfl, hz⟩, hb1⟩
  have HB1 := Lib.hid (HB0.out.trans (hb1.mono HB0.out.size))
  have HR1 := Lib.hid (HR.out.below hb1)
  clear hb1 HIX
  rcases hz with ⟨rfl, hall⟩ | ⟨i0, rfl, hi0, hpre, p0, hp0, hn0⟩
  · have hf : ps.filter keepN = ps := List.filter_eq_self.2 fun p hp => by unfold keepN; rw [hall p hp]; rfl
    have HFE := Lib.hid hf
    clear hf hall
    go_wp2
    go_ret
    exact ⟨by rw [HFE.out, HL.out]; rfl, by rw [HFE.out]; exact HR1.out, HB1.out⟩
  · rw [HL.out] at hi0
    have HD := Lib.hid (DelI.start HL.out hi0 hpre hp0 hn0)
    have hne : ((i0 : Int) == -1) = false := beq_eq_false_iff_ne.2 (by omega)
    clear hpre hp0 hn0
    go_wp2
    go_loopw [5, 6] (fun s5 s6 wr => ∃ (i j : Nat) (cur : List Nv), s5 = .int .i64 (i : Int) ∧ s6 = .int .i64 (j : Int) ∧ Hid (DelI ps cur n i j) ∧ Hid (RowC wr g cur) ∧ Hid (Below w0.heap.size w0 wr)) (fun _ s6 _ => n - (intOf s6).toNat)
    case atStart => exact ⟨i0, i0 + 1, ps, rfl, by go_num, HD.out, HR1.out, HB1.out⟩
    case round =>
      obtain ⟨i, j, cur, rfl, rfl, hd, hrw, hbw⟩ := hrel
      have hij := hd.out.lt
      have hjn := hd.out.le
      by_cases hlt : j < n
      · obtain ⟨p, hp, hcp⟩ := hd.out.at_ hlt
        obtain ⟨q0, q1, q2⟩ := hrw.out.2 j p hcp
        obtain ⟨A, Ck, hs, _, _⟩ := (HK.out p (List.mem_of_getElem? hp)).slice
        have hno := noth_is p hs rfl
        obtain ⟨⟨k, x, c⟩, s⟩ := p
        dsimp only at hs q0 q1 q2 hno
        subst hs
        have hlt1 : (j : Int) < (n : Int) := by omega
        have hlt0 : (0 : Int) ≤ (j : Int) := by omega
        have hli : (i : Int) < (n : Int) := by omega
        have hl0 : (0 : Int) ≤ (i : Int) := by omega
        obtain ⟨nb, hnb⟩ : ∃ nb, (k == 0 && c.len == 0) = nb := ⟨_, rfl⟩
        have hkp : keepN (⟨k, x, c⟩, .slice A c.len Ck) = !nb := by
          unfold keepN
          rw [← hnb, ← hno]
        have ba := (Below.refl wr.heap.size wr).alloc (Nat.le_refl _) (.cells #[.int .i64 k, .string x, .slice A c.len Ck] 32)
        obtain ⟨z0, z1, z2⟩ := cl3 (heap_alloc_new wr (.cells #[.int .i64 k, .string x, .slice A c.len Ck] 32))
        have hzs : (wr.alloc (.cells #[.int .i64 k, .string x, .slice A c.len Ck] 32)).heap.size = wr.heap.size + 1 := World.size_alloc _ _
        have HC := Lib.hid (nothing_any k x A c.len Ck (wr.alloc (.cells #[.int .i64 k, .string x, .slice A c.len Ck] 32)))
        rw [hnb] at HC
        have HBA := Lib.hid ba
        have HRA := Lib.hid (hrw.out.below ba)
        have hxa := heap_alloc_new wr (.cells #[.int .i64 k, .string x, .slice A c.len Ck] 32)
        have HXA := Lib.hid hxa
        have HBW := Lib.hid (hbw.out.trans (ba.mono hbw.out.size))
        cases nb with
        | true =>
          have HD2 := Lib.hid (hd.out.skip hlt hp (by rw [hkp]; rfl))
          clear hnb hno hkp ba hcp hp hd hrw hbw hxa hzs
          go_wp2_with fail
          refine HC.out.mono ?_
          rintro e w2 ⟨rfl, hb⟩
          have HB2 := Lib.hid (HBW.out.trans (hb.mono HBW.out.size))
          have HR2 := Lib.hid (HRA.out.below hb)
          clear hb q0 q1 q2 z0 z1 z2 HXA
          go_wp2
          go_roundw
          case rel => exact ⟨i, j + 1, cur, rfl, by go_num, HD2.out, HR2.out, HB2.out⟩
          case measure => simp [intOf]; omega
        | false =>
          have HD2 := Lib.hid (hd.out.put hlt hp (by rw [hkp]; rfl))
          have hil : i < cur.length := by rw [hd.out.len]; omega
          clear hnb hno hkp ba hcp hp hd hrw hbw hxa
          go_wp2_with fail
          refine HC.out.mono ?_
          rintro e w2 ⟨rfl, hb⟩
          have HB2 := Lib.hid (HBW.out.trans (hb.mono HBW.out.size))
          have hr2 := HRA.out.below hb
          have hx2 := (hb.block wr.heap.size (by rw [hzs]; omega)).trans HXA.out
          obtain ⟨y0, y1, y2⟩ := cl3 hx2
          obtain ⟨u0, u1, u2⟩ := hr2.2 i _ (List.getElem?_eq_getElem hil)
          have f0 := hr2.frz (i * 3)
          have f1 := hr2.frz (i * 3 + 1)
          have f2 := hr2.frz (i * 3 + 2)
          have HR2 := Lib.hid (hr2.set hil (⟨k, x, c⟩, .slice A c.len Ck))
          have HB3 : Hid (Below w0.heap.size w0 (((w2.setCell ⟨g, i * 3, none⟩ (.int .i64 k)).setCell ⟨g, i * 3 + 1, none⟩ (.string x)).setCell ⟨g, i * 3 + 2, none⟩ (.slice A c.len Ck))) := ((HB2.out.setCell (p := ⟨g, i * 3, none⟩) hg _).setCell (p := ⟨g, i * 3 + 1, none⟩) hg _).setCell (p := ⟨g, i * 3 + 2, none⟩) hg _
          generalize cur[i] = pi at u0 u1 u2
          clear hb q0 q1 q2 z0 z1 z2 HXA hr2 hx2 hzs
          go_wp2
          go_roundw
          case rel => exact ⟨i + 1, j + 1, _, by go_num, by go_num, HD2.out, HR2.out, HB3.out⟩
          case measure => simp [intOf]; omega
      · obtain rfl : j = n := by omega
        have hkeep := hd.out.keep
        rw [show ps.take j = ps from List.take_of_length_le (by rw [HL.out]; exact Nat.le_refl _)] at hkeep
        have hcl := hd.out.len
        have hlt1 : ¬ (j : Int) < (j : Int) := by omega
        have hij2 : (i : Int) ≤ (j : Int) := by omega
        have hi0' : (0 : Int) ≤ (i : Int) := by omega
        have hiC : (i : Int) ≤ (C : Int) := by omega
        have hclr : ∀ ty, (Builtin.clear_ #[30] ty #[.slice (some ⟨g, i * 3, none⟩) (j - i) (C - i)]).run Try.prog wr = .ok (.tuple #[]) (wr.setCells g (i * 3) (zs (j - i))) := fun ty => by
          refine run_clear_doc wr ty g (i * 3) (j - i) (C - i) (by omega) (fun q hq => ?_) (fun q _ => hrw.out.frz _)
          have h1 := hrw.out.isS (i := i + q / 3) (j := q % 3) (by omega) (Nat.mod_lt _ (by decide))
          rwa [show (i + q / 3) * 3 + q % 3 = i * 3 + q by omega] at h1
        have HRW := Lib.hid (hrw.out.clear i (j - i))
        have HBE := Lib.hid (below_cells hg (zs (j - i)) (i * 3) wr hbw.out)
        have HKE := Lib.hid hkeep
        have hlen : Hid ((ps.filter keepN).length = i) := by show _ = _; rw [← hkeep, List.length_take]; omega
        generalize zs (j - i) = zz at *
        clear hkeep hd hrw hbw
        go_wp2
        go_ret
        exact ⟨by rw [hlen.out]; rfl, by rw [← HKE.out]; exact HRW.out, HBE.out⟩

set_option maxRecDepth 100000 in
theorem del_none (w : World) : Calls Try.prog 39 #[.slice none 0 0, .func (.func 41) #[] #[]] w fun e w' => e = .returned (.slice none 0 0) ∧ w' = w := by
  go_enter Try.func39, Try.ntmps39
  go_wp2_with fail
  refine (idx_none 0 none w).mono ?_
  rintro e w1 ⟨rfl, rfl⟩
  go_wp2
  go_ret
  exact ⟨rfl, rfl⟩

/-! ### Row -/
theorem fin3 {w : World} {R : Nat} {z0 z1 z2 : Value} (h : w.heap[R]? = some (Obj.cells #[z0, z1, z2] 32 (0, 0))) (a b c : Value) : ∃ W, ((w.setCell ⟨R, 0, none⟩ a).setCell ⟨R, 1, none⟩ b).setCell ⟨R, 2, none⟩ c = W ∧ W.heap[R]? = some (Obj.cells #[a, b, c] 32 (0, 0)) ∧ (∀ k, k ≠ R → W.heap[k]? = w.heap[k]?) ∧ Below R w W := by
  refine ⟨_, rfl, ?_, fun k hk => ?_, (((Below.refl R w).setCell (p := ⟨R, 0, none⟩) (Nat.le_refl _) a).setCell (p := ⟨R, 1, none⟩) (Nat.le_refl _) b).setCell (p := ⟨R, 2, none⟩) (Nat.le_refl _) c⟩
  · have s1 := set_at h 0 a
    have s2 := set_at s1 1 b
    have s3 := set_at s2 2 c
    simpa using s3
  · rw [Below.heap_setCell _ _ _ _ (by exact hk), Below.heap_setCell _ _ _ _ (by exact hk), Below.heap_setCell _ _ _ _ (by exact hk)]
theorem RowC.of_block {w w' : World} {g : Nat} {cur : List Nv} (h : RowC w g cur) (e : w'.heap[g]? = w.heap[g]?) : RowC w' g cur := by
  obtain ⟨⟨cs, hc⟩, h2⟩ := h
  refine ⟨⟨cs, e.trans hc⟩, fun i p hp => ?_⟩
  obtain ⟨q0, q1, q2⟩ := h2 i p hp
  exact ⟨(World.cell?_of_block (a := ⟨g, i * 3, none⟩) e).trans q0, (World.cell?_of_block (a := ⟨g, i * 3 + 1, none⟩) e).trans q1, (World.cell?_of_block (a := ⟨g, i * 3 + 2, none⟩) e).trans q2⟩
theorem filter_map (ps : List Nv) : (ps.filter keepN).map (·.1) = (ps.map (·.1)).filter (fun nd => !noth nd) := by
  rw [List.filter_map]; rfl
theorem rowN_one {l : List Nd} {nd : Nd} (h : l.filter (fun nd => !noth nd) = [nd]) : rowN l = nd := by unfold rowN; rw [h]
theorem rowN_not {l m : List Nd} (h : l.filter (fun nd => !noth nd) = m) (hm : m.length ≠ 1) : rowN l = ⟨0, emp, ofL m⟩ := by
  unfold rowN
  rw [h]
  match m, hm with
  | [], _ => rfl
  | [a], hm => simp at hm
  | a :: b :: m, _ => rfl
set_option maxHeartbeats 4000000 in
set_option maxRecDepth 100000 in
theorem row_flat {X : Nat → Prop} (A : Option Addr) (n C : Nat) (ps : List Nv) (L : List Nd) (w : World) (hX : ∀ b, X b → b < w.heap.size) (hps : ps.map (·.1) = L) (hl : ps.length = n) (hk : ∀ p ∈ ps, Gs w (Dx X w) p.2 p.1.c)
    (hc : n = 0 ∨ ∃ b off, A = some ⟨b, off, none⟩ ∧ ∀ j u, (ps.flatMap ndC)[j]? = some u → w.cell? ⟨b, off + j, none⟩ = some u) (hn : n ≤ 1000000) (hnC : n ≤ C) (hCm : C ≤ maxLen) :
    Calls Try.prog 22 #[.slice A n C] w (DocPost X (rowN L) w) := by
  have b1 := (Below.refl w.heap.size w).alloc (Nat.le_refl _) (.cells #[.int .i64 0, .string ⟨#[]⟩, .slice none 0 0] 32)
  have hx1 := heap_alloc_new w (.cells #[.int .i64 0, .string ⟨#[]⟩, .slice none 0 0] 32)
  have hz1 : (w.alloc (.cells #[.int .i64 0, .string ⟨#[]⟩, .slice none 0 0] 32)).heap.size = w.heap.size + 1 := World.size_alloc _ _
  have HB1 := Lib.hid b1
  have HX1 := Lib.hid hx1
  have HK := Lib.hid hk
  have HKa : Hid (∀ p ∈ ps, Gs (w.alloc (.cells #[.int .i64 0, .string ⟨#[]⟩, .slice none 0 0] 32)) (Dx X (w.alloc (.cells #[.int .i64 0, .string ⟨#[]⟩, .slice none 0 0] 32))) p.2 p.1.c) := fun p hp => (hk p hp).dxB b1
  have HPS := Lib.hid hps
  cases A with
  | none =>
    have hn0 : n = 0 := by
      rcases hc with h | ⟨b, off, e, _⟩
      · exact h
      · cases e
    subst hn0
    have hps0 : ps = [] := List.eq_nil_of_length_eq_zero hl
    subst hps0
    have hr : rowN L = ⟨0, emp, .nil⟩ := by rw [← hps]; rfl
    rw [hr]
    clear hk hc hps hr hx1 hl
    go_enter Try.func22, Try.ntmps22
    go_wp2_with fail
    refine (clone_nil 0 C _).mono ?_
    rintro e w2 ⟨rfl, rfl⟩
    go_wp2_with fail
    refine (del_none _).mono ?_
    rintro e w2 ⟨rfl, rfl⟩
    go_wp2
    refine bodyPost_ret (results_cell_row rfl _ _ w.heap.size 32 _ (0, 0) _ rfl (heap_alloc_new _ _) Try.underlying32 rfl doc_size) rfl ?_
    exact ⟨_, rfl, Gs.nil' _ _, HB1.out⟩
  | some ad =>
    have hcf : ∀ j u, (ps.flatMap ndC)[j]? = some u → (w.alloc (.cells #[.int .i64 0, .string ⟨#[]⟩, .slice none 0 0] 32)).cell? (ad.add j) = some u := fun j u hu => by
      rcases hc with h0 | ⟨b, off, e, hc⟩
      · have : ps = [] := List.eq_nil_of_length_eq_zero (by omega)
        subst this; simp at hu
      · injection e with e
        subst e
        have := hc j u hu
        rw [Addr.add_lit]
        exact Lib.cell?_alloc_some _ this
    have h1 : ∀ p ∈ ps, p.2.oneCell' = true := fun p hp => by
      obtain ⟨_, _, e, _, _⟩ := (hk p hp).slice
      rw [e]; rfl
    have HCL := Lib.hid (clone_some ad n C ps _ hl hn hcf h1)
    have HL := Lib.hid hl
    have HGL : Hid (L = ps.map (·.1)) := hps.symm
    clear hk hc hps b1 hx1 hl hcf h1
    go_enter Try.func22, Try.ntmps22
    go_wp2_with fail
    refine HCL.out.mono ?_
    rintro e w2 ⟨g2, c2, rfl, hg2, hnc2, hcm2, hr2, hb2⟩
    have HDL := Lib.hid (del_any g2 n c2 ps _ w2 hb2 hg2 hr2 HL.out hn hnc2 hcm2 HKa.out)
    rw [hz1] at hg2
    clear hr2 hb2 HCL
    go_wp2_with fail
    refine HDL.out.mono ?_
    rintro e w3 ⟨rfl, hr3, hb3⟩
    obtain ⟨qs, hqs⟩ : ∃ qs, ps.filter keepN = qs := ⟨_, rfl⟩
    obtain ⟨m, hm⟩ : ∃ m, qs.length = m := ⟨_, rfl⟩
    rw [hqs] at hr3 ⊢
    rw [hm]
    rw [hz1] at hb3
    have hx3 := (hb3.block w.heap.size (by omega)).trans HX1.out
    have hbw3 := HB1.out.trans (hb3.mono (Nat.le_succ _))
    have hfl : L.filter (fun nd => !noth nd) = qs.map (·.1) := by rw [HGL.out, ← filter_map, hqs]
    have hks : ∀ q ∈ qs, Gs w (Dx X w) q.2 q.1.c := fun q hq => by rw [← hqs] at hq; exact HK.out q (List.mem_filter.1 hq).1
    have hmn : m ≤ n := by rw [← hm, ← hqs, ← HL.out]; exact List.length_filter_le _ _
    obtain ⟨z0, z1, z2⟩ := cl3 hx3
    have f0 := frz hx3 0
    have f1 := frz hx3 1
    have f2 := frz hx3 2
    by_cases hm1 : m = 1
    · subst hm1
      obtain ⟨q, rfl⟩ : ∃ q, qs = [q] := List.length_eq_one_iff.1 hm
      obtain ⟨⟨k, x, c⟩, s⟩ := q
      obtain ⟨u0, u1, u2⟩ := hr3.2 0 _ rfl
      simp only [Nat.zero_mul, Nat.zero_add] at u0 u1 u2
      have hsk := hks _ (List.mem_cons_self ..)
      obtain ⟨As, Cs, hsf, _, _⟩ := hsk.slice
      dsimp only at hsf hsk
      subst hsf
      obtain ⟨W, hW, hfin, _, hbW⟩ := fin3 hx3 (.int .i64 k) (.string x) (.slice As c.len Cs)
      have HP : Hid (DocPost X (rowN L) w (.returned (.agg #[.int .i64 k, .string x, .slice As c.len Cs])) W) := by
        show DocPost _ _ _ _ _
        rw [rowN_one hfl]
        exact ⟨_, rfl, hsk.dxB (hbw3.trans hbW), hbw3.trans hbW⟩
      have HFIN := Lib.hid hfin
      have HW := Lib.hid hW
      clear hr3 hb3 hx3 hbw3 hfl hks hsk hW hfin hbW HDL hqs hm HX1 HGL
      go_wp2
      rw [HW.out]
      refine bodyPost_ret (results_cell_row rfl _ _ w.heap.size 32 _ (0, 0) _ rfl HFIN.out Try.underlying32 rfl doc_size) rfl ?_
      exact HP.out
    · have hm1' : ((m : Int) == 1) = false := beq_eq_false_iff_ne.2 (by omega)
      obtain ⟨W, hW, hfin, hoth, hbW⟩ := fin3 hx3 (.int .i64 0) (.string ⟨#[]⟩) (.slice (some ⟨g2, 0, none⟩) m c2)
      have hrW := hr3.of_block (hoth g2 (by omega))
      have hbwW := hbw3.trans hbW
      have HP : Hid (DocPost X (rowN L) w (.returned (.agg #[.int .i64 0, .string ⟨#[]⟩, .slice (some ⟨g2, 0, none⟩) m c2])) W) := by
        show DocPost _ _ _ _ _
        rw [rowN_not hfl (by rw [List.length_map, hm]; exact hm1)]
        refine ⟨_, rfl, RowC.gs qs 0 m c2 hm (by omega) (by unfold maxLen at hcm2; omega) ⟨⟨_, _, hrW.1.choose_spec⟩, fun h => by have := hX _ h; omega⟩ (fun i p hp => ?_) (fun p hp => (hks p hp).dxB hbwW) _ (.inr rfl), hbwW⟩
        simp only [Nat.zero_add]
        exact hrW.2 i p hp
      have HFIN := Lib.hid hfin
      have HW := Lib.hid hW
      clear hr3 hb3 hx3 hbw3 hfl hks hW hfin hbW hoth hrW hbwW HDL hqs hm HX1 HGL
      go_wp2
      rw [HW.out]
      refine bodyPost_ret (results_cell_row rfl _ _ w.heap.size 32 _ (0, 0) _ rfl HFIN.out Try.underlying32 rfl doc_size) rfl ?_
      exact HP.out
theorem row_any {X : Nat → Prop} (A : Option Addr) (n C : Nat) (g : G) (w : World) (hX : ∀ b, X b → b < w.heap.size) (hs : Gs w (Dx X w) (.slice A n C) g) (hn : n ≤ 1000000) (hCm : C ≤ maxLen) :
    Calls Try.prog 22 #[.slice A n C] w (DocPost X (rowN (toL g)) w) := by
  obtain ⟨ps, hps, hk, hc⟩ := gs_flat g A n C hs
  have hgl : g.len = n := by obtain ⟨_, _, e, _, _⟩ := hs.slice; injection e with _ e _; exact e.symm
  have hnC : n ≤ C := by obtain ⟨_, _, e, h, _⟩ := hs.slice; injection e with _ e1 e2; omega
  have hl : ps.length = n := by rw [← hgl, ← toL_len, ← hps, List.length_map]
  exact row_flat A n C ps _ w hX hps hl hk (hc.imp id fun ⟨b, off, e, _, h⟩ => ⟨b, off, e, h⟩) hn hnC hCm
end Go.Proofs.Ytpankfbdlakmcaa.Doc
