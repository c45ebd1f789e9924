/-
  Words for memory, of no layer: bytes, integers and rows of a call's own, as lists. (Out of layer 1's texts.)
-/
import Derived.Test.YtccbbmkdmdllgaaChecked
import Derived.WalkKit
import Derived.ProofKit
import Derived.OpenShut
import Derived.Below
import Derived.Lib.Hide
import Derived.Laws.BytesArg
import Derived.Outline
import Derived.WalkMore
import Derived.OneCell
import Derived.OwnWalk
import Derived.Maps.AppendAt
import Derived.Deep.QuietTactic
import Derived.BigQuiet
namespace Go.Proofs.Ytccbbmkdmdllgaa.Mem
open Go.ChangeShapes Go.WideShapes Go.ChangeAt Go.RowKit
set_option linter.unusedVariables false

def Byt (l : List Int) : Prop := ∀ x ∈ l, 0 ≤ x ∧ x < 256

theorem Byt.take {l : List Int} (h : Byt l) (n : Nat) : Byt (l.take n) := fun x hx => h x (List.mem_of_mem_take hx)
theorem Byt.drop {l : List Int} (h : Byt l) (n : Nat) : Byt (l.drop n) := fun x hx => h x (List.mem_of_mem_drop hx)
theorem Byt.append {l m : List Int} (h : Byt l) (k : Byt m) : Byt (l ++ m) := fun x hx => by
  rcases List.mem_append.1 hx with h' | h'
  · exact h x h'
  · exact k x h'
theorem Byt.nil : Byt [] := fun x hx => by cases hx
theorem Byt.getD {l : List Int} (h : Byt l) (i : Nat) : 0 ≤ l.getD i 0 ∧ l.getD i 0 < 256 := by
  by_cases hi : i < l.length
  · have e : l.getD i 0 = l[i] := by simp [List.getD, hi]
    rw [e]; exact h _ (List.getElem_mem hi)
  · have e : l.getD i 0 = 0 := by simp [List.getD, List.getElem?_eq_none (show l.length ≤ i by omega)]
    rw [e]; omega

/-- The slice at A, of as many bytes as xs has, reads as xs; it lies below block B. -/
def RB (w : World) (B : Nat) (A : Option Addr) (xs : List Int) : Prop :=
  Byt xs ∧ (xs = [] ∨ ∃ b off, A = some ⟨b, off, none⟩ ∧ b < B ∧ ∀ i, i < xs.length → w.cell? ⟨b, off + i, none⟩ = some (.int .u8 (xs.getD i 0)))

section
variable {w w' : World} {B B' : Nat} {A : Option Addr} {xs : List Int}
theorem RB.byt (h : RB w B A xs) : Byt xs := h.1
theorem RB.keep (h : RB w B A xs) (hk : ∀ p : Addr, p.block < B → w'.cell? p = w.cell? p) : RB w' B A xs :=
  ⟨h.1, by
    rcases h.2 with e | ⟨b, off, e, hb, hc⟩
    · exact .inl e
    · exact .inr ⟨b, off, e, hb, fun i hi => (hk _ hb).trans (hc i hi)⟩⟩
theorem RB.more (h : RB w B A xs) (hB : B ≤ B') : RB w B' A xs :=
  ⟨h.1, by
    rcases h.2 with e | ⟨b, off, e, hb, hc⟩
    · exact .inl e
    · exact .inr ⟨b, off, e, by omega, hc⟩⟩
theorem RB.below (h : RB w B A xs) {B0 : Nat} (hb : Below B0 w w') (hB : B ≤ B0) : RB w' B A xs := h.keep fun _ hp => hb.cell (by omega)
theorem RB.nil (w : World) (B : Nat) (A : Option Addr) : RB w B A [] := ⟨Byt.nil, .inl rfl⟩
theorem RB.take (h : RB w B A xs) (n : Nat) : RB w B A (xs.take n) :=
  ⟨h.1.take n, by
    rcases h.2 with e | ⟨b, off, e, hb, hc⟩
    · exact .inl (by rw [e]; simp)
    · refine .inr ⟨b, off, e, hb, fun i hi => ?_⟩
      rw [List.length_take] at hi
      rw [hc i (by omega)]
      simp [List.getD, show i < n by omega]⟩
theorem RB.drop (h : RB w B A xs) {k cap : Nat} (hk : k ≤ xs.length) (hc : xs.length ≤ cap) :
    RB w B (if cap = k then A else A.map (·.add k)) (xs.drop k) :=
  ⟨h.1.drop k, by
    by_cases hz : xs.length = k
    · exact .inl (by rw [← hz, List.drop_length])
    · rcases h.2 with e | ⟨b, off, e, hb, hcell⟩
      · rw [e] at hz hk; simp at hz hk; omega
      · rw [if_neg (by omega)]
        refine .inr ⟨b, off + k, ?_, hb, fun i hi => ?_⟩
        · rw [e]; simp only [Option.map_some, Addr.add]; split <;> simp_all
        · rw [List.length_drop] at hi
          rw [Nat.add_assoc, hcell (k + i) (by omega)]
          simp [List.getD, List.getElem?_drop]⟩
theorem RB.cell (h : RB w B A xs) (hn : xs ≠ []) : ∃ b off, A = some ⟨b, off, none⟩ ∧ b < B ∧ ∀ i, i < xs.length → w.cell? ⟨b, off + i, none⟩ = some (.int .u8 (xs.getD i 0)) := by
  rcases h.2 with e | h'
  · exact absurd e hn
  · exact h'
end

theorem run_conv {P : Program} (w : World) (src dst e : TypeId) (hs : P.underlying src = some (.slice e)) (he : P.underlying e = some (.int .u8)) (hd : P.underlying dst = some .string)
    {B : Nat} {A : Option Addr} {xs : List Int} (h : RB w B A xs) (c : Nat) : (convert src dst (.slice A xs.length c)).run P w = .ok (.string (strOfNums xs)) w := by
  rcases h.2 with e0 | ⟨b, off, e0, _, hc⟩
  · subst e0
    rcases A with _ | a
    · exact run_convert_bytes_nil w src e hs he _ c dst hd
    · rw [run_convert_bytes_string w src dst e _ _ c hs he hd]
      rw [run_bytesToString w a _ c [] (by simp [loadCells, loadCellsFrom])]
      rfl
  · subst e0
    exact run_convert_bytes_arg w src e hs he b off _ c xs rfl hc dst hd

theorem u8_of (n : Nat) (h : n < 256) : (UInt8.ofNat n).toNat = n := by simp; omega

theorem strOfNums_inj {a b : List Int} (ha : Byt a) (hb : Byt b) (h : strOfNums a = strOfNums b) : a = b := by
  have h1 : a.map (fun n => UInt8.ofNat n.toNat) = b.map (fun n => UInt8.ofNat n.toNat) := by
    have := congrArg (fun s : ByteArray => s.data.toList) h
    simpa [strOfNums] using this
  clear h
  induction a generalizing b with
  | nil => cases b with
    | nil => rfl
    | cons y b => simp at h1
  | cons x a ih =>
    cases b with
    | nil => simp at h1
    | cons y b =>
      simp only [List.map_cons, List.cons.injEq] at h1
      have hx := ha x (by simp)
      have hy := hb y (by simp)
      have e : x.toNat = y.toNat := by
        have := congrArg UInt8.toNat h1.1
        rw [u8_of x.toNat (by omega), u8_of y.toNat (by omega)] at this
        exact this
      have exy : x = y := by omega
      rw [exy, ih (fun z hz => ha z (by simp [hz])) (fun z hz => hb z (by simp [hz])) h1.2]

theorem rb_new (w : World) (xs : List Int) (T : TypeId) (hb : Byt xs) : RB (w.alloc (.cells (xs.map (Value.int .u8)).toArray T)) (w.heap.size + 1) (some ⟨w.heap.size, 0, none⟩) xs :=
  ⟨hb, .inr ⟨_, _, rfl, by omega, fun i hi => by
    rw [World.cell?_alloc_at _ _ _ _ rfl]
    simp [List.getD, hi]⟩⟩

theorem below_drewN {B : Nat} {a w : World} (h : Below B a w) (n : Nat) : Below B a (w.drewN n) := ⟨h.os, h.tape, h.output, h.size, h.block⟩

theorem str_toList {a b : ByteArray} (h : a.toList = b.toList) : a = b := by
  rw [ByteArray.toList_eq, ByteArray.toList_eq] at h
  cases a; cases b; simp at h; rw [h]


/-- What the law's frame tells of a slice of integers that came in. -/
def Row (k : IntKind) (w : World) (a : Option Addr) (len cap : Nat) (zs : List Int) : Prop :=
  (a = none ∧ len = 0 ∧ cap = 0 ∧ zs = []) ∨
  ∃ x, a = some x ∧ len ≤ cap ∧ cap ≤ maxLen ∧ zs.length = cap ∧ (∀ i, i < zs.length → w.cell? (x.add i) = some (.int k (zs.getD i 0))) ∧ ∀ n ∈ zs, (Lit.int k n).wf = true

theorem block_lt {w : World} {a : Addr} {v : Value} (h : w.cell? a = some v) : a.block < w.heap.size := by
  rcases Nat.lt_or_ge a.block w.heap.size with h' | h'
  · exact h'
  · simp [World.cell?, Array.getElem?_eq_none h'] at h

theorem row_rb {w : World} {a : Option Addr} {len cap : Nat} {zs : List Int} (h : Row .u8 w a len cap zs) : ∃ xs, xs.length = len ∧ len ≤ cap ∧ cap ≤ maxLen ∧ RB w w.heap.size a xs := by
  rcases h with ⟨rfl, rfl, rfl, rfl⟩ | ⟨x, rfl, hl, hm, hz, hc, hw⟩
  · exact ⟨[], rfl, Nat.le_refl _, by simp [maxLen], RB.nil _ _ _⟩
  · refine ⟨zs.take len, by rw [List.length_take]; omega, hl, hm, ?_, ?_⟩
    · intro y hy
      have := bounds_u8 (hw y (List.mem_of_mem_take hy))
      omega
    · by_cases h0 : len = 0
      · subst h0; exact .inl rfl
      · obtain ⟨b, off, spot⟩ := x
        have hspot : spot = none := by simpa [Addr.add] using World.cell?_spot (hc 0 (by omega))
        subst hspot
        refine .inr ⟨b, off, rfl, by simpa [Addr.add] using block_lt (hc 0 (by omega)), fun i hi => ?_⟩
        rw [List.length_take] at hi
        have e : (⟨b, off, none⟩ : Addr).add i = ⟨b, off + i, none⟩ := by unfold Addr.add; split <;> simp_all
        rw [← e, hc i (by omega)]
        simp [List.getD, show i < len by omega]

theorem int_info : (Try.prog.info? 3).map (fun i => (i.zero, i.size, i.bytes)) = some (some (.int .i64 0), 1, 8) := by kernel_rfl

theorem u8_info : (Try.prog.info? 5).map (fun i => (i.zero, i.size, i.bytes)) = some (some (.int .u8 0), 1, 1) := by kernel_rfl

theorem own_form {w : World} {base : Nat} {e : TypeId} {size : Nat} {v : Value} {n : Nat} {xs : List Value} (h : w.ownsRow base e size v n xs) (hn : 0 < n) : ∃ g cap, v = .slice (some ⟨g, 0, none⟩) n cap := by
  rcases h.2 with ⟨_, h0⟩ | ⟨g, cap, _, hv, _⟩
  · omega
  · exact ⟨g, cap, hv⟩
theorem own_slice {w : World} {base : Nat} {e : TypeId} {size : Nat} {v : Value} {n : Nat} {xs : List Value} (h : w.ownsRow base e size v n xs) : ∃ a cap, v = .slice a n cap ∧ n ≤ cap ∧ cap ≤ maxLen := by
  rcases h.2 with ⟨hv, h0⟩ | ⟨g, cap, _, hv, _, _, h1, h2, _⟩
  · exact ⟨none, 0, by rw [hv, h0], by omega, by unfold maxLen; omega⟩
  · exact ⟨_, cap, hv, h1, h2⟩

theorem own_base {w : World} {base base' : Nat} {e : TypeId} {size : Nat} {v : Value} {n : Nat} {xs : List Value} (h : w.ownsRow base e size v n xs) (hb : base' ≤ base) : w.ownsRow base' e size v n xs :=
  ⟨h.1, by
    rcases h.2 with h' | ⟨g, cap, cur, a, b, c⟩
    · exact .inl h'
    · exact .inr ⟨g, cap, cur, a, by omega, c⟩⟩

section
variable {w w' : World} {base : Nat} {e : TypeId} {size : Nat} {v : Value} {n : Nat} {vs : List Value}
theorem own_below (h : w.ownsRow base e size v n vs) {B : Nat} (hb : Below B w w') (hB : w.heap.size ≤ B) : w'.ownsRow base e size v n vs :=
  ⟨h.1, by
    rcases h.2 with h' | ⟨g, cap, cur, a, b, hg, r⟩
    · exact .inl h'
    · exact .inr ⟨g, cap, cur, a, b, (hb.block g (by have := lt_of_block hg; omega)).trans hg, r⟩⟩
theorem own_drewN (h : w.ownsRow base e size v n vs) (k : Nat) : (w.drewN k).ownsRow base e size v n vs := h
theorem own_apart {e' : TypeId} {base' size' n' : Nat} {v' : Value} {vs' : List Value} (h : w.ownsRow base e size v n vs) (h' : w.ownsRow base' e' size' v' n' vs') (hne : e ≠ e') : v.ownBlock = none ∨ v.ownBlock ≠ v'.ownBlock := by
  rcases h.2 with ⟨rfl, _⟩ | ⟨g, cap, cur, rfl, _, hg, _⟩
  · exact .inl rfl
  · rcases h'.2 with ⟨rfl, _⟩ | ⟨g', cap', cur', rfl, _, hg', _⟩
    · exact .inr (by simp [Value.ownBlock])
    · refine .inr fun hh => ?_
      have hgg : g = g' := by simpa [Value.ownBlock] using hh
      subst hgg
      rw [hg] at hg'
      injection hg' with hg'
      injection hg' with _ he
      exact hne he
end

theorem own_rb {w : World} {base n c : Nat} {A : Option Addr} {xs : List Int} (h : w.ownsRow base 5 1 (.slice A n c) n (xs.map (Value.int .u8))) (hb : Byt xs) : RB w w.heap.size A xs :=
  ⟨hb, by
    by_cases hx : xs = []
    · exact .inl hx
    · have hn : n = xs.length := by have := h.1; simpa using this.symm
      have hp : 0 < xs.length := List.length_pos_iff.2 hx
      rcases h.2 with ⟨_, h0⟩ | ⟨g, cap, cur, hv, hg0, hg, h1, h2, h3, h4⟩
      · omega
      · injection hv with hA _ _
        refine .inr ⟨g, 0, hA, lt_of_block hg, fun i hi => ?_⟩
        have hlt : i < cur.size := by omega
        have e1 : w.cell? ⟨g, 0 + i, none⟩ = cur[i]? := by simp [World.cell?, hg]
        rw [e1]
        have e2 : (xs.map (Value.int .u8))[i]? = cur.toList[i]? := by rw [← h4, List.getElem?_take]; simp; omega
        rw [← Array.getElem?_toList, ← e2]
        simp [List.getD, hi]⟩

theorem app_rb (w : World) {ops : Array Oper} {rest : List Oper} {o : Oper} {a : Act} {Q : Exit → Act → World → Prop} (hgd : o.guard = none) (s x : Operand)
    (ho : o.op = .call { callee := .builtin .append, args := #[s, x], argTypes := #[22, 22] }) (base : Nat) (v : Value) (n : Nat) (vs : List Value) (hs : a.eval s = v)
    (hown : w.ownsRow base 5 1 v n vs) (B : Nat) (A : Option Addr) (m c : Nat) (xs : List Int) (hx : a.eval x = .slice A m c) (hr : RB w B A xs) (hm : xs.length = m)
    (h63 : n + m ≤ 140737488355328) (hbase : base ≤ w.heap.size)
    (h : ∀ v' w', w'.ownsRow base 5 1 v' (n + m) (vs ++ xs.map (Value.int .u8)) → w.grownBy w' v.ownBlock → (v'.ownBlock = v.ownBlock ∨ v'.ownBlock = some w.heap.size) → wpList Try.prog ops Q rest (a.put o.dst v') w') :
    wpList Try.prog ops Q (o :: rest) a w := by
  obtain ⟨i0, hi0, hz0, hz1, hz2⟩ := info_parts u8_info
  rcases A with _ | ad
  · have hnil : xs = [] := by
      rcases hr.2 with e | ⟨b, off, e, _⟩
      · exact e
      · cases e
    subst hnil
    simp only [List.length_nil] at hm
    subst hm
    have hrun : (Builtin.append_ #[22, 22] o.type #[v, .slice none 0 c]).run Try.prog w = .ok v w := by
      rcases hown.2 with ⟨rfl, rfl⟩ | ⟨g, cap, cur, rfl, _, _, hnc, _⟩
      · simp [Builtin.append_, run_underlying Try.underlying22, sizeOf, typeInfo, hi0, Builtin.lenOf, Builtin.firstCells]
      · simp [Builtin.append_, run_underlying Try.underlying22, sizeOf, typeInfo, hi0, Builtin.lenOf, Builtin.firstCells, hnc, storeCells]
    refine wpList_plain hgd fun K hK => ?_
    unfold Oper.wp execOp
    simp only [ho, resolve, invoke, builtin, Sem.run_bind, Sem.run_pure, Result.andThen_ok, List.map_toArray, List.map_cons, List.map_nil, hs, hx, hrun]
    exact hK _ _ (h v w (by simpa using hown) ⟨rfl, rfl, rfl, Nat.le_refl _, fun _ _ _ => rfl⟩ (.inl rfl))
  · refine wpList_append_own_at (P := Try.prog) w hgd s x 22 ho base 5 i0 (.int .u8 0) 1 1 Try.underlying22 hi0 hz0 hz1 hz2 rfl (by decide) v n vs hs hown ad m c (xs.map (Value.int .u8)) hx (by simp [hm]) ?_ ?_ (by unfold maxLen; omega) (by omega) hbase fun v' w' h1 h2 _ h4 => h v' w' h1 h2 h4
    · intro j u hj
      rcases hr.2 with e | ⟨b, off, e, _, hc⟩
      · subst e; simp at hj
      · injection e with e
        subst e
        have hj' : j < xs.length := by
          rcases Nat.lt_or_ge j xs.length with h' | h'
          · exact h'
          · rw [List.getElem?_eq_none (by simpa using h')] at hj; cases hj
        have e2 : (⟨b, off, none⟩ : Addr).add j = ⟨b, off + j, none⟩ := by unfold Addr.add; split <;> simp_all
        rw [e2, hc j hj']
        simp [List.getD, hj'] at hj ⊢
        exact hj
    · intro u hu
      obtain ⟨y, _, rfl⟩ := List.mem_map.1 hu
      rfl

/-- The slice at A, of as many integers as xs has, reads as xs; it lies below block B. -/
def RI (w : World) (B : Nat) (A : Option Addr) (xs : List Int) : Prop :=
  xs = [] ∨ ∃ b off, A = some ⟨b, off, none⟩ ∧ b < B ∧ ∀ i, i < xs.length → w.cell? ⟨b, off + i, none⟩ = some (.int .i64 (xs.getD i 0))
theorem RI.below {w w' : World} {B : Nat} {A : Option Addr} {xs : List Int} (h : RI w B A xs) {B0 : Nat} (hb : Below B0 w w') (hB : B ≤ B0) : RI w' B A xs := by
  rcases h with h | ⟨b, off, e, hl, hc⟩
  · exact .inl h
  · exact .inr ⟨b, off, e, hl, fun i hi => (hb.cell (by show b < B0; omega)).trans (hc i hi)⟩
theorem RI.at_ {w : World} {B : Nat} {A : Option Addr} {xs : List Int} (h : RI w B A xs) {i : Nat} (hi : i < xs.length) : ∃ b off, A = some ⟨b, off, none⟩ ∧ b < B ∧ w.cell? ⟨b, off + i, none⟩ = some (.int .i64 (xs.getD i 0)) := by
  rcases h with h | ⟨b, off, e, hl, hc⟩
  · subst h; simp at hi
  · exact ⟨b, off, e, hl, hc i hi⟩
theorem RI.take {w : World} {B : Nat} {A : Option Addr} {xs : List Int} (h : RI w B A xs) (n : Nat) : RI w B A (xs.take n) := by
  rcases h with h | ⟨b, off, e, hl, hc⟩
  · exact .inl (by rw [h]; simp)
  · refine .inr ⟨b, off, e, hl, fun i hi => ?_⟩
    rw [List.length_take] at hi
    rw [hc i (by omega)]
    simp [List.getD, show i < n by omega]

theorem own_ri {w : World} {base n c : Nat} {A : Option Addr} {xs : List Int} (h : w.ownsRow base 3 1 (.slice A n c) n (xs.map (Value.int .i64))) : RI w w.heap.size A xs := by
  by_cases hx : xs = []
  · exact .inl hx
  · have hn : n = xs.length := by have := h.1; simpa using this.symm
    have hp : 0 < xs.length := List.length_pos_iff.2 hx
    rcases h.2 with ⟨_, h0⟩ | ⟨g, cap, cur, hv, hg0, hg, h1, h2, h3, h4⟩
    · omega
    · injection hv with hA _ _
      refine .inr ⟨g, 0, hA, lt_of_block hg, fun i hi => ?_⟩
      have hlt : i < cur.size := by omega
      have e1 : w.cell? ⟨g, 0 + i, none⟩ = cur[i]? := by simp [World.cell?, hg]
      rw [e1]
      have e2 : (xs.map (Value.int .i64))[i]? = cur.toList[i]? := by rw [← h4, List.getElem?_take]; simp; omega
      rw [← Array.getElem?_toList, ← e2]
      simp [List.getD, hi]

/-- append of one integer onto a row of the call's own. -/
theorem app_int (w : World) {ops : Array Oper} {rest : List Oper} {o : Oper} {a : Act} {Q : Exit → Act → World → Prop} (hgd : o.guard = none) (s x : Operand)
    (ho : o.op = .call { callee := .builtin .append, args := #[s, x], argTypes := #[26, 26] }) (base : Nat) (v : Value) (ks : List Int) (k : Int) (hs : a.eval s = v)
    (hown : w.ownsRow base 3 1 v ks.length (ks.map (Value.int .i64))) (g : Nat) (hg : g = w.heap.size) (hx : a.eval x = .slice (some ⟨g, 0, none⟩) 1 1)
    (h63 : ks.length ≤ 1000000) (hbase : base ≤ w.heap.size)
    (h : ∀ v' w', w'.ownsRow base 3 1 v' (ks ++ [k]).length ((ks ++ [k]).map (Value.int .i64)) → Below w.heap.size w w' ∨ (∃ b, v.ownBlock = some b ∧ w.grownBy w' (some b)) → (∀ B, (∀ b, v.ownBlock = some b → B ≤ b) → B ≤ w.heap.size → Below B w w') →
      (v'.ownBlock = v.ownBlock ∨ v'.ownBlock = some (w.heap.size + 1)) → wpList Try.prog ops Q rest (a.put o.dst v') w') :
    wpList Try.prog ops Q (o :: rest) a (w.alloc (.cells #[.int .i64 k] 3)) := by
  obtain ⟨i0, hi0, hz0, hz1, hz2⟩ := info_parts int_info
  subst hg
  refine wpList_append_own_at (P := Try.prog) _ hgd s x 26 ho base 3 i0 (.int .i64 0) 1 8 Try.underlying26 hi0 hz0 hz1 hz2 rfl (by decide) v ks.length (ks.map (Value.int .i64)) hs (hown.alloc _) ⟨w.heap.size, 0, none⟩ 1 1 [.int .i64 k] hx rfl (cell_one_new _ _ _) (by simp [Value.oneCell']) (by unfold maxLen; omega) (by omega) (by simp; omega) fun v' w' h1 h2 _ h4 => ?_
  have hB : ∀ B, (∀ b, v.ownBlock = some b → B ≤ b) → B ≤ w.heap.size → Below B w w' := fun B hv hB =>
    ((Below.refl B w).alloc hB _).grown h2 (by simp; omega) hv
  refine h v' w' (by simpa using h1) ?_ hB (by simpa using h4)
  rcases hv : v.ownBlock with _ | b
  · exact .inl (hB _ (by simp [hv]) (Nat.le_refl _))
  · refine .inr ⟨b, rfl, ?_⟩
    rw [hv] at h2
    exact ⟨h2.os, h2.tape, h2.output, by have := h2.size; simp at this; omega, fun i hi hne => (h2.block i (by simp; omega) hne).trans (Below.heap_alloc w _ i hi)⟩

/-- Integers that came in. -/
def IntsIn (l : List Int) : Prop := ∀ k ∈ l, -9223372036854775808 ≤ k ∧ k ≤ 9223372036854775807
theorem IntsIn.take {l : List Int} (h : IntsIn l) (n : Nat) : IntsIn (l.take n) := fun k hk => h k (List.mem_of_mem_take hk)
theorem IntsIn.getD {l : List Int} (h : IntsIn l) (i : Nat) : -9223372036854775808 ≤ l.getD i 0 ∧ l.getD i 0 ≤ 9223372036854775807 := by
  by_cases hi : i < l.length
  · have e : l.getD i 0 = l[i] := by simp [List.getD, hi]
    rw [e]; exact h _ (List.getElem_mem hi)
  · have e : l.getD i 0 = 0 := by simp [List.getD, List.getElem?_eq_none (show l.length ≤ i by omega)]
    rw [e]; omega

theorem row_ri {w : World} {a : Option Addr} {len cap : Nat} {zs : List Int} (h : Row .i64 w a len cap zs) : ∃ xs, xs.length = len ∧ len ≤ cap ∧ cap ≤ maxLen ∧ RI w w.heap.size a xs ∧ IntsIn xs := by
  rcases h with ⟨rfl, rfl, rfl, rfl⟩ | ⟨x, rfl, hl, hm, hz, hc, hw⟩
  · exact ⟨[], rfl, Nat.le_refl _, by simp [maxLen], .inl rfl, fun k hk => by cases hk⟩
  · refine ⟨zs.take len, by rw [List.length_take]; omega, hl, hm, ?_, fun y hy => bounds_i64 (hw y (List.mem_of_mem_take hy))⟩
    by_cases h0 : len = 0
    · subst h0; exact .inl rfl
    · obtain ⟨b, off, spot⟩ := x
      have hspot : spot = none := by simpa [Addr.add] using World.cell?_spot (hc 0 (by omega))
      subst hspot
      refine .inr ⟨b, off, rfl, by simpa [Addr.add] using block_lt (hc 0 (by omega)), fun i hi => ?_⟩
      rw [List.length_take] at hi
      have e : (⟨b, off, none⟩ : Addr).add i = ⟨b, off + i, none⟩ := by unfold Addr.add; split <;> simp_all
      rw [← e, hc i (by omega)]
      simp [List.getD, show i < len by omega]

theorem own_kept {w w' : World} {base n : Nat} {e : TypeId} {size : Nat} {v : Value} {vs : List Value} {row : Option Nat} (h : w.ownsRow base e size v n vs) (hg : w.grownBy w' row) (hne : v.ownBlock = none ∨ v.ownBlock ≠ row) : w'.ownsRow base e size v n vs := h.kept hg hne

/-- One sign more: its bytes, then itself. -/

theorem idx_of (a : Int) (nb : Nat) (h : nb ≤ 1000000000) : ∃ k : Nat, wrap64 ((IntKind.u64.wrap a).tmod ((nb : Int) + 1)) = k ∧ k ≤ nb := by
  have h0 : 0 ≤ IntKind.u64.wrap a := by
    simp only [IntKind.wrap_u64]; omega
  have h1 := Int.emod_nonneg (IntKind.u64.wrap a) (b := (nb : Int) + 1) (by omega)
  have h2 := Int.emod_lt_of_pos (IntKind.u64.wrap a) (b := (nb : Int) + 1) (by omega)
  rw [Int.tmod_eq_emod_of_nonneg h0]
  generalize IntKind.u64.wrap a % ((nb : Int) + 1) = r at *
  refine ⟨r.toNat, ?_, by omega⟩
  unfold wrap64; omega

theorem ret1 {k : IntKind} {a b : Int} (h : a = b) : Ending.returned (.int k a) = .returned (.int k b) := by rw [h]

theorem ret2 {k k' : IntKind} {a b a' b' : Int} (h : a = a') (h' : b = b') : Ending.returned (.tuple #[.int k a, .int k' b]) = .returned (.tuple #[.int k a', .int k' b']) := by rw [h, h']

theorem tup {a : Option Addr} {n n' c c' : Nat} {e : Int} (h : n = n') (h' : c = c') : Ending.returned (.tuple #[.slice a n c, .int .i64 e]) = .returned (.tuple #[.slice a n' c', .int .i64 e]) := by rw [h, h']

end Go.Proofs.Ytccbbmkdmdllgaa.Mem
