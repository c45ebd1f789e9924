/-
  Layer 10 (shape): what the laws ask of the program's own calls (said as conditions, which the program's contracts meet), and the chapter's example.
-/
import Derived.Test.YtmknghhgcecafaaDoorJxC
import Derived.Test.YtmknghhgcecafaaDoorShapeRefMarks
import Derived.Lib.AppendIntMem
namespace Go.Proofs.YtmknghhgcecafaaDoor.Shape
open Go.ChangeShapes Go.WideShapes Go.ChangeAt Go.RowKit Mem Tree
set_option linter.unusedVariables false

def ints (l : List Nat) : List Int := l.map fun (q : Nat) => (q : Int)
def kidI (T : F) : List (List Int) := (kidF 0 T).map ints
def marksI (l : F) : List (List Int) := (marksF [] l).map ints
/-- The value v reads as the plan of the tree T (a row of one). -/
def PlanRd (w : World) (S : Nat → Prop) (T : F) (v : Value) : Prop :=
  ∃ vN vP vS vK, v = .agg #[vN, vP, vS, vK] ∧ Fs w S vN (ofL (nodes T)) ∧ SlAt w S vP ((parF (-1) 0 T).map iv) ∧ SlAt w S vS ((sizF T).map iv) ∧ RowsAt w S vK (kidI T)
theorem PlanRd.keep {w w' : World} {S : Nat → Prop} {T : F} {v : Value} (h : PlanRd w S T v) (hb : ∀ b, S b → w'.heap[b]? = w.heap[b]?) : PlanRd w' S T v := by
  obtain ⟨vN, vP, vS, vK, e, h1, h2, h3, h4⟩ := h
  exact ⟨vN, vP, vS, vK, e, h1.keep hb, h2.keep hb, h3.keep hb, h4.keep hb⟩
theorem PlanRd.more {w : World} {S S' : Nat → Prop} {T : F} {v : Value} (h : PlanRd w S T v) (hs : ∀ b, S b → S' b) : PlanRd w S' T v := by
  obtain ⟨vN, vP, vS, vK, e, h1, h2, h3, h4⟩ := h
  exact ⟨vN, vP, vS, vK, e, h1.more hs, h2.more hs, h3.more hs, h4.more hs⟩
/-- A slice of nodes that has just been laid. -/
theorem fs_new (W : World) (ps : List (Nd × Value)) (h : ∀ p ∈ ps, Fs W (Lo W.heap.size) p.2 p.1.c) (hn : ps.length ≤ 1000) :
    Fs (W.alloc (.cells (ps.flatMap ndC).toArray 24)) (Lo (W.heap.size + 1)) (.slice (some ⟨W.heap.size, 0, none⟩) ps.length ps.length) (ofL (ps.map (·.1))) := by
  have hb := bel1 W (.cells (ps.flatMap ndC).toArray 24)
  refine fs_row W.heap.size (by show _ < _; omega) ps 0 ps.length ps.length rfl (Nat.le_refl _) (by omega) (fun j u hu => ?_) (fun p hp => ?_) _ (.inr rfl)
  · rw [Nat.zero_add]; exact new_cells W _ _ j u hu
  · exact ((h p hp).later hb).up (by simp)
/-- The table of powers of ten stands as the program lays it. -/
def Pow (w : World) : Prop := Lib.TabIs Tryd.prog w "internal/strconv.uint64pow10" .u64 Lib.pow10Tab
theorem Pow.on {w w' : World} (h : Pow w) (hb : Below w.heap.size w w') : Pow w' := (Lib.tabBelow_of_tabIs h) w' hb
/-- A kind is an int of the machine's. -/
def InK (k : Int) : Prop := -9223372036854775808 ≤ k ∧ k ≤ 9223372036854775807
def Kinds : F → Prop
  | .nil => True
  | .cons k x y c r => InK k ∧ Kinds c ∧ Kinds r
/-- What is asked of the program's Of, Marks and Tree. -/
def OfSpec : Prop := ∀ (k : Int) (x y : ByteArray) (A : Option Addr) (n C : Nat) (c : F) (w : World), Fs w (Lo w.heap.size) (.slice A n C) c → c.size ≤ 1000 →
  Calls Tryd.prog 10 #[.agg #[.int .i64 k, .string x, .string y, .slice A n C]] w fun e w' => Below w.heap.size w w' ∧ ∃ v, e = .returned v ∧ PlanRd w' (In w.heap.size w'.heap.size) (one k x y c) v
def MarksSpec : Prop := ∀ (A : Option Addr) (n C : Nat) (l : F) (w : World), Pow w → Fs w (Lo w.heap.size) (.slice A n C) l → l.size ≤ 1000 → Small l → Kinds l →
  Calls Tryd.prog 15 #[.slice A n C] w fun e w' => Below w.heap.size w w' ∧ ∃ v, e = .returned v ∧ RowsAt w' (In w.heap.size w'.heap.size) v (marksI l)
def TreeSpec : Prop := ∀ (k : Int) (x y : ByteArray) (c : F) (v : Value) (w : World), PlanRd w (Lo w.heap.size) (one k x y c) v → c.size ≤ 1000 →
  Calls Tryd.prog 14 #[v] w fun e w' => Below w.heap.size w w' ∧ ∃ A n C, e = .returned (.agg #[.int .i64 k, .string x, .string y, .slice A n C]) ∧ Fs w' (In w.heap.size w'.heap.size) (.slice A n C) c

def TreeNone : Prop := ∀ (w : World), Calls Tryd.prog 14 #[.agg #[.slice none 0 0, .slice none 0 0, .slice none 0 0, .slice none 0 0]] w fun e w' => Below w.heap.size w w' ∧ e = .returned (.agg #[.int .i64 0, .string ⟨#[]⟩, .string ⟨#[]⟩, .slice none 0 0])

/-- The document's plan, read. -/
theorem rows_of {w : World} {B : Nat} {R : List Thing} {e : TypeId} {v : Value} {us : List Value} {K : List (List Nat)} {i m : Nat} (h : Fam w B R) (hi : R[i]? = some (rowT e 1 v us.length us)) (hu : us.length = K.length)
    (hk : ∀ (j : Nat) (u : Value) (l : List Nat), us[j]? = some u → K[j]? = some l → ∃ q : Nat, R[q]? = some (rowT 3 1 u l.length (l.map nv))) : RowsAt w (In B w.heap.size) v (K.map ints) := by
  refine ⟨us, by rw [List.length_map, hu], h.slAt hi, fun j u l hj hl => ?_⟩
  rw [List.getElem?_map] at hl
  cases hK : K[j]? with
  | none => rw [hK] at hl; cases hl
  | some m =>
    rw [hK] at hl
    injection hl with hl
    subst hl
    obtain ⟨q, hq⟩ := hk j u m hj hK
    have := h.slAt hq
    rwa [show (ints m).map (Value.int .i64) = m.map nv by unfold ints; rw [List.map_map]; rfl]
theorem marks_rd {w w' : World} {K : List (List Nat)} {e : Ending} (h : MarksPost w K e w') : Below w.heap.size w w' ∧ ∃ v, e = .returned v ∧ RowsAt w' (In w.heap.size w'.heap.size) v (K.map ints) := by
  obtain ⟨hb, vO, us, he, hf, hl⟩ := h
  exact ⟨hb, vO, he, rows_of (m := 0) hf (i := 0) rfl hl fun j u l hj hk => ⟨j + 1, inn_at hj hk⟩⟩
/-- The blocks below B0, and those from s to t. -/
def Sx (B0 s t : Nat) : Nat → Prop := fun b => b < B0 ∨ (s ≤ b ∧ b < t)
theorem own_up {w : World} {base : Nat} {e : TypeId} {size n : Nat} {v : Value} {xs : List Value} (h : w.ownsRow 0 e size v n xs) (hb : ∀ k, v.ownBlock = some k → base ≤ k) : w.ownsRow base e size v n xs := by
  refine ⟨h.1, ?_⟩
  rcases h.2 with h' | ⟨g, cap, cur, a, b, r⟩
  · exact .inl h'
  · exact .inr ⟨g, cap, cur, a, hb g (by rw [a]; rfl), r⟩
theorem plan_rd {B0 : Nat} {w w' : World} {T : F} {e : Ending} (h : OfPost B0 w T e w') : Below w.heap.size w w' ∧ ∃ v, e = .returned v ∧ PlanRd w' (Sx B0 w.heap.size w'.heap.size) T v := by
  obtain ⟨hb, vN, vP, vS, vK, us, nps, he, hf, hn, hk, hl⟩ := h
  have hI : ∀ b, In w.heap.size w'.heap.size b → Sx B0 w.heap.size w'.heap.size b := fun b h => .inr h
  refine ⟨hb, _, he, vN, vP, vS, vK, rfl, ?_, (hf.slAt (i := 1) rfl).more hI, (hf.slAt (i := 2) rfl).more hI, (rows_of (m := 0) hf (i := 3) rfl (by rw [hl, kidF_len]) fun j u l hj hk => ⟨j + 4, inn_at hj hk⟩).more hI⟩
  have ho : w'.ownsRow 0 24 4 vN nps.length (nps.flatMap ndC) := hf.get (i := 0) rfl
  have ho2 : w'.ownsRow w.heap.size 24 4 vN nps.length (nps.flatMap ndC) := own_up ho fun k hk => hf.ge _ (List.mem_of_getElem? (show (planR vN vP vS vK nps (parF (-1) 0 T) (sizF T) us us (kidF 0 T))[0]? = some _ from rfl)) k hk
  rw [← hn]
  have hlen : nps.length = (nps.map (·.1)).length := by simp
  exact own_fsS (B := B0) (base := w.heap.size) ⟨nps, rfl, by rw [← hlen]; exact ho2, fun p hp => (hk p hp)⟩ (fun b hb => .inl hb) (fun g h1 h2 => .inr ⟨h1, h2⟩)
/-- A box that has just been laid. -/
theorem box_cl' (w : World) (k : Int) (x y : ByteArray) (s : Value) : ∀ W, Below (w.alloc (.cells #[.int .i64 k, .string x, .string y, s] 24)).heap.size (w.alloc (.cells #[.int .i64 k, .string x, .string y, s] 24)) W →
    W.cell? ⟨w.heap.size, 0, none⟩ = some (.int .i64 k) ∧ W.cell? ⟨w.heap.size, 1, none⟩ = some (.string x) ∧ W.cell? ⟨w.heap.size, 2, none⟩ = some (.string y) ∧ W.cell? ⟨w.heap.size, 3, none⟩ = some s := fun W hW => by
  have h : W.heap[w.heap.size]? = _ := (hW.block w.heap.size (by simp)).trans (heap_alloc_new w _)
  refine ⟨?_, ?_, ?_, ?_⟩ <;> simp [World.cell?, h]
/-- Few nodes, short texts. -/
def fewS (k : Int) (x y : ByteArray) (c : F) (m : Nat) : Bool := fewB k x y c && decide (c.size + 1 ≤ m)
set_option maxRecDepth 100000 in
set_option maxHeartbeats 4000000 in
theorem few10_any (k : Int) (x y : ByteArray) (A : Option Addr) (n C : Nat) (c : F) (m : Nat) (w : World) (hf : Fs w (Lo w.heap.size) (.slice A n C) c) (hm : m ≤ 10000) :
    Calls Tryd.prog 8 #[.agg #[.int .i64 k, .string x, .string y, .slice A n C], .int .i64 (m : Int)] w fun e w' => e = .returned (.bool (fewS k x y c m)) ∧ Below w.heap.size w w' := by
  have b1 := below1 w (.cells #[.int .i64 k, .string x, .string y, .slice A n C] 24)
  have HF := Lib.hid (few_any k x y A n C c _ (hf.later b1))
  have HB1 := Lib.hid b1
  have hq := box_cl' w k x y (.slice A n C)
  have HS : Hid (∀ W, Below (w.alloc (.cells #[.int .i64 k, .string x, .string y, .slice A n C] 24)).heap.size (w.alloc (.cells #[.int .i64 k, .string x, .string y, .slice A n C] 24)) W → Calls Tryd.prog 20 #[.agg #[.int .i64 k, .string x, .string y, .slice A n C], .int .i64 ((m : Int) + 1)] W fun e w' => e = .returned (.int .i64 ((min (c.size + 1) (m + 1) : Nat) : Int)) ∧ Below W.heap.size W w') := fun W hW => by
    have := refSize_any k x y A n C c (m + 1) W ((hf.later b1).later hW) (by omega) (by omega)
    rwa [Int.natCast_add] at this
  have HV : Hid (fewS k x y c m = (fewB k x y c && decide (min (c.size + 1) (m + 1) ≤ m))) := by
    show _ = _
    unfold fewS
    congr 1
    rw [decide_eq_decide]
    omega
  obtain ⟨q0, q1, q2, q3⟩ := hq _ (Below.refl _ _)
  have HQ := Lib.hid hq
  generalize fewB k x y c = fb at *
  generalize min (c.size + 1) (m + 1) = sz at *
  clear hf b1 hq
  go_enter Tryd.func8, Tryd.ntmps8
  go_wp2_with fail
  refine HF.out.mono ?_
  rintro e w1 ⟨rfl, hb⟩
  have HB2 := Lib.hid (HB1.out.trans (hb.mono HB1.out.size))
  have HS1 := Lib.hid (HS.out w1 hb)
  obtain ⟨p0, p1, p2, p3⟩ := HQ.out w1 hb
  clear hb q0 q1 q2 q3 HF HS HQ
  cases fb with
  | false =>
    go_wp2
    go_ret
    exact ⟨by rw [HV.out]; rfl, HB2.out⟩
  | true =>
    go_wp2_with fail
    refine HS1.out.mono ?_
    rintro e w2 ⟨rfl, hb⟩
    have HB3 := Lib.hid (HB2.out.trans (hb.mono HB2.out.size))
    clear hb p0 p1 p2 p3 HS1
    go_wp2
    go_ret
    exact ⟨by rw [HV.out]; rfl, HB3.out⟩
end Go.Proofs.YtmknghhgcecafaaDoor.Shape
