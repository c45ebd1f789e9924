/-
  Layer 1 (utf): words for bytes in memory, and what the small functions (begin, length, more, Bytes, the document's own Bytes) answer at every input.
-/
import Derived.Test.YtoecimgmghlfpaaDoorChecked
import Derived.Test.YtoecimgmghlfpaaDoorUtfMath
import Derived.WalkKit
import Derived.ProofKit
import Derived.OpenShut
import Derived.Below
import Derived.Lib.Hide
import Derived.Laws.BytesArg
namespace Go.Proofs.YtoecimgmghlfpaaDoor.Utf
open Go.ChangeShapes Go.WideShapes Go.ChangeAt Go.RowKit
set_option linter.unusedVariables false

/-- The slice at A, of as many bytes as xs has, reads as xs; it lies below block B. -/
def RB (w : World) (B : Nat) (A : Option Addr) (xs : List Int) : Prop :=
  Byt xs ∧ (xs = [] ∨ ∃ b off, A = some ⟨b, off, none⟩ ∧ b < B ∧ ∀ i, i < xs.length → w.cell? ⟨b, off + i, none⟩ = some (.int .u8 (xs.getD i 0)))

section
variable {w w' : World} {B B' : Nat} {A : Option Addr} {xs : List Int}
theorem RB.byt (h : RB w B A xs) : Byt xs := h.1
theorem RB.keep (h : RB w B A xs) (hk : ∀ p : Addr, p.block < B → w'.cell? p = w.cell? p) : RB w' B A xs :=
  ⟨h.1, by
    rcases h.2 with e | ⟨b, off, e, hb, hc⟩
    · exact .inl e
    · exact .inr ⟨b, off, e, hb, fun i hi => (hk _ hb).trans (hc i hi)⟩⟩
theorem RB.more (h : RB w B A xs) (hB : B ≤ B') : RB w B' A xs :=
  ⟨h.1, by
    rcases h.2 with e | ⟨b, off, e, hb, hc⟩
    · exact .inl e
    · exact .inr ⟨b, off, e, by omega, hc⟩⟩
theorem RB.below (h : RB w B A xs) {B0 : Nat} (hb : Below B0 w w') (hB : B ≤ B0) : RB w' B A xs := h.keep fun _ hp => hb.cell (by omega)
theorem RB.nil (w : World) (B : Nat) (A : Option Addr) : RB w B A [] := ⟨Byt.nil, .inl rfl⟩
theorem RB.take (h : RB w B A xs) (n : Nat) : RB w B A (xs.take n) :=
  ⟨h.1.take n, by
    rcases h.2 with e | ⟨b, off, e, hb, hc⟩
    · exact .inl (by rw [e]; simp)
    · refine .inr ⟨b, off, e, hb, fun i hi => ?_⟩
      rw [List.length_take] at hi
      rw [hc i (by omega)]
      simp [List.getD, show i < n by omega]⟩
theorem RB.drop (h : RB w B A xs) {k cap : Nat} (hk : k ≤ xs.length) (hc : xs.length ≤ cap) :
    RB w B (if cap = k then A else A.map (·.add k)) (xs.drop k) :=
  ⟨h.1.drop k, by
    by_cases hz : xs.length = k
    · exact .inl (by rw [← hz, List.drop_length])
    · rcases h.2 with e | ⟨b, off, e, hb, hcell⟩
      · rw [e] at hz hk; simp at hz hk; omega
      · rw [if_neg (by omega)]
        refine .inr ⟨b, off + k, ?_, hb, fun i hi => ?_⟩
        · rw [e]; simp only [Option.map_some, Addr.add]; split <;> simp_all
        · rw [List.length_drop] at hi
          rw [Nat.add_assoc, hcell (k + i) (by omega)]
          simp [List.getD, List.getElem?_drop]⟩
theorem RB.cell (h : RB w B A xs) (hn : xs ≠ []) : ∃ b off, A = some ⟨b, off, none⟩ ∧ b < B ∧ ∀ i, i < xs.length → w.cell? ⟨b, off + i, none⟩ = some (.int .u8 (xs.getD i 0)) := by
  rcases h.2 with e | h'
  · exact absurd e hn
  · exact h'
end

theorem run_conv {P : Program} (w : World) (src dst e : TypeId) (hs : P.underlying src = some (.slice e)) (he : P.underlying e = some (.int .u8)) (hd : P.underlying dst = some .string)
    {B : Nat} {A : Option Addr} {xs : List Int} (h : RB w B A xs) (c : Nat) : (convert src dst (.slice A xs.length c)).run P w = .ok (.string (strOfNums xs)) w := by
  rcases h.2 with e0 | ⟨b, off, e0, _, hc⟩
  · subst e0
    rcases A with _ | a
    · exact run_convert_bytes_nil w src e hs he _ c dst hd
    · rw [run_convert_bytes_string w src dst e _ _ c hs he hd]
      rw [run_bytesToString w a _ c [] (by simp [loadCells, loadCellsFrom])]
      rfl
  · subst e0
    exact run_convert_bytes_arg w src e hs he b off _ c xs rfl hc dst hd

theorem u8_of (n : Nat) (h : n < 256) : (UInt8.ofNat n).toNat = n := by simp; omega

theorem strOfNums_inj {a b : List Int} (ha : Byt a) (hb : Byt b) (h : strOfNums a = strOfNums b) : a = b := by
  have h1 : a.map (fun n => UInt8.ofNat n.toNat) = b.map (fun n => UInt8.ofNat n.toNat) := by
    have := congrArg (fun s : ByteArray => s.data.toList) h
    simpa [strOfNums] using this
  clear h
  induction a generalizing b with
  | nil => cases b with
    | nil => rfl
    | cons y b => simp at h1
  | cons x a ih =>
    cases b with
    | nil => simp at h1
    | cons y b =>
      simp only [List.map_cons, List.cons.injEq] at h1
      have hx := ha x (by simp)
      have hy := hb y (by simp)
      have e : x.toNat = y.toNat := by
        have := congrArg UInt8.toNat h1.1
        rw [u8_of x.toNat (by omega), u8_of y.toNat (by omega)] at this
        exact this
      have exy : x = y := by omega
      rw [exy, ih (fun z hz => ha z (by simp [hz])) (fun z hz => hb z (by simp [hz])) h1.2]

/-- A sign's bytes as cells. -/
def encV (n : Int) : Array Value := ((enc n).map (Value.int .u8)).toArray
theorem encV_size (n : Int) : (encV n).size = lenI n := by simp [encV, enc_length]
theorem rb_enc (w : World) (n : Int) (T : TypeId) : RB (w.alloc (.cells (encV n) T)) (w.heap.size + 1) (some ⟨w.heap.size, 0, none⟩) (enc n) :=
  ⟨enc_byt n, .inr ⟨_, _, rfl, by omega, fun i hi => by
    rw [World.cell?_alloc_at _ _ _ _ rfl]
    simp [encV, List.getD, hi]⟩⟩

/-! ### begin, length, more, sign -/
theorem andNot_table : ∀ c : Fin 256, (192 ≤ c.val → c.val < 224 → bits .andNot .u8 (c.val : Int) 192 = (c.val : Int) - 192) ∧ (224 ≤ c.val → c.val < 240 → bits .andNot .u8 (c.val : Int) 224 = (c.val : Int) - 224) ∧
    (240 ≤ c.val → c.val < 248 → bits .andNot .u8 (c.val : Int) 240 = (c.val : Int) - 240) ∧ ((bits .andNot .u8 (c.val : Int) 63 != 128) = !cont (c.val : Int)) := by decide +kernel
theorem andNot_of (c : Int) (h0 : 0 ≤ c) (h1 : c < 256) : (192 ≤ c → c < 224 → bits .andNot .u8 c 192 = c - 192) ∧ (224 ≤ c → c < 240 → bits .andNot .u8 c 224 = c - 224) ∧
    (240 ≤ c → c < 248 → bits .andNot .u8 c 240 = c - 240) ∧ ((bits .andNot .u8 c 63 != 128) = !cont c) := by
  obtain ⟨n, rfl⟩ := Int.eq_ofNat_of_zero_le h0
  obtain ⟨a, b, d, e⟩ := andNot_table ⟨n, by omega⟩
  exact ⟨fun x y => a (by simp only; omega) (by simp only; omega), fun x y => b (by simp only; omega) (by simp only; omega), fun x y => d (by simp only; omega) (by simp only; omega), e⟩

theorem ret2 {k k' : IntKind} {a b a' b' : Int} (h : a = a') (h' : b = b') : Ending.returned (.tuple #[.int k a, .int k' b]) = .returned (.tuple #[.int k a', .int k' b']) := by rw [h, h']

set_option maxHeartbeats 400000 in
theorem begin_any (c : Int) (w : World) (h0 : 0 ≤ c) (h1 : c < 256) :
    Calls Tryd.prog 72 #[.int .u8 c] w fun e w' => e = .returned (.tuple #[.int .i64 (begN c), .int .i32 (begB c)]) ∧ w = w' := by
  obtain ⟨a1, a2, a3, _⟩ := andNot_of c h0 h1
  have hN : begN c = if c < 128 then 1 else if c < 192 then 0 else if c < 224 then 2 else if c < 240 then 3 else if c < 248 then 4 else 0 := rfl
  have hB : begB c = if c < 128 then c else if c < 192 then 0 else if c < 224 then c - 192 else if c < 240 then c - 224 else if c < 248 then c - 240 else 0 := rfl
  generalize begN c = n at *
  generalize begB c = s at *
  have HN := Lib.hid hN; clear hN
  have HB := Lib.hid hB; clear hB
  by_cases c1 : c < 128
  · rw [if_pos c1] at HN HB
    obtain rfl := HN.out; obtain rfl := HB.out; clear HN HB a1 a2 a3
    go_enter Tryd.func72, Tryd.ntmps72
    go_wp2
    go_ret2
    exact ⟨rfl, rfl⟩
  rw [if_neg c1] at HN HB
  by_cases c2 : c < 192
  · rw [if_pos c2] at HN HB
    obtain rfl := HN.out; obtain rfl := HB.out; clear HN HB a1 a2 a3
    go_enter Tryd.func72, Tryd.ntmps72
    go_wp2
    go_ret2
    exact ⟨rfl, rfl⟩
  rw [if_neg c2] at HN HB
  by_cases c3 : c < 224
  · rw [if_pos c3] at HN HB
    obtain rfl := HN.out; obtain rfl := HB.out; clear HN HB a2 a3
    have b1 := a1 (by omega) c3; clear a1
    go_enter Tryd.func72, Tryd.ntmps72
    go_wp2
    go_ret2
    exact ⟨rfl, rfl⟩
  rw [if_neg c3] at HN HB
  by_cases c4 : c < 240
  · rw [if_pos c4] at HN HB
    obtain rfl := HN.out; obtain rfl := HB.out; clear HN HB a1 a3
    have b1 := a2 (by omega) c4; clear a2
    go_enter Tryd.func72, Tryd.ntmps72
    go_wp2
    go_ret2
    exact ⟨rfl, rfl⟩
  rw [if_neg c4] at HN HB
  by_cases c5 : c < 248
  · rw [if_pos c5] at HN HB
    obtain rfl := HN.out; obtain rfl := HB.out; clear HN HB a1 a2
    have b1 := a3 (by omega) c5; clear a3
    go_enter Tryd.func72, Tryd.ntmps72
    go_wp2
    go_ret2
    exact ⟨rfl, rfl⟩
  rw [if_neg c5] at HN HB
  obtain rfl := HN.out; obtain rfl := HB.out; clear HN HB a1 a2 a3
  go_enter Tryd.func72, Tryd.ntmps72
  go_wp2
  go_ret2
  exact ⟨rfl, rfl⟩

theorem ret1 {k : IntKind} {a b : Int} (h : a = b) : Ending.returned (.int k a) = .returned (.int k b) := by rw [h]

theorem length_any (n : Int) (w : World) :
    Calls Tryd.prog 73 #[.int .i32 n] w fun e w' => e = .returned (.int .i64 (lenI n)) ∧ w = w' := by
  have hN : lenI n = if n < 0 then 0 else if n < 128 then 1 else if n < 2048 then 2 else if 55296 ≤ n ∧ n < 57344 then 0 else if n < 65536 then 3 else if n < 1114112 then 4 else 0 := rfl
  generalize lenI n = l at *
  have HN := Lib.hid hN; clear hN
  by_cases c1 : n < 0
  · rw [if_pos c1] at HN; obtain rfl := HN.out; clear HN
    go_enter Tryd.func73, Tryd.ntmps73
    go_wp2
    go_ret
    exact ⟨rfl, rfl⟩
  rw [if_neg c1] at HN
  by_cases c2 : n < 128
  · rw [if_pos c2] at HN; obtain rfl := HN.out; clear HN
    go_enter Tryd.func73, Tryd.ntmps73
    go_wp2
    go_ret
    exact ⟨rfl, rfl⟩
  rw [if_neg c2] at HN
  by_cases c3 : n < 2048
  · rw [if_pos c3] at HN; obtain rfl := HN.out; clear HN
    go_enter Tryd.func73, Tryd.ntmps73
    go_wp2
    go_ret
    exact ⟨rfl, rfl⟩
  rw [if_neg c3] at HN
  by_cases c4 : 55296 ≤ n ∧ n < 57344
  · rw [if_pos c4] at HN; obtain rfl := HN.out; clear HN
    obtain ⟨d1, d2⟩ := c4
    go_enter Tryd.func73, Tryd.ntmps73
    go_wp2
    go_ret
    exact ⟨rfl, rfl⟩
  rw [if_neg c4] at HN
  have c4' : n < 55296 ∨ 57344 ≤ n := by omega
  by_cases c5 : n < 65536
  · rw [if_pos c5] at HN; obtain rfl := HN.out; clear HN c4
    rcases c4' with c4 | c4
    all_goals
      go_enter Tryd.func73, Tryd.ntmps73
      go_wp2
      go_ret
      exact ⟨rfl, rfl⟩
  rw [if_neg c5] at HN
  clear c4 c4'
  by_cases c6 : n < 1114112
  · rw [if_pos c6] at HN; obtain rfl := HN.out; clear HN
    go_enter Tryd.func73, Tryd.ntmps73
    go_wp2
    go_ret
    exact ⟨rfl, rfl⟩
  rw [if_neg c6] at HN; obtain rfl := HN.out; clear HN
  go_enter Tryd.func73, Tryd.ntmps73
  go_wp2
  go_ret
  exact ⟨rfl, rfl⟩


theorem tup {a : Option Addr} {n n' c c' : Nat} {e : Int} (h : n = n') (h' : c = c') : Ending.returned (.tuple #[.slice a n c, .int .i64 e]) = .returned (.tuple #[.slice a n' c', .int .i64 e]) := by rw [h, h']

end Go.Proofs.YtoecimgmghlfpaaDoor.Utf
