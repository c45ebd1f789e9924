/-
  Layer 1 (utf): a list of numbers as a text: those that are signs, and their bytes (the laws' own helper 'texts').
-/
import Derived.Test.YtojggmncafjflaaUtfMem
namespace Go.Proofs.Ytojggmncafjflaa.Utf
open Go.ChangeShapes Go.WideShapes Go.ChangeAt Go.RowKit
set_option linter.unusedVariables false

/-- The numbers that are signs. -/
def sel (l : List Int) : List Int := l.filter fun k => decide (lenI k ≠ 0)
theorem sel_snoc (l : List Int) (k : Int) : sel (l ++ [k]) = if lenI k ≠ 0 then sel l ++ [k] else sel l := by
  unfold sel; rw [List.filter_append]; by_cases h : lenI k = 0 <;> simp [h]
theorem sel_sgs (l : List Int) : Sgs (sel l) := fun k hk => by simpa [sel] using (List.mem_filter.1 hk).2
theorem sel_len (l : List Int) : (sel l).length ≤ l.length := List.length_filter_le _ _
theorem encs_len : ∀ l, (encs l).length ≤ 4 * l.length
  | [] => Nat.le_refl _
  | k :: r => by
    have := encs_len r
    have := lenI_le k
    simp only [encs, List.length_append, List.length_cons, enc_length]; omega

/-- Integers that came in. -/
def IntsIn (l : List Int) : Prop := ∀ k ∈ l, -9223372036854775808 ≤ k ∧ k ≤ 9223372036854775807
theorem IntsIn.take {l : List Int} (h : IntsIn l) (n : Nat) : IntsIn (l.take n) := fun k hk => h k (List.mem_of_mem_take hk)
theorem IntsIn.getD {l : List Int} (h : IntsIn l) (i : Nat) : -9223372036854775808 ≤ l.getD i 0 ∧ l.getD i 0 ≤ 9223372036854775807 := by
  by_cases hi : i < l.length
  · have e : l.getD i 0 = l[i] := by simp [List.getD, hi]
    rw [e]; exact h _ (List.getElem_mem hi)
  · have e : l.getD i 0 = 0 := by simp [List.getD, List.getElem?_eq_none (show l.length ≤ i by omega)]
    rw [e]; omega

theorem row_ri {w : World} {a : Option Addr} {len cap : Nat} {zs : List Int} (h : Row .i64 w a len cap zs) : ∃ xs, xs.length = len ∧ len ≤ cap ∧ cap ≤ maxLen ∧ RI w w.heap.size a xs ∧ IntsIn xs := by
  rcases h with ⟨rfl, rfl, rfl, rfl⟩ | ⟨x, rfl, hl, hm, hz, hc, hw⟩
  · exact ⟨[], rfl, Nat.le_refl _, by simp [maxLen], .inl rfl, fun k hk => by cases hk⟩
  · refine ⟨zs.take len, by rw [List.length_take]; omega, hl, hm, ?_, fun y hy => bounds_i64 (hw y (List.mem_of_mem_take hy))⟩
    by_cases h0 : len = 0
    · subst h0; exact .inl rfl
    · obtain ⟨b, off, spot⟩ := x
      have hspot : spot = none := by simpa [Addr.add] using World.cell?_spot (hc 0 (by omega))
      subst hspot
      refine .inr ⟨b, off, rfl, by simpa [Addr.add] using block_lt (hc 0 (by omega)), fun i hi => ?_⟩
      rw [List.length_take] at hi
      have e : (⟨b, off, none⟩ : Addr).add i = ⟨b, off + i, none⟩ := by unfold Addr.add; split <;> simp_all
      rw [← e, hc i (by omega)]
      simp [List.getD, show i < len by omega]

/-- The two rows that the loop fills: the signs ks, and their bytes. -/
def Both (base : Nat) (ks : List Int) (vb vs : Value) (w : World) : Prop :=
  w.ownsRow base 5 1 vb (encs ks).length ((encs ks).map (Value.int .u8)) ∧ w.ownsRow base 3 1 vs ks.length (ks.map (Value.int .i64))

/-- What 'texts' leaves. -/
def TextsPost (ks : List Int) (w : World) (e : Ending) (w' : World) : Prop :=
  Below w.heap.size w w' ∧ ∃ vb vs, e = .returned (.tuple #[vb, vs]) ∧ Both w.heap.size ks vb vs w'

theorem both_nil (w : World) (base : Nat) : Both base [] (.slice none 0 0) (.slice none 0 0) w := ⟨World.ownsRow_nil _ _ _ _, World.ownsRow_nil _ _ _ _⟩

theorem own_kept {w w' : World} {base n : Nat} {e : TypeId} {size : Nat} {v : Value} {vs : List Value} {row : Option Nat} (h : w.ownsRow base e size v n vs) (hg : w.grownBy w' row) (hne : v.ownBlock = none ∨ v.ownBlock ≠ row) : w'.ownsRow base e size v n vs := h.kept hg hne

/-- One sign more: its bytes, then itself. -/
theorem both_step {base L : Nat} {ks : List Int} {k : Int} {vb vs vb1 : Value} {w w1 : World} (hL : (enc k).length = L) (h : Both base ks vb vs w) (h1 : w1.ownsRow base 5 1 vb1 ((encs ks).length + L) ((encs ks).map (Value.int .u8) ++ (enc k).map (Value.int .u8)))
    (hg : w.grownBy w1 vb.ownBlock) : w1.ownsRow base 5 1 vb1 (encs (ks ++ [k])).length ((encs (ks ++ [k])).map (Value.int .u8)) ∧ w1.ownsRow base 3 1 vs ks.length (ks.map (Value.int .i64)) := by
  refine ⟨?_, h.2.kept hg ?_⟩
  · rw [encs_snoc, List.map_append, List.length_append, hL]; exact h1
  · rcases own_apart h.2 h.1 (by decide) with h' | h'
    · exact .inl h'
    · exact .inr h'

theorem both_done {base n1 n2 : Nat} {vb vs : Value} {l1 l2 : List Value} {w1 w2 : World} (h1 : w1.ownsRow base 5 1 vb n1 l1) (h2 : w1.ownsRow base 3 1 vs n2 l2)
    (hd : Below w1.heap.size w1 w2 ∨ (∃ b, vs.ownBlock = some b ∧ w1.grownBy w2 (some b))) : w2.ownsRow base 5 1 vb n1 l1 := by
  rcases hd with hd | ⟨b, hb, hg⟩
  · exact own_below h1 hd (Nat.le_refl _)
  · refine h1.kept hg ?_
    rw [← hb]
    exact own_apart h1 h2 (by decide)

set_option maxHeartbeats 4000000 in
set_option maxRecDepth 100000 in
theorem texts_any (A : Option Addr) (n cap : Nat) (xs : List Int) (w : World) (B : Nat) (h : RI w B A xs) (hi : IntsIn xs) (hn : xs.length = n) (hB : B ≤ w.heap.size) (hcap : n ≤ cap) (hcap' : cap ≤ maxLen) :
    Calls Try.prog 20 #[.slice A n cap] w (TextsPost (sel (xs.take 5000)) w) := by
  have Hn := Lib.hid hn; clear hn
  have H := Lib.hid h; have HI := Lib.hid hi; clear h hi
  unfold maxLen at hcap'
  go_enter Try.func20, Try.ntmps20
  go_wp2
  go_loopw [4, 5, 6, 7, 8] (fun vb vs i _ _ wr => ∃ (k : Nat), k ≤ n ∧ k ≤ 5000 ∧ i = .int .i64 k ∧ Both w.heap.size (sel (xs.take k)) vb vs wr ∧ Below w.heap.size w wr) (fun _ _ i _ _ _ => n - (intOf i).toNat)
  case atStart => exact ⟨0, Nat.zero_le _, Nat.zero_le _, rfl, both_nil _ _, Below.refl _ _⟩
  case round =>
    obtain ⟨k, hk, hk5, rfl, hboth, hbel⟩ := hrel
    by_cases hlt : k < n ∧ k < 5000
    · obtain ⟨h1, h2⟩ := hlt
      obtain ⟨b, off, rfl, hbB, hc⟩ := (H.out.below hbel hB).at_ (i := k) (by rw [Hn.out]; exact h1)
      have hz := HI.out.getD k
      have htk : xs.take (k + 1) = xs.take k ++ [xs.getD k 0] := by
        have hkl : k < xs.length := by rw [Hn.out]; exact h1
        rw [List.take_succ_eq_append_getElem hkl]; simp [List.getD, hkl]
      have hsel := sel_snoc (xs.take k) (xs.getD k 0)
      rw [← htk] at hsel
      have hsl : (sel (xs.take k)).length ≤ 5000 := by
        have := sel_len (xs.take k)
        rw [List.length_take] at this; omega
      have hel : (encs (sel (xs.take k))).length ≤ 20000 := by have := encs_len (sel (xs.take k)); omega
      generalize xs.getD k 0 = z at *
      generalize sel (xs.take k) = ks at *
      have Hsel := Lib.hid hsel; clear hsel htk
      have h1' : (k : Int) < (n : Int) := by omega
      have h2' : (k : Int) < 5000 := by omega
      obtain ⟨hz0, hz1⟩ := hz
      by_cases hl0 : lenI z = 0
      · have hno := Lib.hid (bytes_no z wr hz0 hz1 hl0)
        rw [if_neg (by simp [hl0])] at Hsel
        clear hl0
        go_wp2_with (go_at_call 13; refine hno.out.mono ?_; rintro e w1 ⟨rfl, rfl⟩)
        go_roundw
        case rel => exact ⟨k + 1, by omega, by omega, by go_num, by rw [Hsel.out]; exact hboth, hbel⟩
        case measure => simp [intOf]; omega
      · have hyes := Lib.hid (bytes_yes z wr hl0)
        rw [if_pos hl0] at Hsel
        have r1 := Lib.hid (rb_enc wr z 5)
        have hln := Lib.hid (enc_length z)
        have hle := lenI_le z
        have hb2 : Both w.heap.size ks _ _ (wr.alloc (.cells (encV z) 5)) := ⟨hboth.1.alloc _, hboth.2.alloc _⟩
        have HB := Lib.hid hboth
        have hbelA : Below w.heap.size w (wr.alloc (.cells (encV z) 5)) := hbel.alloc hbel.size _
        have hcA : (wr.alloc (.cells (encV z) 5)).cell? ⟨b, off + k, none⟩ = some (.int .i64 z) := (World.cell?_alloc_lt _ _ _ (by have := hbel.size; show b < _; omega)).trans hc
        clear hboth hl0
        generalize lenI z = L at *
        go_wp2_with (first
          | (go_at_call 13; refine hyes.out.mono ?_; rintro e w1 ⟨rfl, rfl⟩)
          | (at_builtin; refine app_rb _ rfl (.tmp 29) (.tmp 30) rfl w.heap.size _ _ _ rfl hb2.1 _ _ _ _ (enc z) rfl r1.out hln.out (by omega) hbelA.size ?_; intro v1 w1 hown1 hg1 hat1; have hb1 : Below w.heap.size w w1 := hbelA.grown hg1 hbelA.size (fun q hq => (hb2.1.lt q hq).1); have hc1 : w1.cell? ⟨b, off + k, none⟩ = some (.int .i64 z) := (hb1.cell (by show b < _; omega)).trans ((hbelA.cell (p := ⟨b, off + k, none⟩) (by show b < _; omega)).symm.trans hcA); obtain ⟨ho1, ho2⟩ := both_step hln.out hb2 hown1 hg1; clear hcA hc hown1 hg1 hat1 hb2 hbelA hbel)
          | (at_builtin; refine app_int w1 rfl (.tmp 32) (.tmp 37) rfl w.heap.size _ ks z rfl ho2 _ rfl rfl (by omega) hb1.size ?_; intro v2 w2 hown2 hd2 hB2 hat2; have hb3 : Below w.heap.size w w2 := hb1.trans (hB2 _ (fun q hq => (ho2.lt q hq).1) hb1.size); have ho3 := both_done ho1 ho2 hd2; clear hd2 hB2 hat2))
        go_roundw
        case rel => exact ⟨k + 1, by omega, by omega, by go_num, by rw [Hsel.out]; exact ⟨ho3, hown2⟩, hb3⟩
        case measure => simp [intOf]; omega
    · have hend : xs.take k = xs.take 5000 := by
        by_cases h5 : k = 5000
        · rw [h5]
        · have : k = n := by omega
          rw [this, ← Hn.out, List.take_length, List.take_of_length_le (by rw [Hn.out]; omega)]
      rw [hend] at hboth
      have HP : Hid (∀ vb vs, Both w.heap.size (sel (xs.take 5000)) vb vs wr → TextsPost (sel (xs.take 5000)) w (.returned (.tuple #[vb, vs])) wr) := fun vb vs h => ⟨hbel, vb, vs, rfl, h⟩
      have HQ := Lib.hid (HP.out _ _ hboth)
      obtain ⟨a1, c1, rfl, _, _⟩ := own_slice hboth.1
      obtain ⟨a2, c2, rfl, _, _⟩ := own_slice hboth.2
      clear hboth HP hend hbel
      generalize sel (xs.take 5000) = ks at *
      generalize (encs ks).length = nb at *
      by_cases h1 : k < n
      · have h1' : (k : Int) < (n : Int) := by omega
        have h2' : ¬ (k : Int) < 5000 := by omega
        clear hlt
        go_wp2
        go_ret2
        exact HQ.out
      · have h1' : ¬ (k : Int) < (n : Int) := by omega
        clear hlt
        go_wp2
        go_ret2
        exact HQ.out
end Go.Proofs.Ytojggmncafjflaa.Utf
