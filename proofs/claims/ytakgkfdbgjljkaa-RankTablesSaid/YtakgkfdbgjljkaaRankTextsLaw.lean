/-
  Layer 3 (rank): the law on the order of texts: the walk.
-/
import Derived.Test.YtakgkfdbgjljkaaRankKnown
import Derived.Test.YtakgkfdbgjljkaaMemStep
import Derived.Deep.RegionHeldLaw
namespace Go.Proofs.Ytakgkfdbgjljkaa.Rank
open Go.ChangeShapes Go.WideShapes Go.ChangeAt Go.RowKit MemC
set_option linter.unusedVariables false

/-- What the law's frame tells of a slice of strings that came in. -/
def RowS (w : World) (a : Option Addr) (len cap : Nat) (zs : List ByteArray) : Prop :=
  (a = none ∧ len = 0 ∧ cap = 0 ∧ zs = []) ∨
  ∃ x, a = some x ∧ len ≤ cap ∧ cap ≤ maxLen ∧ zs.length = cap ∧ (∀ i, i < zs.length → w.cell? (x.add i) = some (.string (zs.getD i ByteArray.empty))) ∧ ∀ s ∈ zs, s.size ≤ maxLen

theorem row_rs {w : World} {a : Option Addr} {len cap : Nat} {zs : List ByteArray} (h : RowS w a len cap zs) : ∃ xs, xs.length = len ∧ len ≤ cap ∧ cap ≤ maxLen ∧ RS w w.heap.size a xs ∧ ∀ s ∈ xs, s.size ≤ maxLen := by
  rcases h with ⟨rfl, rfl, rfl, rfl⟩ | ⟨x, rfl, hl, hm, hz, hc, hw⟩
  · exact ⟨[], rfl, Nat.le_refl _, by simp [maxLen], .inl rfl, fun k hk => by cases hk⟩
  · refine ⟨zs.take len, by rw [List.length_take]; omega, hl, hm, ?_, fun y hy => hw y (List.mem_of_mem_take hy)⟩
    by_cases h0 : len = 0
    · subst h0; exact .inl rfl
    · obtain ⟨b, off, spot⟩ := x
      have hspot : spot = none := by simpa [Addr.add] using World.cell?_spot (hc 0 (by omega))
      subst hspot
      refine .inr ⟨b, off, rfl, by simpa [Addr.add] using block_lt (hc 0 (by omega)), fun i hi => ?_⟩
      rw [List.length_take] at hi
      have e : (⟨b, off, none⟩ : Addr).add i = ⟨b, off + i, none⟩ := by unfold Addr.add; split <;> simp_all
      rw [← e, hc i (by omega)]
      simp [List.getD, show i < len by omega, show i < zs.length by omega]

theorem string_info : (Try.prog.info? 9).map (fun i => (i.zero, i.size, i.bytes)) = some (some (.string ByteArray.empty), 1, 16) := by kernel_rfl

theorem own_drew {w : World} {base : Nat} {e : TypeId} {size : Nat} {v : Value} {n : Nat} {vs : List Value} (h : w.ownsRow base e size v n vs) : w.drew.ownsRow base e size v n vs := h

set_option maxRecDepth 100000 in
set_option maxHeartbeats 4000000 in
theorem rankTexts_core (A : Option Addr) (n cap : Nat) (xs : List ByteArray) (w : World) (hx : xs.length = n) (hcap : n ≤ cap) (hcap' : cap ≤ maxLen) (h : RS w w.heap.size A xs) (hsz : ∀ s ∈ xs, s.size ≤ maxLen) :
    Calls Try.prog 4 #[.slice A n cap] w (True1 w) := by
  obtain ⟨i0, hi0, hz0, hz1, hz2⟩ := info_parts string_info
  have H := Lib.hid h
  have Hn := Lib.hid hx
  have HZ := Lib.hid hsz
  unfold maxLen at hcap'
  clear h hx hsz
  go_enter Try.func4, Try.ntmps4
  go_wp2
  go_loopw [3, 4] (fun s3 s4 wr => ∃ (i : Nat) (va : Option Addr) (vc : Nat) (ts : List ByteArray), i ≤ n ∧ i ≤ 200 ∧ s4 = .int .i64 i ∧ s3 = .slice va i vc ∧ Hid (ts.length = i) ∧ Hid (∀ s ∈ ts, s.size ≤ 200) ∧ Hid (wr.ownsRow w.heap.size 9 1 (.slice va i vc) i (ts.map Value.string)) ∧ Hid (Below w.heap.size w wr)) (fun _ s4 _ => n - (intOf s4).toNat)
  case atStart => exact ⟨0, none, 0, [], Nat.zero_le _, Nat.zero_le _, rfl, rfl, rfl, (fun s hs => by cases hs), World.ownsRow_nil _ _ _ _, Below.refl _ _⟩
  case round =>
    obtain ⟨i, va, vc, ts, hin, hi2, rfl, rfl, HL, HT, HO, HB⟩ := hrel
    by_cases hlt : i < n ∧ i < 200
    · obtain ⟨h1, h2⟩ := hlt
      have h1' : (i : Int) < (n : Int) := by omega
      have h2' : (i : Int) < 200 := by omega
      obtain ⟨b, off, rfl, hbw, hc0⟩ := H.out.at_ (i := i) (by rw [Hn.out]; exact h1)
      have hs := HZ.out (xs.getD i ⟨#[]⟩) (by have h3 := Hn.out; simp only [List.getD, List.getElem?_eq_getElem (show i < xs.length by omega), Option.getD_some]; exact List.getElem_mem _)
      generalize xs.getD i ⟨#[]⟩ = s at *
      unfold maxLen at hs
      have HCW : Hid (∀ W, Below w.heap.size w W → W.cell? ⟨b, off + i, none⟩ = some (.string s)) := fun W hW => (hW.cell hbw).trans hc0
      have hc := HCW.out _ HB.out
      by_cases hq : (200 : Int) < (s.size : Int)
      · have hq2 : (200 : Int) ≤ (s.size : Int) := by omega
        have hq3 : 200 ≤ s.size := by omega
        go_wp2
        go_region_held3 (fun W => W.cell? ⟨b, off + i, none⟩ = some (.string s) ∧ Below w.heap.size w W) (refine ⟨?_, ?_⟩ <;> first | assumption | exact HB.out.drew | exact HCW.out _ HB.out.drew | exact (HB.out.alloc HB.out.size _).drew | exact HCW.out _ (HB.out.alloc HB.out.size _).drew) (first | (refine step_app_b rfl (.tmp 15) (.tmp 27) rfl Try.underlying27 hi0 hz0 hz1 hz2 rfl w.heap.size _ i _ rfl (own_drew (HO.out.alloc _)) Value.string ⟨#[]⟩ (fun _ => rfl) _ (some ⟨wr.heap.size, 0, none⟩) 1 1 [s.extract 0 200] rfl ((rc_new (f := Value.string) wr [s.extract 0 200] 9).keep (fun _ _ => rfl)) rfl (by unfold maxLen; omega) (by omega) (HB.out.alloc HB.out.size _).size ?_; intro v2 w2 hown2 hbel2 _; have hk2 : Below w.heap.size w w2 := hbel2 w (HB.out.alloc HB.out.size _).drew; have hk1 : w2.cell? ⟨b, off + i, none⟩ = some (.string s) := HCW.out _ hk2; obtain ⟨a2, p2, rfl, _, _⟩ := own_slice hown2; clear hbel2))
        have HO2 : Hid (w2.ownsRow w.heap.size 9 1 (.slice a2 (i + 1) p2) (i + 1) ((ts ++ [s.extract 0 200]).map Value.string)) := by show World.ownsRow _ _ _ _ _ _ _; rw [List.map_append]; exact hown2
        have HB2 := Lib.hid hk2
        have HT2 : Hid (∀ y ∈ ts ++ [s.extract 0 200], y.size ≤ 200) := by
          intro y hy
          rcases List.mem_append.1 hy with hy | hy
          · exact HT.out y hy
          · have : y = s.extract 0 200 := by simpa using hy
            rw [this]; rw [ByteArray.size_extract]; omega
        clear hk1 hk2 hown2
        go_wp2
        go_roundw
        case rel => exact ⟨i + 1, a2, p2, ts ++ [s.extract 0 200], by omega, by omega, by go_num, rfl, (by have := HL.out; show _ = _; rw [List.length_append, this]; rfl), HT2.out, HO2.out, HB2.out⟩
        case measure => simp [intOf]; omega
      · have hsl : ∀ W : World, (Instr.slice 9 (.string s) none (some (.int .i64 (s.size : Int))) none).run Try.prog W = .ok (.string s) W := by
          intro W
          go_simp
        have hq4 : (s.size : Int) ≤ (s.size : Int) := Int.le_refl _
        go_wp2
        go_region_held_law (fun W => W.cell? ⟨b, off + i, none⟩ = some (.string s) ∧ Below w.heap.size w W) (refine ⟨?_, ?_⟩ <;> first | assumption | exact HB.out.drew | exact HCW.out _ HB.out.drew | exact (HB.out.alloc HB.out.size _).drew | exact HCW.out _ (HB.out.alloc HB.out.size _).drew) (first | (refine step_app_b rfl (.tmp 15) (.tmp 27) rfl Try.underlying27 hi0 hz0 hz1 hz2 rfl w.heap.size _ i _ rfl (own_drew (HO.out.alloc _)) Value.string ⟨#[]⟩ (fun _ => rfl) _ (some ⟨wr.heap.size, 0, none⟩) 1 1 [s] rfl ((rc_new (f := Value.string) wr [s] 9).keep (fun _ _ => rfl)) rfl (by unfold maxLen; omega) (by omega) (HB.out.alloc HB.out.size _).size ?_; intro v2 w2 hown2 hbel2 _; have hk2 : Below w.heap.size w w2 := hbel2 w (HB.out.alloc HB.out.size _).drew; have hk1 : w2.cell? ⟨b, off + i, none⟩ = some (.string s) := HCW.out _ hk2; obtain ⟨a2, p2, rfl, _, _⟩ := own_slice hown2; clear hbel2))
        have HO2 : Hid (w2.ownsRow w.heap.size 9 1 (.slice a2 (i + 1) p2) (i + 1) ((ts ++ [s]).map Value.string)) := by show World.ownsRow _ _ _ _ _ _ _; rw [List.map_append]; exact hown2
        have HB2 := Lib.hid hk2
        have HT2 : Hid (∀ y ∈ ts ++ [s], y.size ≤ 200) := by
          intro y hy
          rcases List.mem_append.1 hy with hy | hy
          · exact HT.out y hy
          · have : y = s := by simpa using hy
            rw [this]; omega
        clear hk1 hk2 hown2
        go_wp2
        go_roundw
        case rel => exact ⟨i + 1, a2, p2, ts ++ [s], by omega, by omega, by go_num, rfl, (by have := HL.out; show _ = _; rw [List.length_append, this]; rfl), HT2.out, HO2.out, HB2.out⟩
        case measure => simp [intOf]; omega
    · have hown := HO.out
      have RM := Lib.hid (own_rc (d := ⟨#[]⟩) hown)
      have hT9 : Hid (∀ s ∈ ts, s.size ≤ 1000000000) := fun s hs => by have := HT.out s hs; omega
      have hcases : ¬ (i : Int) < (n : Int) ∨ ((i : Int) < (n : Int) ∧ ¬ (i : Int) < 200) := by omega
      clear hown HO hlt
      rcases hcases with hge | ⟨hge1, hge⟩
      all_goals
        go_wp2_with fail
        refine (known_any wr).mono ?_
        rintro e w6 ⟨rfl, hb6⟩
        have B6 := Lib.hid (below_next HB.out hb6)
        have R6 := Lib.hid ((RM.out.below hb6 (Nat.le_refl _)).more hb6.size)
        clear hb6
        go_wp2_with fail
        refine (texts_any va i vc ts w6 R6.out HL.out (by omega)).mono ?_
        rintro e w7 ⟨v7, rfl, hb7, ho7⟩
        obtain ⟨a7, c7, rfl, _, _⟩ := own_slice ho7
        have Q7 := Lib.hid (by_reads rfl ho7)
        have B7 := Lib.hid (below_next B6.out hb7)
        have R7 := Lib.hid ((R6.out.below hb7 (Nat.le_refl _)).more hb7.size)
        clear hb7 ho7
        go_wp2_with fail
        refine (refS_any va i vc ts w7 R7.out HL.out (by omega) hT9.out).mono ?_
        rintro e w8 ⟨v8, rfl, hb8, ho8⟩
        obtain ⟨a8, c8, rfl, _, _⟩ := own_slice ho8
        have Q8 := Lib.hid (by_reads rfl ho8)
        have B8 := Lib.hid (below_next B7.out hb8)
        have P8 := Lib.hid (Q7.out.below hb8 (Nat.le_refl _))
        clear hb8 ho8
        go_wp2_with fail
        refine (same_b _ _ i _ _ _ w8 _ _ P8.out Q8.out (by rw [ints_len]; exact ordN_len (ltS_wo ts) i) (by omega)).mono ?_
        rintro e w9 ⟨rfl, hb9⟩
        have B9 := Lib.hid (below_next B8.out hb9)
        clear hb9
        go_wp2_with fail
        go_ret
        exact ⟨rfl, B9.out⟩

theorem rankTexts_walk (A : Option Addr) (n cap : Nat) (zs : List ByteArray) (w : World) (hrow : RowS w A n cap zs) :
    Calls Try.prog 4 #[.slice A n cap] w fun e w' => e = .returned (.bool true) ∧ Below w.heap.size w w' := by
  obtain ⟨xs, hx, hcap, hcap', h, hz⟩ := row_rs hrow
  exact rankTexts_core A n cap xs w hx hcap hcap' h hz
end Go.Proofs.Ytakgkfdbgjljkaa.Rank
