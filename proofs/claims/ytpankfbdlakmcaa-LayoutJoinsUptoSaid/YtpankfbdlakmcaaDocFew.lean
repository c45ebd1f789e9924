/-
  Layer 7 (doc): Few.
-/
import Derived.Test.YtpankfbdlakmcaaDocPieces
import Derived.Test.YtpankfbdlakmcaaDocSize
namespace Go.Proofs.Ytpankfbdlakmcaa.Doc
open Go.ChangeShapes Go.WideShapes Go.ChangeAt Go.RowKit Mem
set_option linter.unusedVariables false

/-- Pieces as they are read: in block g, from off on. -/
def RdP (w : World) (a : Option Addr) (l : List Pc) : Prop := l = [] ∨ ∃ g off, a = some ⟨g, off, none⟩ ∧ g < w.heap.size ∧ ∀ i p, l[i]? = some p → w.cell? ⟨g, off + i * 2, none⟩ = some (.int .i64 p.1) ∧ w.cell? ⟨g, off + i * 2 + 1, none⟩ = some (.string p.2)
theorem RdP.of_own {w : World} {base C : Nat} {E : TypeId} {a : Option Addr} {l : List Pc} (h : w.ownsRow base E 2 (.slice a l.length C) l.length (l.flatMap pcC)) : RdP w a l := by
  rcases MemT.own_rt pcC_len h rfl with h | ⟨g, e, hg, hc⟩
  · exact .inl h
  · exact .inr ⟨g, 0, e, hg, fun i p hp => by rw [Nat.zero_add]; exact ⟨hc i p hp 0 _ rfl, hc i p hp 1 _ rfl⟩⟩
theorem RdP.below {w w' : World} {a : Option Addr} {l : List Pc} (h : RdP w a l) (hb : Below w.heap.size w w') : RdP w' a l := by
  rcases h with h | ⟨g, off, e, hg, hc⟩
  · exact .inl h
  · exact .inr ⟨g, off, e, Nat.lt_of_lt_of_le hg hb.size, fun i p hp => ⟨(hb.cell (p := ⟨g, off + i * 2, none⟩) hg).trans (hc i p hp).1, (hb.cell (p := ⟨g, off + i * 2 + 1, none⟩) hg).trans (hc i p hp).2⟩⟩
theorem RdP.at_ {w : World} {a : Option Addr} {l : List Pc} (h : RdP w a l) {i : Nat} (hi : i < l.length) : ∃ g off p, a = some ⟨g, off, none⟩ ∧ l[i]? = some p ∧ w.cell? ⟨g, off + i * 2, none⟩ = some (.int .i64 p.1) ∧ w.cell? ⟨g, off + i * 2 + 1, none⟩ = some (.string p.2) := by
  rcases h with h | ⟨g, off, e, hg, hc⟩
  · subst h; simp at hi
  · exact ⟨g, off, l[i], e, List.getElem?_eq_getElem hi, hc i _ (List.getElem?_eq_getElem hi)⟩
theorem RdP.mid {w : World} {g off : Nat} {x y : Pc} {l : List Pc} (h : RdP w (some ⟨g, off, none⟩) (x :: (l ++ [y]))) : RdP w (some ⟨g, off + 2, none⟩) l := by
  rcases h with h | ⟨g', off', e, hg, hc⟩
  · cases h
  · injection e with e
    injection e with e1 e2
    subst e1; subst e2
    refine .inr ⟨g, off + 2, rfl, hg, fun i p hp => ?_⟩
    have hi : i < l.length := (List.getElem?_eq_some_iff.1 hp).1
    have := hc (i + 1) p (by rw [List.getElem?_cons_succ, List.getElem?_append_left hi]; exact hp)
    rwa [show off + (i + 1) * 2 = off + 2 + i * 2 by omega] at this
set_option maxHeartbeats 8000000 in
set_option maxRecDepth 100000 in
theorem few_any (k : Int) (x : ByteArray) (A : Option Addr) (n C : Nat) (c : G) (w : World) (hs : Gs w (Lo w.heap.size) (.slice A n C) c) :
    Calls Try.prog 9 #[.agg #[.int .i64 k, .string x, .slice A n C]] w fun e w' => (∃ b, e = .returned (.bool b) ∧ (b = true → c.size + 1 < 400)) ∧ Below w.heap.size w w' := by
  have b1 := (Below.refl w.heap.size w).alloc (Nat.le_refl _) (.cells #[.int .i64 k, .string x, .slice A n C] 24)
  have hx1 := heap_alloc_new w (.cells #[.int .i64 k, .string x, .slice A n C] 24)
  have hz1 : (w.alloc (.cells #[.int .i64 k, .string x, .slice A n C] 24)).heap.size = w.heap.size + 1 := World.size_alloc _ _
  have hs1 : Gs _ (Lo _) (.slice A n C) c := (hs.below b1 (Nat.le_refl _)).up b1.size
  obtain ⟨p0, p1, p2⟩ := cl3 hx1
  have HP := Lib.hid (pieces_any c.size k x A n C c 1000 1000 _ (Nat.le_refl _) rfl (by omega) (by omega) hs1)
  have hlen := rp1_len k x c 1000 (by omega)
  have HB1 := Lib.hid b1
  have HX1 := Lib.hid hx1
  have HS := Lib.hid hs
  obtain ⟨l, hl⟩ : ∃ l, rp1 k x c 1000 = l := ⟨_, rfl⟩
  rw [hl] at HP hlen
  clear b1 hx1 hs1 hs hl
  go_enter Try.func9, Try.ntmps9
  go_wp2_with fail
  refine HP.out.mono ?_
  rintro e w2 ⟨a, cp, rfl, ho, hb⟩
  have HR := Lib.hid (RdP.of_own ho)
  have hb02 := HB1.out.trans (hb.mono HB1.out.size)
  have hx2 := (hb.block w.heap.size (by omega)).trans HX1.out
  have HX2 := Lib.hid hx2
  have HB2 := Lib.hid hb02
  have hlw : w.heap.size < w2.heap.size := lt_of hx2
  clear ho hb hb02 hx2 HX1 p0 p1 p2 HP
  obtain ⟨m, hm⟩ : ∃ m, l.length = m := ⟨_, rfl⟩
  have HM := Lib.hid hm
  rw [hm] at hlen ⊢
  clear hm
  go_wp2
  go_loopw [4, 5] (fun s4 s5 wr => ∃ (i : Nat) (z : Int), i ≤ m ∧ s5 = .int .i64 (i : Int) ∧ s4 = .int .i64 z ∧ 0 ≤ z ∧ z ≤ 20000 ∧ Hid (Below w2.heap.size w2 wr)) (fun _ s5 _ => m - (intOf s5).toNat)
  case atStart => exact ⟨0, 0, Nat.zero_le _, rfl, rfl, by omega, by omega, Below.refl _ _⟩
  case round =>
    obtain ⟨i, z, hi, rfl, rfl, hz0, hz2, hbw⟩ := hrel
    obtain ⟨p0, p1, p2⟩ := cl3 ((hbw.out.block w.heap.size hlw).trans HX2.out)
    by_cases hlt : i < m
    · obtain ⟨g, goff, ⟨kp, xp⟩, rfl, _, u0, u1⟩ := (HR.out.below hbw.out).at_ (i := i) (by rw [HM.out]; exact hlt)
      dsimp only at u0 u1
      have hlt1 : (i : Int) < (m : Int) := by omega
      have hlt0 : (0 : Int) ≤ (i : Int) := by omega
      obtain ⟨sz, hsz⟩ : ∃ sz : Int, (xp.size : Int) = sz := ⟨_, rfl⟩
      have hsz0 : (0 : Int) ≤ sz := by omega
      have HBr := Lib.hid (HB2.out.trans (hbw.out.mono (by omega)))
      have hm0 : (0 : Int) ≤ min sz 10000 := by omega
      have hm1 : min sz 10000 ≤ 10000 := by omega
      by_cases hb : 20000 < z + min sz 10000
      · go_wp2
        go_ret
        exact ⟨⟨false, rfl, fun h => by cases h⟩, HBr.out⟩
      · go_wp2
        go_roundw
        case rel => exact ⟨i + 1, _, by omega, by go_num, rfl, by omega, by omega, hbw.out⟩
        case measure => simp [intOf]; omega
    · obtain rfl : i = m := by omega
      have hlt1 : ¬ (i : Int) < (i : Int) := by omega
      have HBr := Lib.hid (HB2.out.trans (hbw.out.mono (by omega)))
      have HZ := Lib.hid (size_any c.size k x A n C c 400 400 wr (Nat.le_refl _) rfl (by omega) (by omega) ((HS.out.below HBr.out (Nat.le_refl _)).up HBr.out.size))
      have hle := szL_le c 400 1 (by omega)
      have HIS : Hid (szL c 400 1 < 400 → c.size + 1 < 400) := fun h => by have := szL_is c 400 1 h; omega
      obtain ⟨q, hq⟩ : ∃ q, szL c 400 1 = q := ⟨_, rfl⟩
      rw [hq] at HZ hle HIS
      clear hq
      go_wp2_with fail
      refine HZ.out.mono ?_
      rintro e w3 ⟨rfl, hb3⟩
      have HB3 := Lib.hid (HBr.out.trans (hb3.mono HBr.out.size))
      clear hb3
      go_wp2
      go_ret
      exact ⟨⟨decide ((q : Int) < 400), rfl, fun h => HIS.out (by have := of_decide_eq_true h; omega)⟩, HB3.out⟩
end Go.Proofs.Ytpankfbdlakmcaa.Doc
