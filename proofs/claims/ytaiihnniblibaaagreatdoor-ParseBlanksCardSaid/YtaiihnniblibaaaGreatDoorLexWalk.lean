/-
 Layer 4 (lex): row (with its walk) and Tokens: a program's tokens, or where it is none.
-/
import Derived.Test.YtaiihnniblibaaaGreatDoorLexRow
import Derived.Test.YtaiihnniblibaaaGreatDoorUtfMore
namespace Go.Proofs.YtaiihnniblibaaaGreatDoor.Lex
open Go.ChangeShapes Go.WideShapes Go.ChangeAt Go.RowKit Utf MemT
set_option linter.unusedVariables false

theorem row_any (g b0 off n cap : Nat) (s : St) (k : Int) (a b m : Nat) (xs : List Int) (w : World) (hb' : b = a + m) (hc : Cg g (some ⟨b0, off, none⟩) n cap s w) (hrb : RB w g (some ⟨b0, off, none⟩) xs) (hn : xs.length = n) (hncap : n ≤ cap) (hcapm : cap ≤ maxLen) (hm : 0 < m) (hmn : b ≤ n) (hsm : n ≤ 1000000) (hl : s.toks.length ≤ 3000000) :
  Calls Tryz.prog 41 #[.int .i64 k, .int .i64 (a : Int), .int .i64 (b : Int), .pointer (some ⟨g + 1 + 1 + 1, 0, none⟩), .pointer (some ⟨g + 1, 0, none⟩), .pointer (some ⟨g + 1 + 1 + 1 + 1, 0, none⟩), .pointer (some ⟨g + 1 + 1, 0, none⟩), .pointer (some ⟨g, 0, none⟩)] w (RowPost g (some ⟨b0, off, none⟩) n cap (keep s k ((xs.drop a).take m) a) w) := by
 by_cases h8 : k = 8
 ·subst h8
  by_cases ho : s.opn = true
  ·exact row_end g _ n cap s a b w hc ho hl _
  ·exact row_skip g _ n cap s 8 a b w hc (.inl ⟨rfl, by simpa using ho⟩) _
 by_cases h7 : k = 7
 ·exact row_skip g _ n cap s k a b w hc (.inr h7) _
 ·exact row_tok g b0 off n cap s k a b m xs w w (Below.refl _ _) hb' hc hrb hn hncap hcapm hm hmn hsm h8 h7 hl
theorem row_last (g : Nat) (A : Option Addr) (n cap : Nat) (s : St) (a b : Nat) (w : World) (hc : Cg g A n cap s w) (hl : s.toks.length ≤ 3000000) :
  Calls Tryz.prog 41 #[.int .i64 8, .int .i64 (a : Int), .int .i64 (b : Int), .pointer (some ⟨g + 1 + 1 + 1, 0, none⟩), .pointer (some ⟨g + 1, 0, none⟩), .pointer (some ⟨g + 1 + 1 + 1 + 1, 0, none⟩), .pointer (some ⟨g + 1 + 1, 0, none⟩), .pointer (some ⟨g, 0, none⟩)] w (RowPost g A n cap (keep s 8 [] 0) w) := by
 have e : keep s 8 [] 0 = keep s 8 [] a := by simp [keep]
 rw [e]
 by_cases ho : s.opn = true
 ·exact row_end g _ n cap s a b w hc ho hl _
 ·exact row_skip g _ n cap s 8 a b w hc (.inl ⟨rfl, by simpa using ho⟩) _

/-- How far the walk has come: what is still to come ends as all of it. -/
def Way (xs : List Int) (n k : Nat) (s : St) : Prop := ∃ f, n - k ≤ f ∧ walkS f (xs.drop k) k s = walkS n xs 0 st0
theorem way_start (xs : List Int) (n : Nat) : Way xs n 0 st0 := ⟨n, by omega, by rw [List.drop_zero]⟩
theorem way_step {xs : List Int} {n k : Nat} {s : St} (h : Way xs n k s) (hn : xs.length = n) (hk : k < n) (hp : (piece (xs.drop k)).2 ≠ 0) :
  Way xs n (k + (piece (xs.drop k)).2) (keep s (piece (xs.drop k)).1 ((xs.drop k).take (piece (xs.drop k)).2) k) := by
 obtain ⟨f, hf, h⟩ := h
 cases f with
 | zero => omega
 | succ f =>
  refine ⟨f, by omega, ?_⟩
  rw [← h]
  conv => rhs; unfold walkS
  rw [if_neg hp, List.drop_drop]
theorem way_stop {xs : List Int} {n k : Nat} {s : St} (h : Way xs n k s) (hp : (piece (xs.drop k)).2 = 0) : walkS n xs 0 st0 = (s, k) := by
 obtain ⟨f, hf, h⟩ := h
 rw [← h]
 cases f with
 | zero => rfl
 | succ f => unfold walkS; rw [if_pos hp]

def RowsPost (xs : List Int) (w : World) (e : Ending) (w' : World) : Prop :=
 ∃ v, e = .returned (.tuple #[v, .int .i64 ((xs.length - (left xs).length : Nat) : Int)]) ∧ OwnT w' w.heap.size v (toks xs) ∧ Below w.heap.size w w'
theorem rows_end {xs : List Int} {n k : Nat} {s : St} {g : Nat} {A : Option Addr} {cap : Nat} {w w' : World} (hn : xs.length = n) (h : walkS n xs 0 st0 = (s, k)) (hg : g = w.heap.size) (hc : Cg g A n cap (keep s 8 [] 0) w') (hb : Below g w w') :
  ∃ v, w'.heap[g + 1]? = some (.cells #[v] 38 (0, 0)) ∧ (∃ a c, v = .slice a (toks xs).length c) ∧ RowsPost xs w (.returned (.tuple #[v, .int .i64 (k : Int)])) w' := by
 subst hg; subst hn
 rw [walk_all] at h
 obtain ⟨h1, h2⟩ : foldK st0 0 (pieces xs) = s ∧ xs.length - (left xs).length = k := by simpa using h
 obtain ⟨v, hv, ho⟩ := hc.l
 rw [← h1, fold_toks] at ho
 obtain ⟨a, c, e, _, _⟩ := ownT_slice ho
 exact ⟨v, hv, ⟨a, c, e⟩, v, by rw [h2], own_base ho (by omega), hb⟩

theorem five {w : World} {o1 o2 o3 o4 o5 : Obj} :
  ((((((w.alloc o1).alloc o2).alloc o3).alloc o4).alloc o5).heap[w.heap.size]? = some o1) ∧ ((((((w.alloc o1).alloc o2).alloc o3).alloc o4).alloc o5).heap[w.heap.size + 1]? = some o2) ∧
  ((((((w.alloc o1).alloc o2).alloc o3).alloc o4).alloc o5).heap[w.heap.size + 2]? = some o3) ∧ ((((((w.alloc o1).alloc o2).alloc o3).alloc o4).alloc o5).heap[w.heap.size + 3]? = some o4) ∧
  ((((((w.alloc o1).alloc o2).alloc o3).alloc o4).alloc o5).heap[w.heap.size + 4]? = some o5) := by
 have k : ∀ (W : World) (o : Obj) (i : Nat), i < W.heap.size → (W.alloc o).heap[i]? = W.heap[i]? := fun W o i hi => Below.heap_alloc W o i hi
 have z : ∀ (W : World) (o : Obj), (W.alloc o).heap.size = W.heap.size + 1 := fun W o => by simp
 have nw : ∀ (W : World) (o : Obj) (i : Nat), i = W.heap.size → (W.alloc o).heap[i]? = some o := fun W o i hi => by subst hi; exact heap_alloc_new W o
 refine ⟨?_, ?_, ?_, ?_, ?_⟩
 ·rw [k _ _ _ (by simp only [z]; omega), k _ _ _ (by simp only [z]; omega), k _ _ _ (by simp only [z]; omega), k _ _ _ (by simp only [z]; omega), nw _ _ _ rfl]
 ·rw [k _ _ _ (by simp only [z]; omega), k _ _ _ (by simp only [z]; omega), k _ _ _ (by simp only [z]; omega), nw _ _ _ (by simp only [z])]
 ·rw [k _ _ _ (by simp only [z]; omega), k _ _ _ (by simp only [z]; omega), nw _ _ _ (by simp only [z])]
 ·rw [k _ _ _ (by simp only [z]; omega), nw _ _ _ (by simp only [z])]
 ·rw [nw _ _ _ (by simp only [z])]
theorem cg_new (A : Option Addr) (n cap : Nat) (w : World) : Cg w.heap.size A n cap st0 (((((w.alloc (.cells #[.slice A n cap] 30)).alloc (.cells #[.slice none 0 0] 38)).alloc (.cells #[.bool true] 4)).alloc (.cells #[.bool false] 4)).alloc (.cells #[.int .i64 0] 3)) := by
 obtain ⟨h1, h2, h3, h4, h5⟩ := @five w (.cells #[.slice A n cap] 30) (.cells #[.slice none 0 0] 38) (.cells #[.bool true] 4) (.cells #[.bool false] 4) (.cells #[.int .i64 0] 3)
 exact ⟨h1, ⟨.slice none 0 0, h2, World.ownsRow_nil _ _ _ _⟩, h3, h4, h5⟩
theorem below_new (o1 o2 o3 o4 o5 : Obj) (w : World) : Below w.heap.size w (((((w.alloc o1).alloc o2).alloc o3).alloc o4).alloc o5) :=
 (((((Below.refl _ _).alloc (Nat.le_refl _) _).alloc (by simp) _).alloc (by simp; omega) _).alloc (by simp; omega) _).alloc (by simp; omega) _

set_option maxHeartbeats 4000000 in
theorem rows_any (A : Option Addr) (n cap : Nat) (xs : List Int) (w : World) (B : Nat) (h : RB w B A xs) (hB : B ≤ w.heap.size) (hn : xs.length = n) (hcap : n ≤ cap) (hcap' : cap ≤ maxLen) (hsm : n ≤ 1000000) (hT : Tab w) :
  Calls Tryz.prog 26 #[.slice A n cap] w (RowsPost xs w) := by
 have HR := Lib.hid h
 have Hn := Lib.hid hn
 have HT := Lib.hid hT
 have Hcap := Lib.hid hcap'
 have HNEW := Lib.hid (cg_new A n cap w)
 clear h hn hT
 unfold maxLen at hcap'
 go_enter Tryz.func26, Tryz.ntmps26
 go_wp2
 have HBN := Lib.hid (below_new (.cells #[.slice A n cap] 30) (.cells #[.slice none 0 0] 38) (.cells #[.bool true] 4) (.cells #[.bool false] 4) (.cells #[.int .i64 0] 3) w)
 generalize ((((w.alloc (.cells #[.slice A n cap] 30)).alloc (.cells #[.slice none 0 0] 38)).alloc (.cells #[.bool true] 4)).alloc (.cells #[.bool false] 4)).alloc (.cells #[.int .i64 0] 3) = W5 at *
 go_loopw [5, 6, 7] (fun at_ _ _ wr => ∃ (k : Nat) (s : St), k ≤ n ∧ at_ = .int .i64 k ∧ Hid (Way xs n k s) ∧ Hid (Cg w.heap.size A n cap s wr) ∧ Hid (Below w.heap.size w wr) ∧ s.toks.length ≤ 2 * k) (fun at_ _ _ _ => n - (intOf at_).toNat)
 case atStart => exact ⟨0, st0, Nat.zero_le _, rfl, way_start xs n, HNEW.out, HBN.out, by simp [st0]⟩
 case round =>
  obtain ⟨k, s, hk, rfl, hway, hcg, hbel, hlen⟩ := hrel
  have HLAST := Lib.hid (fun (W : World) (hc : Cg w.heap.size A n cap s W) => row_last w.heap.size A n cap s k k W hc (by omega))
  by_cases hlt : k < n
  ·obtain ⟨b, off, rfl, hbB, hcell⟩ := HR.out.cell (by intro e; have := Hn.out; rw [e] at this; simp at this; omega)
   have hck : ¬ cap = k := by omega
   have hdn : (xs.drop k).length = n - k := by rw [List.length_drop, Hn.out]
   have hrb := HR.out.below hbel.out hB
   have hrd : RB wr B (some ⟨b, off + k, none⟩) (xs.drop k) := by
    have := hrb.drop (k := k) (cap := cap) (by rw [Hn.out]; omega) (by rw [Hn.out]; omega)
    rw [if_neg hck] at this
    have e : (⟨b, off, none⟩ : Addr).add k = ⟨b, off + k, none⟩ := by unfold Addr.add; split <;> simp_all
    simpa [e] using this
   have HNX := Lib.hid (next_any (some ⟨b, off + k, none⟩) (n - k) (cap - k) (xs.drop k) wr B hrd (by have := hbel.out.size; omega) hdn (by omega) (by omega) (by unfold maxLen; omega) (by omega) (HT.out.below hbel.out HT.out.pos))
   have HPL : Hid ((piece (xs.drop k)).2 ≤ n - k) := by have := piece_le (xs.drop k); rw [hdn] at this; exact this
   have HST : Hid ((piece (xs.drop k)).2 = 0 → walkS n xs 0 st0 = (s, k)) := way_stop hway.out
   have HSP : Hid ((piece (xs.drop k)).2 ≠ 0 → Way xs n (k + (piece (xs.drop k)).2) (keep s (piece (xs.drop k)).1 ((xs.drop k).take (piece (xs.drop k)).2) k)) := way_step hway.out Hn.out hlt
   have HRB : Hid (∀ W, Below w.heap.size w W → RB W w.heap.size (some ⟨b, off, none⟩) xs) := fun W hW => (HR.out.below hW hB).more hB
   generalize piece (xs.drop k) = P at *
   obtain ⟨kk, m⟩ := P
   clear hway hrb hrd hdn hcell
   by_cases hm0 : m = 0
   ·subst hm0
    have HS1 := Lib.hid (HST.out rfl)
    clear HST HSP HPL HRB
    go_wp2_with (go_at_call 64; refine HNX.out.mono ?_; rintro e wn ⟨rfl, hbn⟩)
    refine (HLAST.out _ (hcg.out.below hbn)).mono ?_
    rintro e w' ⟨rfl, hc1, hb1⟩
    obtain ⟨v, hv, ⟨a1, c1, rfl⟩, hp⟩ := rows_end Hn.out HS1.out rfl hc1 ((hbel.out.trans (hbn.mono (by have := hcg.out.size; omega))).trans hb1)
    have HP := Lib.hid hp
    have hcv := cell_of_one hv
    clear hv hp hc1 hb1 hbn
    go_wp2
    go_ret2
    exact HP.out
   ·have hmb : ((m : Int) == 0) = false := beq_no (by omega)
    have HS1 := Lib.hid (HSP.out hm0)
    have hml := HPL.out
    clear HST HSP HPL
    go_wp2_with (go_at_call 64; refine HNX.out.mono ?_; rintro e wn ⟨rfl, hbn⟩)
    have hcgn := hcg.out.below hbn
    have hbeln := hbel.out.trans (hbn.mono (by have := hcg.out.size; omega))
    have hrow := row_any w.heap.size b off n cap s kk k (k + m) m xs wn rfl hcgn (HRB.out _ hbeln) Hn.out hcap Hcap.out (by omega) (by omega) hsm (by omega)
    rw [show ((k + m : Nat) : Int) = (k : Int) + (m : Int) from by omega] at hrow
    have hl2 : (keep s kk ((xs.drop k).take m) k).toks.length ≤ s.toks.length + 2 := st_len
    have HROW := Lib.hid hrow; have HBE := Lib.hid hbeln
    clear hrow hcgn hbeln hbn
    with_reducible refine HROW.out.mono ?_
    rintro e w' ⟨rfl, hc1, hb1⟩
    have HC1 := Lib.hid hc1; have HB1 := Lib.hid hb1
    clear hc1 hb1
    go_wp2
    go_roundw
    case rel => exact ⟨k + m, _, by omega, by go_num, HS1.out, HC1.out, HBE.out.trans HB1.out, by omega⟩
    case measure => simp [intOf]; omega
  ·have HST := Lib.hid (way_stop hway.out (show (piece (xs.drop k)).2 = 0 by rw [List.drop_eq_nil_of_le (by rw [Hn.out]; omega)]; rfl))
   clear hway
   go_wp2_with fail
   with_reducible refine (HLAST.out _ hcg.out).mono ?_
   rintro e w' ⟨rfl, hc1, hb1⟩
   obtain ⟨v, hv, ⟨a1, c1, rfl⟩, hp⟩ := rows_end Hn.out HST.out rfl hc1 (hbel.out.trans hb1)
   have HP := Lib.hid hp
   have hcv := cell_of_one hv
   clear hv hp hc1 hb1
   go_wp2
   go_ret2
   exact HP.out

end Go.Proofs.YtaiihnniblibaaaGreatDoor.Lex
