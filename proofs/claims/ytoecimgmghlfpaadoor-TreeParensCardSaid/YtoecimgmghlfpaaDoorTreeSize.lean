/-
  Layer 5 (tree): Size.
-/
import Derived.Test.YtoecimgmghlfpaaDoorTreeRight
namespace Go.Proofs.YtoecimgmghlfpaaDoor.Tree
open Go.ChangeShapes Go.WideShapes Go.ChangeAt Go.RowKit Mem
set_option linter.unusedVariables false

def SizeSpec (N : Nat) : Prop := ∀ (k : Int) (x y : ByteArray) (A : Option Addr) (n C : Nat) (c : F) (w : World), c.size ≤ N → c.size ≤ 1000000000 → Fs w (Lo w.heap.size) (.slice A n C) c →
  Calls Tryd.prog 10 #[.agg #[.int .i64 k, .string x, .string y, .slice A n C]] w fun e w' => e = .returned (.int .i64 ((c.size + 1 : Nat) : Int)) ∧ Below w.heap.size w w'

/-- What holds at each round. -/
structure SAt (w wr : World) (A : Option Addr) (n C : Nat) (f : F) (m tot : Nat) : Prop where
  bel : Below w.heap.size w wr
  fs : Fs wr (Lo w.heap.size) (.slice A n C) f
  eq : m + f.size = tot

set_option maxRecDepth 100000 in
set_option maxHeartbeats 8000000 in
theorem size_step (N : Nat) (ih : ∀ M, M < N → SizeSpec M) : SizeSpec N := by
  intro k x y A n C c w hN hbig hf
  have HIH := Lib.hid ih
  have b1 := below1 w (.cells #[.int .i64 k, .string x, .string y, .slice A n C] 24)
  have HM : Hid (SAt w (w.alloc (.cells #[.int .i64 k, .string x, .string y, .slice A n C] 24)) A n C c 1 (c.size + 1)) := ⟨b1, hf.below b1 (Nat.le_refl _), by omega⟩
  have htot : c.size + 1 ≤ 1000000001 := by omega
  obtain ⟨tot, ht⟩ : ∃ tot, c.size + 1 = tot := ⟨_, rfl⟩
  rw [ht] at htot HM ⊢
  clear ih hf b1 hbig
  go_enter Tryd.func10, Tryd.ntmps10
  go_wp2
  go_loopg [3, 4] (c.size + 1) (fun p s3 s4 wr => ∃ (m : Nat) (A : Option Addr) (n C : Nat) (f : F), f.size < p ∧ f.size ≤ N ∧ m ≤ tot ∧ s3 = .int .i64 (m : Int) ∧ s4 = .slice A n C ∧ Hid (SAt w wr A n C f m tot))
  case atStart => exact ⟨1, A, n, C, c, by omega, hN, by omega, rfl, rfl, HM.out⟩
  case round =>
    clear HM hN ht
    obtain ⟨m, A, n, C, f, hsz, hN, hm, rfl, rfl, HM⟩ := hrel
    cases hfe : f with
    | nil =>
      rw [hfe] at HM
      obtain ⟨A0, C0, e, _, _⟩ := HM.out.fs.slice
      injection e with e1 e2 e3
      simp only [F.len] at e2
      subst e2
      have HE : Hid (m = tot) := by
        show m = tot
        have := HM.out.eq; simpa [F.size] using this
      clear e1 e3 hfe
      go_wp2
      go_ret
      exact ⟨by rw [← HE.out]; rfl, HM.out.bel⟩
    | cons k1 x1 y1 c1 r1 =>
      rw [hfe] at HM hsz hN
      obtain ⟨b, off, s1, rfl, hbS, hn0, hat⟩ := HM.out.fs.at_ (i := 0) rfl
      obtain ⟨A1, C1, rfl, hl1, hl1'⟩ := hat.kids.slice
      have HAT := Lib.hid hat
      obtain ⟨h1n, hnC, hCm, hrl, hr⟩ := HM.out.fs.tail
      obtain ⟨A', n', C', hsl, en, eC, hA'⟩ := tail_slice b off n C h1n hnC
      have hr2 := hr A' hA'
      rw [← en, ← eC] at hr2
      rw [← en] at hrl
      have HR1 := Lib.hid hr2
      have HRL := Lib.hid hrl
      have hn01 : (0 : Int) < (n : Int) := by omega
      have heq := HM.out.eq
      simp only [F.size] at heq hsz hN
      have HBS : Hid (b < w.heap.size) := hbS
      have hCm' : C' ≤ 9223372036854775807 := by omega
      have hn' : n' ≤ 1000000001 := by have := F.len_le_size r1; omega
      clear hfe hat hr hr2 hrl hA' en eC hbS
      go_wp2
      go_loopw [3, 21] (fun s3 i wr2 => ∃ (j m2 : Nat), j ≤ n' ∧ i = .int .i64 (j : Int) ∧ s3 = .int .i64 (m2 : Int) ∧ m2 ≤ tot ∧ Hid (m2 + (r1.drop j).size = m + 1 + r1.size) ∧ Hid (Below wr.heap.size wr wr2)) (fun _ i _ => n' - (intOf i).toNat)
      case atStart => exact ⟨0, m + 1, Nat.zero_le _, rfl, by go_num, by omega, rfl, Below.refl _ _⟩
      case round =>
        obtain ⟨j, m2, hj, rfl, rfl, hm2, hms, hbw⟩ := hrel
        have hww := HM.out.bel.trans (hbw.out.mono HM.out.bel.size)
        by_cases hlt : j < n'
        · obtain ⟨kk, kx, ky, kc, kr, hdr, hdr2⟩ := F.drop_cons (n := j) (f := r1) (by rw [HRL.out]; exact hlt)
          obtain ⟨b2, off2, s2, rfl, hb2S, _, hat2⟩ := HR1.out.at_ hdr
          obtain ⟨Ak, Ck, rfl, _, _⟩ := hat2.kids.slice
          have hb2 : b2 < wr.heap.size := Nat.lt_of_lt_of_le hb2S hww.size
          have hb2g := Nat.lt_of_lt_of_le hb2S HM.out.bel.size
          have e0 := (hbw.out.cell (p := ⟨b2, off2 + j * 4, none⟩) hb2g).trans hat2.c0
          have e1 := (hbw.out.cell (p := ⟨b2, off2 + j * 4 + 1, none⟩) hb2g).trans hat2.c1
          have e2 := (hbw.out.cell (p := ⟨b2, off2 + j * 4 + 2, none⟩) hb2g).trans hat2.c2
          have e3 := (hbw.out.cell (p := ⟨b2, off2 + j * 4 + 3, none⟩) hb2g).trans hat2.c3
          have hlt' : (j : Int) < (n' : Int) := by omega
          have hj0 : (0 : Int) ≤ (j : Int) := by omega
          have hsz2 := size_drop hdr
          have bk := below1 wr (.cells #[.int .i64 kk, .string kx, .string ky, .slice Ak kc.len Ck] 24)
          have hb3 := hww.trans (bk.mono hww.size)
          have hms2 : m2 + (kc.size + kr.size + 1) = m + 1 + r1.size := by have := hms.out; rw [hdr] at this; simpa [F.size] using this
          have HC := Lib.hid (HIH.out kc.size (by omega) kk kx ky Ak kc.len Ck kc _ (Nat.le_refl _) (by omega) (((hat2.kids.below hbw.out HM.out.bel.size).below (bk.mono hww.size) (Nat.le_refl _)).up hb3.size))
          have HDR : Hid (m2 + (kc.size + 1) + (r1.drop (j + 1)).size = m + 1 + r1.size) := by show _ = _; rw [hdr2]; omega
          have HB3 := Lib.hid (hbw.out.trans (bk.mono hbw.out.size))
          have hm3 : m2 + (kc.size + 1) ≤ tot := by omega
          clear hdr hdr2 hb2S hat2 bk hms hsz2 hb3
          obtain ⟨ks, hks⟩ : ∃ ks, kc.size + 1 = ks := ⟨_, rfl⟩
          rw [hks] at HC HDR hm3
          clear hms2 hks
          go_wp2_with fail
          refine HC.out.mono ?_
          rintro e wk ⟨rfl, hbk⟩
          have HB4 := Lib.hid (HB3.out.trans (hbk.mono HB3.out.size))
          clear hbk
          go_wp2
          go_roundw
          case rel => exact ⟨j + 1, m2 + ks, by omega, by go_num, by go_num, hm3, HDR.out, HB4.out⟩
          case measure => simp [intOf]; omega
        · have hn'' : ¬ (j : Int) < (n' : Int) := by omega
          obtain rfl : j = n' := by omega
          have hms2 : m2 = m + 1 + r1.size := by have := hms.out; rw [F.drop_all _ _ (by rw [HRL.out]; exact Nat.le_refl _)] at this; simpa [F.size] using this
          have hbl : b < wr.heap.size := Nat.lt_of_lt_of_le HBS.out hww.size
          obtain ⟨q0, q1, q2, q3⟩ := kid0 HAT.out hbw.out (Nat.lt_of_lt_of_le HBS.out HM.out.bel.size)
          have HM2 : Hid (SAt w wr A1 c1.len C1 c1 m2 tot) := ⟨hww, HAT.out.kids.below hbw.out HM.out.bel.size, by omega⟩
          clear hms hms2 heq
          go_wp2
          go_roundg (c1.size + 1)
          case measure => omega
          case rel => exact ⟨m2, A1, c1.len, C1, c1, by omega, by omega, hm2, rfl, rfl, HM2.out⟩

theorem size_any (N : Nat) : SizeSpec N := by
  induction N using Nat.strongRecOn with
  | _ N ih => exact size_step N ih
end Go.Proofs.YtoecimgmghlfpaaDoor.Tree
