/-
 Layer 4 (lex): remark (over bytes.Cut and bytes.TrimRight by their contracts) and next: the piece with which bytes begin.
-/
import Derived.Test.YtaiihnniblibaaaGreatDoorJpD
import Derived.Lib.SlTrimSet
import Derived.Lib.SlBytesConst
namespace Go.Proofs.YtaiihnniblibaaaGreatDoor.Lex
open Go.ChangeShapes Go.WideShapes Go.ChangeAt Go.RowKit Utf
set_option linter.unusedVariables false

theorem u8_eq {x y : Int} (h0 : 0 ≤ x ∧ x < 256) (h1 : 0 ≤ y ∧ y < 256) : (UInt8.ofNat x.toNat == UInt8.ofNat y.toNat) = decide (x = y) := by
 by_cases h : x = y
 ·subst h; simp
 ·rw [decide_eq_false h, beq_eq_false_iff_ne]
  intro e
  have := congrArg UInt8.toNat e
  rw [u8_of x.toNat (by omega), u8_of y.toNat (by omega)] at this
  omega

theorem ascii_all {l : List UInt8} (h : l.all (fun b => decide (b.toNat < 128)) = true) (j : Nat) (b : UInt8) (hj : l[j]? = some b) : b.toNat < 128 := by
 simpa using List.all_eq_true.1 h b (List.mem_of_getElem? hj)

theorem bytes_in {w : World} {B n : Nat} {A : Option Addr} {xs : List Int} (h : RB w B A xs) (hn : xs.length = n) : Lib.BytesIn w A n xs := fun h0 => by
 obtain ⟨b, off, e, _, hc⟩ := h.cell (by intro e; rw [e] at hn; simp at hn; omega)
 exact ⟨b, off, e, fun i hi => hc i (by omega)⟩

theorem idx_lead : ∀ (xs : List Int), Byt xs → Lib.indexByte (Lib.bytesOf xs) (UInt8.ofNat (10 : Int).toNat) = if lead (fun c => c != 10) xs < xs.length then (lead (fun c => c != 10) xs : Int) else -1
 | [], _ => rfl
 | c :: r, hb => by
  have ih := idx_lead r (fun y hy => hb y (by simp [hy]))
  have hc := hb c (by simp)
  unfold Lib.bytesOf at ih ⊢
  simp only [List.map_cons, Lib.indexByte, ih, u8_eq hc (show (0:Int) ≤ 10 ∧ (10:Int) < 256 by omega)]
  have hle := lead_le (fun c => c != 10) r
  by_cases h : c = 10
  ·subst h; simp [lead]
  ·have hne : (c != 10) = true := by rw [bne_iff_ne]; exact h
   have e : lead (fun c => c != 10) (c :: r) = lead (fun c => c != 10) r + 1 := by simp only [lead, hne, if_true]
   rw [e, List.length_cons, decide_eq_false h]
   by_cases hl : lead (fun c => c != 10) r < r.length
   ·rw [if_pos hl, if_neg (by simp), if_neg (by rw [beq_iff_eq]; omega), if_pos (by omega)]; simp
   ·rw [if_neg hl, if_neg (by simp), if_pos (by rfl), if_neg (by omega)]
theorem idx_line (xs : List Int) (hb : Byt xs) : Lib.indexByte (Lib.bytesOf xs) (UInt8.ofNat (10 : Int).toNat) = if lineL xs < xs.length then (lineL xs : Int) else -1 := idx_lead xs hb

theorem blk_u8 {x : Int} (h : 0 ≤ x ∧ x < 256) : ([32, 9, 13] : List UInt8).contains (UInt8.ofNat x.toNat) = blk x := by
 have e : ∀ y : Int, 0 ≤ y ∧ y < 256 → (UInt8.ofNat x.toNat == UInt8.ofNat y.toNat) = decide (x = y) := fun y hy => u8_eq h hy
 have e1 := e 32 (by omega); have e2 := e 9 (by omega); have e3 := e 13 (by omega)
 rw [Bool.eq_iff_iff, blk_iff]
 have : ([32, 9, 13] : List UInt8).contains (UInt8.ofNat x.toNat) = ((UInt8.ofNat x.toNat == 32) || ((UInt8.ofNat x.toNat == 9) || (UInt8.ofNat x.toNat == 13))) := by
  simp [List.contains, List.elem]
  cases (UInt8.ofNat x.toNat == 32) <;> cases (UInt8.ofNat x.toNat == 9) <;> cases (UInt8.ofNat x.toNat == 13) <;> rfl
 rw [this]
 change (UInt8.ofNat x.toNat == 32) = _ at e1
 change (UInt8.ofNat x.toNat == 9) = _ at e2
 change (UInt8.ofNat x.toNat == 13) = _ at e3
 rw [e1, e2, e3]; simp
theorem bytesOf_at {xs : List Int} {j : Nat} {b : UInt8} (h : (Lib.bytesOf xs)[j]? = some b) : j < xs.length ∧ b = UInt8.ofNat (xs.getD j 0).toNat := by
 unfold Lib.bytesOf at h
 rw [List.getElem?_map] at h
 cases e : xs[j]? with
 | none => rw [e] at h; simp at h
 | some x =>
  rw [e] at h
  have hl : j < xs.length := by
   rcases Nat.lt_or_ge j xs.length with h' | h'
   ·exact h'
   ·rw [List.getElem?_eq_none h'] at e; cases e
  exact ⟨hl, by simp [List.getD, e] at h ⊢; exact h.symm⟩
theorem trim_is {xs : List Int} (hb : Byt xs) : (Lib.trimRightS (Lib.bytesOf xs) [32, 9, 13]).length = trimL xs := by
 have hle := trimL_le xs
 rw [Lib.trimRightS_take (Lib.bytesOf xs) [32, 9, 13] (trimL xs) (by rw [Lib.bytesOf_length]; exact hle) (fun j b hj h => ?_) (fun b h0 h => ?_)]
 ·rw [List.length_take, Lib.bytesOf_length]; omega
 ·obtain ⟨hl, rfl⟩ := bytesOf_at h
  rw [blk_u8 (hb.getD j)]; exact trimL_blk xs j hj hl
 ·obtain ⟨hl, rfl⟩ := bytesOf_at h
  rw [blk_u8 (hb.getD _)]; exact trimL_last xs h0

theorem rb_mark (w : World) (xs : List Int) (T : TypeId) (fr : Nat × Nat) (hb : Byt xs) : RB (w.alloc (.cells (xs.map (Value.int .u8)).toArray T fr)) (w.heap.size + 1) (some ⟨w.heap.size, 0, none⟩) xs :=
 ⟨hb, .inr ⟨_, _, rfl, by omega, fun i hi => by
  rw [Nat.zero_add, World.cell?_alloc_mark]
  simp [List.getD, hi]⟩⟩

theorem pre_two : ∀ (xs : List Int), Byt xs → Lib.hasPrefix (Lib.bytesOf xs) (Lib.bytesOf [47, 47]) = decide (xs.take 2 = [47, 47])
 | [], _ => rfl
 | [c], hb => by simp [Lib.hasPrefix, Lib.bytesOf, List.isPrefixOf]
 | c :: d :: r, hb => by
  have hc := hb c (by simp)
  have hd := hb d (by simp)
  have e1 := u8_eq (show (0:Int) ≤ 47 ∧ (47:Int) < 256 by omega) hc
  have e2 := u8_eq (show (0:Int) ≤ 47 ∧ (47:Int) < 256 by omega) hd
  simp only [Lib.hasPrefix, Lib.bytesOf, List.map_cons, List.map_nil, List.isPrefixOf, e1, e2, List.take_succ_cons, List.take_zero]
  rw [Bool.eq_iff_iff]; simp
  exact ⟨fun ⟨a, b⟩ => ⟨a.symm, b.symm⟩, fun ⟨a, b⟩ => ⟨a.symm, b.symm⟩⟩

theorem cut_line (p : Option Addr) (xs : List Int) (n c : Nat) (hb : Byt xs) (hn : xs.length = n) :
  ∃ v1 v2, Lib.cutV p n c 1 (Lib.indexByte (Lib.bytesOf xs) (10 : Int).toNat.toUInt8) = .tuple #[.slice p (lineL xs) c, v1, v2] := by
 have := idx_line xs hb
 change Lib.indexByte (Lib.bytesOf xs) (10 : Int).toNat.toUInt8 = _ at this
 rw [this]
 have hle := lead_le (fun c => c != 10) xs
 by_cases h : lineL xs < xs.length
 ·rw [if_pos h]; unfold Lib.cutV; rw [if_pos (by omega)]; exact ⟨_, _, rfl⟩
 ·have e : lineL xs = n := by unfold lineL at *; omega
  rw [if_neg h]; unfold Lib.cutV; rw [if_neg (by omega), e]; exact ⟨_, _, rfl⟩

set_option maxHeartbeats 1000000 in
theorem remark_any (A : Option Addr) (n cap : Nat) (xs : List Int) (w : World) (B : Nat) (h : RB w B A xs) (hB : B ≤ w.heap.size) (hn : xs.length = n) (hn0 : 0 < n) (hcap : n ≤ cap) (hcap' : cap ≤ maxLen) (hsm : n ≤ 1000000) :
  Calls Tryz.prog 84 #[.slice A n cap] w fun e w' => e = .returned (.int .i64 (remL xs)) ∧ Below w.heap.size w w' := by
 have hb := h.byt
 obtain ⟨b, off, rfl, hbB, hc⟩ := h.cell (by intro e; rw [e] at hn; simp at hn; omega)
 obtain ⟨v1, v2, hcv⟩ := cut_line (some ⟨b, off, none⟩) xs n cap hb hn
 have hle : lineL xs ≤ n := by have := lead_le (fun c => c != 10) xs; unfold lineL; omega
 have HCUT : Hid (∀ (g : Nat), g = w.heap.size → Calls Tryz.prog 98 #[.slice (some ⟨b, off, none⟩) n cap, .slice (some ⟨g, 0, none⟩) 1 1] (w.alloc (.cells #[.int .u8 10] 5)) fun e w' => e = .returned (.tuple #[.slice (some ⟨b, off, none⟩) (lineL xs) cap, v1, v2]) ∧ ∃ q, w' = (w.alloc (.cells #[.int .u8 10] 5)).drewN q) := by
  rintro g rfl
  have hidx := idx_line xs hb
  change Lib.indexByte (Lib.bytesOf xs) (10 : Int).toNat.toUInt8 = _ at hidx
  rw [← hcv]
  refine Tryz.bytes_Cut_of _ _ n cap 1 1 _ _ hcap (by rw [hidx]; split <;> omega) (fun h0 => by rw [hidx] at h0 ⊢; split at h0 <;> rename_i h1 <;> first | omega | (rw [if_pos h1]; omega)) (by omega) ?_
  refine (Tryz.bytes_Index_one b off n cap w.heap.size 0 1 xs 10 _ hn (fun i hi => ?_) ?_).mono fun _ _ ⟨he, hw⟩ => ⟨he, 0, hw⟩
  ·rw [World.cell?_alloc_lt _ _ _ (show b < w.heap.size by omega)]; exact hc i (by omega)
  ·exact World.cell?_alloc_at _ _ _ _ rfl
 have hbt := hb.take (lineL xs)
 have HTR : Hid (∀ q, Calls Tryz.prog 99 #[.slice (some ⟨b, off, none⟩) (lineL xs) cap, .string ⟨#[32, 9, 13]⟩] ((w.alloc (.cells #[.int .u8 10] 5)).drewN q) fun e w' => e = .returned (.slice (some ⟨b, off, none⟩) (remL xs) cap) ∧ Below (w.heap.size + 1) ((w.alloc (.cells #[.int .u8 10] 5)).drewN q) w') := fun q => by
  have := Tryz.bytes_TrimRight_laid (some ⟨b, off, none⟩) (lineL xs) cap (xs.take (lineL xs)) ⟨#[32, 9, 13]⟩ ((w.alloc (.cells #[.int .u8 10] 5)).drewN q) (by rw [List.length_take]; omega) (by omega) (by unfold maxLen at hcap'; omega)
   (fun _ => ⟨b, off, rfl, fun i hi => by
    show (w.alloc _).cell? _ = _
    rw [World.cell?_alloc_lt _ _ _ (show b < w.heap.size by omega), hc i (by omega), getD_take hi]⟩) hbt (by decide) (ascii_all (l := [32, 9, 13]) (by decide))
  rw [trim_is hbt] at this
  rw [show ((w.alloc (.cells #[.int .u8 10] 5)).drewN q).heap.size = w.heap.size + 1 by simp [World.drewN]] at this
  exact this
 have hr : remL xs ≤ n := by
  have := trimL_le (xs.take (lineL xs)); rw [List.length_take] at this; unfold remL; omega
 have h1 := HCUT.out w.heap.size rfl
 have H1 := Lib.hid h1
 clear HCUT h1 hcv hc hbt hb h
 have HCw : Hid (∀ q w', Below (w.heap.size + 1) ((w.alloc (.cells #[.int .u8 10] 5)).drewN q) w' → Below w.heap.size w w') := fun q w' hb => by
  have h2 := below_drewN ((Below.refl w.heap.size w).alloc (Nat.le_refl _) (.cells #[.int .u8 10] 5)) q
  exact h2.trans (hb.mono (by omega))
 generalize lineL xs = ln at *
 generalize remL xs = rm at *
 unfold maxLen at hcap'
 go_enter Tryz.func84, Tryz.ntmps84
 go_wp2_with fail
 refine H1.out.mono ?_
 rintro e w' ⟨rfl, q, rfl⟩
 go_wp2_with fail
 refine (HTR.out q).mono ?_
 rintro e w' ⟨rfl, hbel⟩
 go_wp2_with fail
 go_ret
 exact ⟨rfl, HCw.out q _ hbel⟩

set_option maxHeartbeats 1000000 in
/-- lex.next: the piece with which bytes begin. -/
theorem next_any (A : Option Addr) (n cap : Nat) (xs : List Int) (w : World) (B : Nat) (h : RB w B A xs) (hB : B ≤ w.heap.size) (hn : xs.length = n) (hn0 : 0 < n) (hcap : n ≤ cap) (hcap' : cap ≤ maxLen) (hsm : n ≤ 1000000) (hT : Tab w) :
  Calls Tryz.prog 64 #[.slice A n cap] w fun e w' => e = .returned (.tuple #[.int .i64 (piece xs).1, .int .i64 ((piece xs).2 : Nat)]) ∧ Below w.heap.size w w' := by
 have hb := h.byt
 cases xs with
 | nil => simp at hn; omega
 | cons c r =>
 have hpc := piece_cons c r
 obtain ⟨b, off, rfl, hbB, hc⟩ := h.cell (by simp)
 have hcell : w.cell? ⟨b, off, none⟩ = some (.int .u8 c) := by simpa using hc 0 (by omega)
 obtain ⟨hc0, hc1⟩ := hb c (by simp)
 have HBEG := Lib.hid (begin_any c w hc0 hc1)
 have hbel0 : Below w.heap.size w w := Below.refl _ _
 have Hn := Lib.hid hn
 have hcap2 := hcap'
 unfold maxLen at hcap2
 have hcapn : n ≤ 9223372036854775807 := by omega
 by_cases k1 : kd c = 1
 ·rw [if_pos k1] at hpc
  rw [hpc]
  rw [k1] at HBEG
  have HW := Lib.hid (word_any _ n cap (c :: r) w B h hn hn0 hcap hcap')
  clear k1 hpc hc hn h hb Hn hcap'
  generalize wordL (c :: r) = L at *
  go_enter Tryz.func64, Tryz.ntmps64
  go_wp2_with (first | (go_at_call 79; refine HBEG.out.mono ?_; rintro e w' ⟨rfl, rfl⟩) | (go_at_call 80; refine HW.out.mono ?_; rintro e w' ⟨rfl, rfl⟩))
  go_ret2
  exact ⟨rfl, hbel0⟩
 rw [if_neg k1] at hpc
 by_cases k2 : kd c = 2
 ·rw [if_pos k2] at hpc
  rw [hpc]
  have HW := Lib.hid (number_any _ n cap (c :: r) w B h hn hn0 (by simp [dig, k2]) hcap hcap')
  rw [k2] at HBEG
  clear k1 k2 hpc hc hn h hb Hn hcap'
  generalize numL (c :: r) = L at *
  go_enter Tryz.func64, Tryz.ntmps64
  go_wp2_with (first | (go_at_call 79; refine HBEG.out.mono ?_; rintro e w' ⟨rfl, rfl⟩) | (go_at_call 81; refine HW.out.mono ?_; rintro e w' ⟨rfl, rfl⟩))
  go_ret2
  exact ⟨rfl, hbel0⟩
 rw [if_neg k2] at hpc
 by_cases k3 : kd c = 3
 ·rw [if_pos k3] at hpc
  rw [hpc]
  have HW := Lib.hid (quoted_any _ n cap (c :: r) w B h hn hn0 hcap hcap' hsm)
  rw [k3] at HBEG
  clear k1 k2 k3 hpc hc hn h hb Hn hcap'
  generalize quoL (c :: r) = L at *
  go_enter Tryz.func64, Tryz.ntmps64
  go_wp2_with (first | (go_at_call 79; refine HBEG.out.mono ?_; rintro e w' ⟨rfl, rfl⟩) | (go_at_call 82; refine HW.out.mono ?_; rintro e w' ⟨rfl, rfl⟩))
  go_ret2
  exact ⟨rfl, hbel0⟩
 rw [if_neg k3] at hpc
 by_cases k4 : kd c = 4
 ·rw [if_pos k4] at hpc
  rw [k4] at HBEG
  have hbA : Below w.heap.size w (w.alloc (.cells #[.int .u8 47, .int .u8 47] 5 (2, 3))) := (Below.refl _ _).alloc (Nat.le_refl _) _
  have hA := h.below hbA hB
  have HPRE : Hid (∀ g, g = w.heap.size → Calls Tryz.prog 83 #[.slice (some ⟨b, off, none⟩) n cap, .slice (some ⟨g, 0, none⟩) 2 2] (w.alloc (.cells #[.int .u8 47, .int .u8 47] 5 (2, 3))) fun e w' => e = .returned (.bool (decide ((c :: r).take 2 = [47, 47]))) ∧ w.alloc (.cells #[.int .u8 47, .int .u8 47] 5 (2, 3)) = w') := fun g hg => by
   subst hg
   rw [← pre_two _ hb]
   refine (Tryz.bytes_HasPrefix_all _ _ n cap 2 2 (c :: r) [47, 47] _ hn rfl hcap (bytes_in hA hn) (bytes_in (rb_mark w [47, 47] 5 (2, 3) (by intro x hx; simp at hx; omega)) rfl)).mono fun _ _ ⟨he, hw⟩ => ⟨he, hw.symm⟩
  have HPRE1 := Lib.hid (HPRE.out _ rfl); clear HPRE
  have kc : (convert 30 30 (.slice (some ⟨w.heap.size, 0, none⟩) 2 2)).run Tryz.prog (w.alloc (.cells #[.int .u8 47, .int .u8 47] 5)) = .ok (.slice (some ⟨w.heap.size, 0, none⟩) 2 2) (w.alloc (.cells #[.int .u8 47, .int .u8 47] 5 (2, 3))) :=
   Lib.run_convert_bytes_const (P := Tryz.prog) w 30 5 _ 2 2 Tryz.underlying30 Tryz.underlying5
  by_cases h47 : (c :: r).take 2 = [47, 47]
  ·rw [if_pos h47] at hpc
   rw [hpc]
   rw [decide_eq_true h47] at HPRE1
   have HW := Lib.hid (remark_any _ n cap (c :: r) _ B hA (by simp; omega) hn hn0 hcap hcap' hsm)
   have HEND : Hid (∀ w', Below (w.alloc (.cells #[.int .u8 47, .int .u8 47] 5 (2, 3))).heap.size (w.alloc (.cells #[.int .u8 47, .int .u8 47] 5 (2, 3))) w' → Below w.heap.size w w') := fun w' hw => hbA.trans (hw.mono (by simp))
   clear k1 k2 k3 k4 hpc hc hn h hb Hn hcap' hA hbA h47
   generalize remL (c :: r) = L at *
   go_enter Tryz.func64, Tryz.ntmps64
   go_wp2_with (first | (go_at_call 79; refine HBEG.out.mono ?_; rintro e w' ⟨rfl, rfl⟩) | (go_at_call 83; refine HPRE1.out.mono ?_; rintro e w' ⟨rfl, rfl⟩) | (go_at_call 84; refine HW.out.mono ?_; rintro e w' ⟨rfl, hbl⟩))
   go_ret2
   exact ⟨rfl, HEND.out _ hbl⟩
  ·rw [if_neg h47] at hpc
   rw [hpc]
   rw [decide_eq_false h47] at HPRE1
   have HW := Lib.hid (mark_any _ n cap (c :: r) _ B hA hn hn0 hcap hcap' hsm (hT.below hbA hT.pos))
   have HEND : Hid (∀ q, Below w.heap.size w ((w.alloc (.cells #[.int .u8 47, .int .u8 47] 5 (2, 3))).drewN q)) := fun q => below_drewN hbA q
   clear k1 k2 k3 k4 hpc hc hn h hb Hn hcap' hA hbA h47
   generalize markL (c :: r) = L at *
   go_enter Tryz.func64, Tryz.ntmps64
   go_wp2_with (first | (go_at_call 79; refine HBEG.out.mono ?_; rintro e w' ⟨rfl, rfl⟩) | (go_at_call 83; refine HPRE1.out.mono ?_; rintro e w' ⟨rfl, rfl⟩) | (go_at_call 85; refine HW.out.mono ?_; rintro e w' ⟨rfl, q, rfl⟩))
   go_ret2
   exact ⟨rfl, HEND.out q⟩
 ·rw [if_neg k4] at hpc
  rw [hpc]
  generalize kd c = k at *
  have b1 := beq_no k1; have b2 := beq_no k2; have b3 := beq_no k3; have b4 := beq_no k4
  clear k1 k2 k3 k4 hpc hc hn h hb Hn hcap'
  go_enter Tryz.func64, Tryz.ntmps64
  go_wp2_with (go_at_call 79; refine HBEG.out.mono ?_; rintro e w' ⟨rfl, rfl⟩)
  go_ret2
  exact ⟨rfl, hbel0⟩

end Go.Proofs.YtaiihnniblibaaaGreatDoor.Lex
