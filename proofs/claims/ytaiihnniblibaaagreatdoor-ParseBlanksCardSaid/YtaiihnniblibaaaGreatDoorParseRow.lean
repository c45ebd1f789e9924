/-
 Layer 6 (parse): the row of tokens: next, done, take, is, throw, must, want, name; begin; node, none.
-/
import Derived.Test.YtaiihnniblibaaaGreatDoorJpB
import Derived.Test.YtaiihnniblibaaaGreatDoorLexWord
import Derived.Laws.Rows
namespace Go.Proofs.YtaiihnniblibaaaGreatDoor.Parse
open Go.ChangeShapes Go.WideShapes Go.ChangeAt Go.RowKit Tree MemT Mem
set_option linter.unusedVariables false

theorem hi_tok : (Tryz.prog.info? 75).map (·.size) = some 4 := by kernel_rfl
theorem hi_nd : (Tryz.prog.info? 24).map (·.size) = some 4 := by kernel_rfl

/-- The parser's cells. -/
theorem PSat.cells {w : World} {P z : Nat} {A : Option Addr} {n C k : Nat} {L : List Tk} {d : Nat} (h : PSat w P z A n C k L d) :
  w.cell? ⟨P, 0, none⟩ = some (.slice A n C) ∧ w.cell? ⟨P, 1, none⟩ = some (.int .i64 (k : Int)) ∧ w.cell? ⟨P, 2, none⟩ = some (.int .i64 (z : Int)) ∧ w.cell? ⟨P, 3, none⟩ = some (.int .i64 (d : Int)) := by
 have := h.blk
 simp [World.cell?, this]
theorem PSat.frz {w : World} {P z : Nat} {A : Option Addr} {n C k : Nat} {L : List Tk} {d : Nat} (h : PSat w P z A n C k L d) :
  w.frozen? ⟨P, 1, none⟩ = false ∧ w.frozen? ⟨P, 3, none⟩ = false := by
 have := h.blk
 simp [World.frozen?, this]
/-- The next token's cells. -/
theorem PSat.tok {w : World} {P z : Nat} {A : Option Addr} {n C k : Nat} {L : List Tk} {d : Nat} (h : PSat w P z A n C k L d) {t : Tk} {r : List Tk} (ht : L.drop k = t :: r) :
  ∃ b, A = some ⟨b, 0, none⟩ ∧ b < P ∧ k < n ∧ w.cell? ⟨b, k * 4, none⟩ = some (.int .i64 t.kind) ∧ w.cell? ⟨b, k * 4 + 1, none⟩ = some (.string t.x) ∧ w.cell? ⟨b, k * 4 + 2, none⟩ = some (.int .i64 (t.place : Int)) ∧ w.cell? ⟨b, k * 4 + 3, none⟩ = some (.bool t.first) := by
 have hk : k < L.length := by
  rcases Nat.lt_or_ge k L.length with h' | h'
  ·exact h'
  ·rw [List.drop_eq_nil_of_le h'] at ht; cases ht
 have hg : L[k]? = some t := by
  have := congrArg (·[0]?) ht
  simpa using this
 obtain ⟨b, e, hb, hc⟩ := h.rt.at_ (by omega)
 exact ⟨b, e, hb, by rw [← h.len]; exact hk, by simpa using hc k t hg 0 _ rfl, hc k t hg 1 _ rfl, hc k t hg 2 _ rfl, hc k t hg 3 _ rfl⟩

set_option maxHeartbeats 1000000 in
theorem done_any (P z : Nat) (l : List Tk) (d : Nat) (w : World) (h : PS w P z l d) :
  Calls Tryz.prog 51 #[.pointer (some ⟨P, 0, none⟩)] w fun e w' => e = .returned (.bool (decide (l.length = 0))) ∧ ∃ q, w' = w.drewN q := by
 obtain ⟨A, n, C, k, L, h, rfl⟩ := h
 obtain ⟨c0, c1, c2, c3⟩ := h.cells
 have hl := h.len
 have hk := h.hk
 have e : decide ((L.drop k).length = 0) = decide (n ≤ k) := by
  rw [List.length_drop]; apply Bool.eq_iff_iff.2; simp only [decide_eq_true_eq]; omega
 rw [e]
 clear e hl h
 go_enter Tryz.func51, Tryz.ntmps51
 go_wp2
 go_quiet (fail)
 go_wp2
 go_ret
 exact ⟨rfl, _, rfl⟩

def TNext (w : World) (t : Tk) (e : Ending) (w' : World) : Prop := e = .returned (tkV t) ∧ Below w.heap.size w w'
set_option maxHeartbeats 1000000 in
theorem next_any (P z : Nat) (l : List Tk) (d : Nat) (w : World) (h : PS w P z l d) :
  Calls Tryz.prog 45 #[.pointer (some ⟨P, 0, none⟩)] w (TNext w (hd z l)) := by
 have HD := Lib.hid (done_any P z l d (w.alloc (.cells #[.int .i64 0, .string ⟨#[]⟩, .int .i64 0, .bool false] 75)) (h.alloc _))
 obtain ⟨A, n, C, k, L, h, rfl⟩ := h
 have hP := lt_block h.blk
 obtain ⟨c0, c1, c2, c3⟩ := h.cells
 cases hl : L.drop k with
 | nil =>
  have e : decide ((L.drop k).length = 0) = true := by rw [hl]; rfl
  rw [e] at HD
  clear h e hl
  go_enter Tryz.func45, Tryz.ntmps45
  go_wp2_with fail
  refine HD.out.mono ?_
  rintro e w' ⟨rfl, q, rfl⟩
  go_wp2
  have hbx : Box4 ((w.alloc (.cells #[.int .i64 0, .string ⟨#[]⟩, .int .i64 0, .bool false] 75)).drewN q) w.heap.size 75 (.int .i64 0) (.string ⟨#[]⟩) (.int .i64 0) (.bool false) := box4_new w _ _ _ _ _
  refine bodyPost_ret (results_cell_row rfl _ _ w.heap.size 75 _ (0, 0) _ rfl (hbx.set4 _ _ _ _) Tryz.underlying75 rfl hi_tok) rfl ?_
  exact ⟨rfl, below_set4 (bel_drewN ((Below.refl _ _).alloc (Nat.le_refl _) _) q) (Nat.le_refl _) _ _ _ _⟩
 | cons t r =>
  have e : decide ((L.drop k).length = 0) = false := by rw [hl]; rfl
  rw [e] at HD
  obtain ⟨b, rfl, hb, hkn, d0, d1, d2, d3⟩ := h.tok hl
  have hkn' : (k : Int) < (n : Int) := by omega
  have hk0 : (0 : Int) ≤ (k : Int) := by omega
  have hbw : b < w.heap.size := by omega
  clear h e hl
  go_enter Tryz.func45, Tryz.ntmps45
  go_wp2_with fail
  refine HD.out.mono ?_
  rintro e w' ⟨rfl, q, rfl⟩
  go_wp2
  go_region
  all_goals go_wp2
  all_goals
   have hbx : Box4 ((w.alloc (.cells #[.int .i64 0, .string ⟨#[]⟩, .int .i64 0, .bool false] 75)).drewN (q + 1)) w.heap.size 75 (.int .i64 0) (.string ⟨#[]⟩) (.int .i64 0) (.bool false) := box4_new w _ _ _ _ _
   refine bodyPost_ret (results_cell_row rfl _ _ w.heap.size 75 _ (0, 0) _ rfl (hbx.set4 _ _ _ _) Tryz.underlying75 rfl hi_tok) rfl ?_
   exact ⟨rfl, below_set4 (bel_drewN ((Below.refl _ _).alloc (Nat.le_refl _) _) (q + 1)) (Nat.le_refl _) _ _ _ _⟩

theorem nmI_byt (x : ByteArray) : Utf.Byt (nmI x) := fun y hy => by
 unfold nmI at hy
 obtain ⟨b, _, rfl⟩ := List.mem_map.1 hy
 have := b.toNat_lt
 omega
theorem str_nmI (x : ByteArray) : strOfNums (nmI x) = x := by
 apply ba_toList
 rw [Lib.strOfNums_toList]
 unfold nmI Lib.bytesOf
 rw [List.map_map]
 conv => rhs; rw [← List.map_id x.toList]
 apply List.map_congr_left
 intro b _
 simp
theorem lexWord_any (x : ByteArray) (w : World) : Calls Tryz.prog 63 #[.string x] w fun e w' => e = .returned (.bool (Lex.isWord (nmI x))) ∧ w = w' := by
 have := Lex.word_is (nmI x) (nmI_byt x) w
 rwa [str_nmI] at this
set_option maxHeartbeats 1000000 in
theorem isName_any (t : Tk) (w : World) : Calls Tryz.prog 86 #[tkV t] w fun e w' => e = .returned (.bool (isNm t)) ∧ Below w.heap.size w w' := by
 obtain ⟨k, x, pl, fi⟩ := t
 have hb := (Below.refl w.heap.size w).alloc (Nat.le_refl _) (.cells #[.int .i64 k, .string x, .int .i64 (pl : Int), .bool fi] 75)
 unfold isNm tkV
 cases hk : (k == 1) with
 | false =>
  have HB := Lib.hid hb
  clear hb
  go_enter Tryz.func86, Tryz.ntmps86
  go_wp2
  go_ret
  exact ⟨rfl, HB.out⟩
 | true =>
  have HW := Lib.hid (lexWord_any x (w.alloc (.cells #[.int .i64 k, .string x, .int .i64 (pl : Int), .bool fi] 75)))
  have HB := Lib.hid hb
  clear hb
  go_enter Tryz.func86, Tryz.ntmps86
  go_wp2_with fail
  refine HW.out.mono ?_
  rintro e w' ⟨rfl, rfl⟩
  go_wp2
  go_ret
  exact ⟨rfl, HB.out⟩
theorem fld0 (k : Int) (x : ByteArray) (pl : Int) (fi : Bool) (w : World) : (Instr.field 75 (.agg #[.int .i64 k, .string x, .int .i64 pl, .bool fi]) 0).run Tryz.prog w = .ok (.int .i64 k) w := by kernel_rfl
theorem fld1 (k : Int) (x : ByteArray) (pl : Int) (fi : Bool) (w : World) : (Instr.field 75 (.agg #[.int .i64 k, .string x, .int .i64 pl, .bool fi]) 1).run Tryz.prog w = .ok (.string x) w := by kernel_rfl
theorem fld2 (k : Int) (x : ByteArray) (pl : Int) (fi : Bool) (w : World) : (Instr.field 75 (.agg #[.int .i64 k, .string x, .int .i64 pl, .bool fi]) 2).run Tryz.prog w = .ok (.int .i64 pl) w := by kernel_rfl
set_option maxHeartbeats 1000000 in
set_option maxRecDepth 100000 in
theorem is_any (s : ByteArray) (P z : Nat) (l : List Tk) (d : Nat) (w : World) (h : PS w P z l d) :
  Calls Tryz.prog 50 #[.pointer (some ⟨P, 0, none⟩), .string s] w fun e w' => e = .returned (.bool (isT (hd z l) s.toList)) ∧ Below w.heap.size w w' := by
 have HN := Lib.hid (next_any P z l d w h)
 clear h
 unfold isT
 generalize hd z l = t at *
 obtain ⟨k, x, pl, fi⟩ := t
 go_enter Tryz.func50, Tryz.ntmps50
 go_wp2_with fail
 refine HN.out.mono ?_
 rintro e w' ⟨rfl, hb⟩
 unfold tkV
 have HB := Lib.hid hb
 have hf := fld1 k x pl fi
 clear hb
 go_wp2
 go_ret
 exact ⟨rfl, HB.out⟩

/-- One token more is taken. -/
theorem PSat.take {w : World} {P z : Nat} {A : Option Addr} {n C k : Nat} {L : List Tk} {d : Nat} (h : PSat w P z A n C k L d) (hk : k < n) (v : Int) (hv : v = (k : Int) + 1) : PSat (w.setCell ⟨P, 1, none⟩ (.int .i64 v)) P z A n C (k + 1) L d := by
 refine ⟨?_, ?_, h.len, hk, h.hn, h.hC, h.hCm⟩
 ·have := h.blk
  subst hv
  simp [World.setCell, Array.getElem?_modify, this]
 ·rcases h.rt with e | ⟨b, e, hl, hc⟩
  ·exact .inl e
  ·exact .inr ⟨b, e, hl, fun i x hx j u hu => (World.cell?_of_block (w := w) (a := ⟨b, i * 4 + j, none⟩) (Below.heap_setCell _ _ _ _ (by show b ≠ P; omega))).trans (hc i x hx j u hu)⟩
theorem PSat.deep {w : World} {P z : Nat} {A : Option Addr} {n C k : Nat} {L : List Tk} {d : Nat} (h : PSat w P z A n C k L d) (d' : Nat) (v : Int) (hv : v = (d' : Int)) : PSat (w.setCell ⟨P, 3, none⟩ (.int .i64 v)) P z A n C k L d' := by
 refine ⟨?_, ?_, h.len, h.hk, h.hn, h.hC, h.hCm⟩
 ·have := h.blk
  subst hv
  simp [World.setCell, Array.getElem?_modify, this]
 ·rcases h.rt with e | ⟨b, e, hl, hc⟩
  ·exact .inl e
  ·exact .inr ⟨b, e, hl, fun i x hx j u hu => (World.cell?_of_block (w := w) (a := ⟨b, i * 4 + j, none⟩) (Below.heap_setCell _ _ _ _ (by show b ≠ P; omega))).trans (hc i x hx j u hu)⟩
theorem PS.deep {w : World} {P z : Nat} {l : List Tk} {d : Nat} (h : PS w P z l d) (d' : Nat) (v : Int) (hv : v = (d' : Int)) : PS (w.setCell ⟨P, 3, none⟩ (.int .i64 v)) P z l d' := by
 obtain ⟨A, n, C, k, L, h, e⟩ := h
 exact ⟨A, n, C, k, L, h.deep d' v hv, e⟩
theorem PS.depth {w : World} {P z : Nat} {l : List Tk} {d : Nat} (h : PS w P z l d) : w.cell? ⟨P, 3, none⟩ = some (.int .i64 (d : Int)) ∧ w.frozen? ⟨P, 3, none⟩ = false := by
 obtain ⟨A, n, C, k, L, h, e⟩ := h
 exact ⟨h.cells.2.2.2, h.frz.2⟩

set_option maxHeartbeats 1000000 in
theorem throw_any (er : Int) (P z : Nat) (l : List Tk) (d : Nat) (w : World) (h : PS w P z l d) :
  Calls Tryz.prog 75 #[.pointer (some ⟨P, 0, none⟩), .int .i64 er] w fun e w' => e = .panicked (pan (hd z l).place er) ∧ Below w.heap.size w w' := by
 have HN := Lib.hid (next_any P z l d w h)
 clear h
 unfold pan
 generalize hd z l = t at *
 obtain ⟨k, x, pl, fi⟩ := t
 go_enter Tryz.func75, Tryz.ntmps75
 go_wp2_with fail
 refine HN.out.mono ?_
 rintro e w' ⟨rfl, hb⟩
 unfold tkV
 have HB := Lib.hid hb
 have hf := fld2 k x pl fi
 clear hb
 go_wp2
 exact ⟨rfl, rfl, HB.out⟩
set_option maxHeartbeats 1000000 in
theorem must_yes (P : Nat) (w : World) :
  Calls Tryz.prog 49 #[.pointer (some ⟨P, 0, none⟩), .bool true] w fun e w' => e = .returned (.tuple #[]) ∧ w' = w := by
 go_enter Tryz.func49, Tryz.ntmps49
 go_wp2
 go_end0
 exact ⟨rfl, rfl⟩
set_option maxHeartbeats 1000000 in
theorem must_no (P z : Nat) (l : List Tk) (d : Nat) (w : World) (h : PS w P z l d) :
  Calls Tryz.prog 49 #[.pointer (some ⟨P, 0, none⟩), .bool false] w fun e w' => e = .panicked (pan (hd z l).place 5) ∧ Below w.heap.size w w' := by
 have HN := Lib.hid (throw_any 5 P z l d w h)
 clear h
 generalize hd z l = t at *
 go_enter Tryz.func49, Tryz.ntmps49
 go_wp2_with fail
 refine HN.out.mono ?_
 rintro e w' ⟨rfl, hb⟩
 have HB := Lib.hid hb
 clear hb
 go_wp2
 exact ⟨rfl, rfl, HB.out⟩
set_option maxHeartbeats 1000000 in
theorem take_any (P z : Nat) (t : Tk) (r : List Tk) (d : Nat) (w : World) (h : PS w P z (t :: r) d) :
  Calls Tryz.prog 68 #[.pointer (some ⟨P, 0, none⟩)] w (RPost TV w P z d (.ok t r)) := by
 have hbx0 : Box4 (w.alloc (.cells #[.int .i64 0, .string ⟨#[]⟩, .int .i64 0, .bool false] 75)) w.heap.size 75 (.int .i64 0) (.string ⟨#[]⟩) (.int .i64 0) (.bool false) := box4_new w _ _ _ _ _
 have hb0 : Below w.heap.size w (w.alloc (.cells #[.int .i64 0, .string ⟨#[]⟩, .int .i64 0, .bool false] 75)) := (Below.refl _ _).alloc (Nat.le_refl _) _
 have hs0 : (w.alloc (.cells #[.int .i64 0, .string ⟨#[]⟩, .int .i64 0, .bool false] 75)).heap.size = w.heap.size + 1 := by simp
 have h0 := h.alloc (.cells #[.int .i64 0, .string ⟨#[]⟩, .int .i64 0, .bool false] 75)
 have HN := Lib.hid (next_any P z _ d _ h0)
 have hlt := h.lt
 simp only [hd] at HN
 have HB0 := Lib.hid hb0; have HX := Lib.hid hbx0; have H0 := Lib.hid h0; have HS := Lib.hid hs0
 clear hb0 hbx0 h0 h hs0
 go_enter Tryz.func68, Tryz.ntmps68
 go_wp2_with fail
 refine HN.out.mono ?_
 rintro e W ⟨rfl, hb⟩
 have hps := H0.out.later hb
 have hbx := HX.out.later hb
 have hbw := HB0.out.trans (hb.mono (by rw [HS.out]; omega))
 have hsz : w.heap.size < W.heap.size := by have := hb.size; rw [HS.out] at this; omega
 obtain ⟨A, n, C, k, L, hq, hl⟩ := hps
 obtain ⟨b, rfl, hbP, hkn, _⟩ := hq.tok hl.symm
 obtain ⟨c0, c1, c2, c3⟩ := hq.cells
 obtain ⟨f1, f3⟩ := hq.frz
 have hn := hq.hn
 have hne : W.heap.size ≠ P := by omega
 have hne2 : P ≠ W.heap.size := by omega
 have hPW : P < W.heap.size := by omega
 have HQ := Lib.hid hq; have HX1 := Lib.hid hbx; have HBW := Lib.hid hbw; have HL := Lib.hid hl
 obtain ⟨g0, g1, g2, g3⟩ := hbx.frz
 obtain ⟨x0, x1, x2, x3⟩ := hbx.cells
 have hR1 : w.heap.size ≠ P := by omega
 have hR2 : w.heap.size ≠ W.heap.size := by omega
 obtain ⟨k', x, pl, fi⟩ := t
 unfold tkV
 clear HN hb hq hbx hbw hl HB0 HX H0 HS c0 c2 c3 f3
 go_wp2
 have hq' := (HQ.out.take hkn _ rfl)
 have hps' : PS (W.setCell ⟨P, 1, none⟩ (.int .i64 ((k : Int) + 1))) P z r d := ⟨_, n, C, k + 1, L, hq', by
  have := congrArg List.tail HL.out
  simpa using this⟩
 have hbx' := ((HX1.out.other (p := ⟨P, 1, none⟩) (Ne.symm hR1) (.int .i64 ((k : Int) + 1))).set4 (.int .i64 k') (.string x) (.int .i64 (pl : Int)) (.bool fi)).later ((Below.refl _ _).alloc (Nat.le_refl _) (.cells #[.int .i64 k', .string x, .int .i64 (pl : Int), .bool fi] 75))
 refine bodyPost_ret (results_cell_row rfl _ _ w.heap.size 75 _ (0, 0) _ rfl hbx' Tryz.underlying75 rfl hi_tok) rfl ?_
 exact ⟨_, rfl, rfl, (ps_set4 hps' hlt _ _ _ _).alloc _, (bes_set4 ((Bes.of HBW.out P).set (.inl rfl) _) (Nat.le_refl _) _ _ _ _).alloc _⟩

set_option maxHeartbeats 1000000 in
theorem want_any (s : ByteArray) (u : List UInt8) (hu : s.toList = u) (P z : Nat) (l : List Tk) (d : Nat) (hne : u ≠ []) (w : World) (h : PS w P z l d) :
  Calls Tryz.prog 70 #[.pointer (some ⟨P, 0, none⟩), .string s] w (RPost UV w P z d (want z u l)) := by
 have HI := Lib.hid (is_any s P z l d w h)
 have H := Lib.hid h
 have hw : want z u l = want z u l := rfl
 conv at hw => rhs; unfold want
 rw [hu] at HI
 cases hb : isT (hd z l) u with
 | true =>
  rw [hb] at HI hw
  rw [if_pos rfl] at hw
  obtain ⟨t, r, rfl⟩ : ∃ t r, l = t :: r := by
   cases l with
   | nil =>
    exfalso
    simp only [hd, isT, e0, beq_iff_eq] at hb
    exact hne (by rw [← hb]; simp)
   | cons t r => exact ⟨t, r, rfl⟩
  rw [hw]
  clear h hb hw hu hne
  go_enter Tryz.func70, Tryz.ntmps70
  go_wp2_with fail
  refine HI.out.mono ?_
  rintro e w1 ⟨rfl, hb1⟩
  have HB1 := Lib.hid hb1
  have HT := Lib.hid (take_any P z t r d w1 (H.out.later hb1))
  clear hb1
  go_wp2_with fail
  refine (must_yes P w1).mono ?_
  rintro e w2 ⟨rfl, rfl⟩
  go_wp2_with fail
  refine HT.out.mono ?_
  rintro e w3 ⟨v, rfl, rfl, hps, hbe⟩
  have HPS := Lib.hid hps; have HBE := Lib.hid hbe
  clear hps hbe
  go_wp2
  go_end0
  exact ⟨_, rfl, rfl, HPS.out, (Bes.of HB1.out P).trans HBE.out⟩
 | false =>
  rw [hb] at HI hw
  rw [if_neg (by decide)] at hw
  rw [hw]
  clear h hb hw hu hne
  go_enter Tryz.func70, Tryz.ntmps70
  go_wp2_with fail
  refine HI.out.mono ?_
  rintro e w1 ⟨rfl, hb1⟩
  have HB1 := Lib.hid hb1
  have HM := Lib.hid (must_no P z l d w1 (H.out.later hb1))
  clear hb1
  go_wp2_with fail
  refine HM.out.mono ?_
  rintro e w2 ⟨rfl, hb2⟩
  have HB2 := Lib.hid hb2
  clear hb2
  go_wp2
  exact ⟨rfl, rfl, Bes.of (HB1.out.trans (HB2.out.mono HB1.out.size)) P⟩

theorem nm_cons {z : Nat} {l : List Tk} (h : isNm (hd z l) = true) : ∃ t r, l = t :: r := by
 cases l with
 | nil => simp [hd, isNm] at h
 | cons t r => exact ⟨t, r, rfl⟩
set_option maxHeartbeats 1000000 in
theorem name_any (P z : Nat) (l : List Tk) (d : Nat) (w : World) (h : PS w P z l d) :
  Calls Tryz.prog 69 #[.pointer (some ⟨P, 0, none⟩)] w (RPost SV w P z d (name z l)) := by
 have HN := Lib.hid (next_any P z l d w h)
 have H := Lib.hid h
 have hw : name z l = name z l := rfl
 conv at hw => rhs; unfold name
 cases hb : isNm (hd z l) with
 | true =>
  rw [hb, if_pos rfl] at hw
  obtain ⟨t, r, rfl⟩ := nm_cons hb
  rw [hw]
  simp only [hd, List.tail_cons] at *
  have HI := Lib.hid (fun W => isName_any t W)
  rw [hb] at HI
  clear h hb hw
  go_enter Tryz.func69, Tryz.ntmps69
  go_wp2_with fail
  refine HN.out.mono ?_
  rintro e w1 ⟨rfl, hb1⟩
  have HB1 := Lib.hid hb1
  clear hb1
  go_wp2_with fail
  refine (HI.out w1).mono ?_
  rintro e w2 ⟨rfl, hb2⟩
  have HB2 := Lib.hid (HB1.out.trans (hb2.mono HB1.out.size))
  have HT := Lib.hid (take_any P z t r d w2 (H.out.later HB2.out))
  clear hb2
  go_wp2_with fail
  refine (must_yes P w2).mono ?_
  rintro e w3 ⟨rfl, rfl⟩
  go_wp2_with fail
  refine HT.out.mono ?_
  rintro e w3 ⟨v, rfl, rfl, hps, hbe⟩
  have HPS := Lib.hid hps; have HBE := Lib.hid hbe
  clear hps hbe
  obtain ⟨k, x, pl, fi⟩ := t
  have hf := fld1 k x pl fi
  unfold tkV
  go_wp2
  go_ret
  exact ⟨_, rfl, rfl, HPS.out, (Bes.of HB2.out P).trans HBE.out⟩
 | false =>
  rw [hb, if_neg (by decide)] at hw
  rw [hw]
  have HI := Lib.hid (fun W => isName_any (hd z l) W)
  rw [hb] at HI
  clear h hb hw
  go_enter Tryz.func69, Tryz.ntmps69
  go_wp2_with fail
  refine HN.out.mono ?_
  rintro e w1 ⟨rfl, hb1⟩
  have HB1 := Lib.hid hb1
  clear hb1
  go_wp2_with fail
  refine (HI.out w1).mono ?_
  rintro e w2 ⟨rfl, hb2⟩
  have HB2 := Lib.hid (HB1.out.trans (hb2.mono HB1.out.size))
  have HM := Lib.hid (must_no P z l d w2 (H.out.later HB2.out))
  clear hb2
  go_wp2_with fail
  refine HM.out.mono ?_
  rintro e w3 ⟨rfl, hb3⟩
  have HB3 := Lib.hid hb3
  clear hb3
  go_wp2
  exact ⟨rfl, rfl, Bes.of (HB2.out.trans (HB3.out.mono HB2.out.size)) P⟩

/-- begin, where there is a next token if it fits. -/
theorem begin_any (f : Bool) (P z : Nat) (l : List Tk) (d : Nat) (hne : f = true → l ≠ []) (hd1 : d ≤ 100000) (w : World) (h : PS w P z l d) :
  Calls Tryz.prog 66 #[.pointer (some ⟨P, 0, none⟩), .bool f] w (RPost TV w P z d (beg z f d l)) := by
 have hw : beg z f d l = beg z f d l := rfl
 conv at hw => rhs; unfold beg
 have hb0 : Below w.heap.size w (w.alloc (.cells #[.int .i64 0, .string ⟨#[]⟩, .int .i64 0, .bool false] 75)) := (Below.refl _ _).alloc (Nat.le_refl _) _
 have hbx0 : Box4 (w.alloc (.cells #[.int .i64 0, .string ⟨#[]⟩, .int .i64 0, .bool false] 75)) w.heap.size 75 (.int .i64 0) (.string ⟨#[]⟩) (.int .i64 0) (.bool false) := box4_new w _ _ _ _ _
 have hlt := h.lt
 have h0 := h.alloc (.cells #[.int .i64 0, .string ⟨#[]⟩, .int .i64 0, .bool false] 75)
 have hs0 : (w.alloc (.cells #[.int .i64 0, .string ⟨#[]⟩, .int .i64 0, .bool false] 75)).heap.size = w.heap.size + 1 := by simp
 have HS := Lib.hid hs0
 cases f with
 | false =>
  have HM := Lib.hid (must_no P z l d _ h0)
  have HB0 := Lib.hid hb0
  rw [hw, if_neg (by decide)]
  clear h hw hb0 hbx0 h0 hne hs0
  go_enter Tryz.func66, Tryz.ntmps66
  go_wp2_with fail
  refine HM.out.mono ?_
  rintro e w1 ⟨rfl, hb1⟩
  have HB1 := Lib.hid hb1
  clear hb1
  go_wp2
  exact ⟨rfl, rfl, Bes.of (HB0.out.trans (HB1.out.mono (by rw [HS.out]; omega))) P⟩
 | true =>
  rw [if_pos rfl] at hw
  by_cases hdd : 256 < d
  ·have HM := Lib.hid (throw_any 6 P z l d _ h0)
   have HB0 := Lib.hid hb0
   have HMY := Lib.hid (fun W => must_yes P W)
   rw [hw, if_pos hdd]
   have hd' : decide ((256 : Int) < (d : Int)) = true := by rw [decide_eq_true_eq]; omega
   obtain ⟨c3, f3⟩ := h0.depth
   clear h hw hb0 hbx0 h0 hne hs0 f3
   go_enter Tryz.func66, Tryz.ntmps66
   go_wp2_with fail
   refine (HMY.out _).mono ?_
   rintro e w1 ⟨rfl, rfl⟩
   go_wp2_with fail
   refine HM.out.mono ?_
   rintro e w1 ⟨rfl, hb1⟩
   have HB1 := Lib.hid hb1
   clear hb1
   go_wp2
   exact ⟨rfl, rfl, Bes.of (HB0.out.trans (HB1.out.mono (by rw [HS.out]; omega))) P⟩
  ·obtain ⟨t, r, rfl⟩ : ∃ t r, l = t :: r := by
    cases l with
    | nil => exact absurd rfl (hne rfl)
    | cons t r => exact ⟨t, r, rfl⟩
   have HT := Lib.hid (take_any P z t r d _ h0)
   have HB0 := Lib.hid hb0
   have HX0 := Lib.hid hbx0
   have HMY := Lib.hid (fun W => must_yes P W)
   rw [hw, if_neg hdd]
   simp only [hd, List.tail_cons]
   obtain ⟨c3, f3⟩ := h0.depth
   clear h hw hb0 hbx0 h0 hne hs0 f3
   go_enter Tryz.func66, Tryz.ntmps66
   go_wp2_with fail
   refine (HMY.out _).mono ?_
   rintro e w1 ⟨rfl, rfl⟩
   go_wp2_with fail
   refine HT.out.mono ?_
   rintro e w1 ⟨v, rfl, rfl, hps, hbe⟩
   have hbx := HX0.out.bes hbe (by omega)
   have HX := Lib.hid hbx
   have HPS := Lib.hid hps; have HBE := Lib.hid hbe
   obtain ⟨g0, g1, g2, g3⟩ := hbx.frz
   obtain ⟨x0, x1, x2, x3⟩ := hbx.cells
   obtain ⟨k, x, pl, fi⟩ := t
   unfold tkV
   clear hps hbe hbx c3
   go_wp2
   refine bodyPost_ret (results_cell_row rfl _ _ w.heap.size 75 _ (0, 0) _ rfl (HX.out.set4 _ _ _ _) Tryz.underlying75 rfl hi_tok) rfl ?_
   exact ⟨_, rfl, rfl, ps_set4 HPS.out hlt _ _ _ _, bes_set4 ((Bes.of HB0.out P).trans HBE.out) (Nat.le_refl _) _ _ _ _⟩

/-- A new node. -/
theorem node_any (k : Int) (x : ByteArray) (A : Option Addr) (n C : Nat) (w : World) :
  Calls Tryz.prog 52 #[.int .i64 k, .string x, .slice A n C] w fun e w' => e = .returned (.agg #[.int .i64 k, .string x, .string e0, .slice A n C]) ∧ Below w.heap.size w w' := by
 go_enter Tryz.func52, Tryz.ntmps52
 go_wp2
 refine bodyPost_ret (results_cell_row rfl _ _ w.heap.size 24 #[.int .i64 k, .string x, .string ⟨#[]⟩, .slice A n C] (0, 0) _ rfl (heap_alloc_new _ _) Tryz.underlying24 rfl hi_nd) rfl ?_
 exact ⟨rfl, (Below.refl _ _).alloc (Nat.le_refl _) _⟩
theorem none_any (w : World) :
  Calls Tryz.prog 92 #[] w fun e w' => e = .returned (.agg #[.int .i64 33, .string e0, .string e0, .slice none 0 0]) ∧ Below w.heap.size w w' := by
 have HN := Lib.hid (node_any 33 ⟨#[]⟩ none 0 0 (w.alloc (.cells #[.int .i64 0, .string ⟨#[]⟩, .string ⟨#[]⟩, .slice none 0 0] 24)))
 have hbx0 : Box4 (w.alloc (.cells #[.int .i64 0, .string ⟨#[]⟩, .string ⟨#[]⟩, .slice none 0 0] 24)) w.heap.size 24 (.int .i64 0) (.string ⟨#[]⟩) (.string ⟨#[]⟩) (.slice none 0 0) := box4_new w _ _ _ _ _
 have HX0 := Lib.hid hbx0
 have hb0 : Below w.heap.size w (w.alloc (.cells #[.int .i64 0, .string ⟨#[]⟩, .string ⟨#[]⟩, .slice none 0 0] 24)) := (Below.refl _ _).alloc (Nat.le_refl _) _
 have HB0 := Lib.hid hb0
 clear hbx0 hb0
 go_enter Tryz.func92, Tryz.ntmps92
 go_wp2_with fail
 refine HN.out.mono ?_
 rintro e w1 ⟨rfl, hb1⟩
 have hbx := HX0.out.later hb1
 have HX := Lib.hid hbx
 have HB := Lib.hid (HB0.out.trans (hb1.mono HB0.out.size))
 obtain ⟨g0, g1, g2, g3⟩ := hbx.frz
 obtain ⟨x0, x1, x2, x3⟩ := hbx.cells
 unfold e0
 clear hb1 hbx
 go_wp2
 refine bodyPost_ret (results_cell_row rfl _ _ w.heap.size 24 _ (0, 0) _ rfl (HX.out.set4 _ _ _ _) Tryz.underlying24 rfl hi_nd) rfl ?_
 exact ⟨rfl, below_set4 HB.out (Nat.le_refl _) _ _ _ _⟩
end Go.Proofs.YtaiihnniblibaaaGreatDoor.Parse
