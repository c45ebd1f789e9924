import Derived.Test.YtaiihnniblibaaaGreatDoorParseFile
import Derived.Tactics
import Derived.Tactics2
import Derived.Defers
import Derived.Recover
import Derived.Laws.Pointers

/-
 Layer 6 (parse): what is thrown is caught.
-/
namespace Go.Proofs.YtaiihnniblibaaaGreatDoor.Parse
open Go.ChangeShapes Go.WideShapes Go.ChangeAt Go.RowKit Tree MemT Mem
set_option linter.unusedVariables false

theorem ta_nil (w : World) : (Instr.typeAssert .nilIface 20 58 true).run Tryz.prog w = .ok (.tuple #[.agg #[.int .i64 0, .int .i64 0], .bool false]) w := by kernel_rfl
theorem ta_mis (p er : Int) (w : World) : (Instr.typeAssert (.iface 58 (.agg #[.int .i64 p, .int .i64 er])) 20 58 true).run Tryz.prog w = .ok (.tuple #[.agg #[.int .i64 p, .int .i64 er], .bool true]) w := by kernel_rfl
theorem rep13 : Array.replicate 13 undef = #[undef, undef, undef, undef, undef, undef, undef, undef, undef, undef, undef, undef, undef] := rfl
set_option maxHeartbeats 4000000 in
set_option maxRecDepth 100000 in
theorem catch_idle (a b c : Addr) (w : World) :
  CallsD Tryz.prog 27 #[.pointer (some a), .pointer (some b), .pointer (some c)] .returning w fun e u' w' => e = .returned (.tuple #[]) ∧ u' = .returning ∧ Below w.heap.size w w' := by
 refine callsD_of_wpS Tryz.func27 rfl fun c₀ cs hu => ?_
 apply wpS_seq
 apply wpS_region
 simp [wpOpsS, go_sem, recoverD, hu, ta_nil, rep13, Tryz.ntmps27, Exit.thenS]
 refine wpS_of_wp ?_
 go_wp2
 exact ⟨rfl, c₀.mode, rfl, _, by simp [results, Tryz.results27, go_sem], rfl, hu, (Below.refl _ _).alloc (Nat.le_refl _) _⟩
set_option maxHeartbeats 4000000 in
set_option maxRecDepth 100000 in
theorem catch_thrown (R : Nat) (p : Nat) (er : Int) (w : World) (n0 n1 n2 n3 : Value) (i1 i2 : Value) (h0 : Box4 w R 24 n0 n1 n2 n3) (h1 : w.heap[R + 1]? = some (.cells #[i1] 3 (0, 0))) (h2 : w.heap[R + 2]? = some (.cells #[i2] 27 (0, 0))) :
  CallsD Tryz.prog 27 #[.pointer (some ⟨R, 0, none⟩), .pointer (some ⟨R + 1, 0, none⟩), .pointer (some ⟨R + 2, 0, none⟩)] (.panicking (pan p er)) w fun e u' w' =>
   e = .returned (.tuple #[]) ∧ u' = .panicking [{ v := .iface 58 (.agg #[.int .i64 (p : Int), .int .i64 er]), recovered := true }] ∧
    Box4 w' R 24 (.int .i64 0) (.string ⟨#[]⟩) (.string ⟨#[]⟩) (.slice none 0 0) ∧ w'.heap[R + 1]? = some (.cells #[.int .i64 (p : Int)] 3 (0, 0)) ∧ w'.heap[R + 2]? = some (.cells #[.int .i64 er] 27 (0, 0)) ∧ Below R w w' := by
 refine callsD_of_wpS Tryz.func27 rfl fun c₀ cs hu => ?_
 apply wpS_seq
 apply wpS_region
 unfold pan at hu
 simp [wpOpsS, go_sem, recoverD, hu, ta_mis, rep13, Tryz.ntmps27, Exit.thenS]
 have hlt := h0.lt
 have hl1 := lt_block h1
 have hl2 := lt_block h2
 have hb := (Below.refl w.heap.size w).alloc (Nat.le_refl _) (.cells #[.int .i64 (p : Int), .int .i64 er] 58)
 obtain ⟨c0, c1, c2, c3⟩ := h0.cells
 obtain ⟨f0, f1, f2, f3⟩ := h0.frz
 have d1 : w.cell? ⟨R + 1, 0, none⟩ = some i1 := by simp [World.cell?, h1]
 have d2 : w.cell? ⟨R + 2, 0, none⟩ = some i2 := by simp [World.cell?, h2]
 have e1 : w.frozen? ⟨R + 1, 0, none⟩ = false := by simp [World.frozen?, h1]
 have e2 : w.frozen? ⟨R + 2, 0, none⟩ = false := by simp [World.frozen?, h2]
 refine wpS_of_wp ?_
 go_wp2
 go_region
 go_wp2
 have k0 := h0.set4 (.int .i64 0) (.string ⟨#[]⟩) (.string ⟨#[]⟩) (.slice none 0 0)
 have k1 := ((Bes2.set4 (P := R) (R := R) w (.int .i64 0) (.string ⟨#[]⟩) (.string ⟨#[]⟩) (.slice none 0 0)).block (R + 1) hl1 (by omega) (by omega)).trans h1
 have k2 := ((Bes2.set4 (P := R) (R := R) w (.int .i64 0) (.string ⟨#[]⟩) (.string ⟨#[]⟩) (.slice none 0 0)).block (R + 2) hl2 (by omega) (by omega)).trans h2
 have hbl := (((((((Below.refl R w).setCell (p := ⟨R, 0, none⟩) (Nat.le_refl R) (.int .i64 0)).setCell (p := ⟨R, 1, none⟩) (Nat.le_refl R) (.string ⟨#[]⟩)).setCell (p := ⟨R, 2, none⟩) (Nat.le_refl R) (.string ⟨#[]⟩)).setCell (p := ⟨R, 3, none⟩) (Nat.le_refl R) (.slice none 0 0)).setCell (p := ⟨R + 1, 0, none⟩) (Nat.le_succ R) (.int .i64 (p : Int))).setCell (p := ⟨R + 2, 0, none⟩) (Nat.le_add_right R 2) (.int .i64 er)).alloc (by simp [World.setCell]; omega) (.cells #[.int .i64 (p : Int), .int .i64 er] 58)
 generalize hS : ((((w.setCell ⟨R, 0, none⟩ (.int .i64 0)).setCell ⟨R, 1, none⟩ (.string ⟨#[]⟩)).setCell ⟨R, 2, none⟩ (.string ⟨#[]⟩)).setCell ⟨R, 3, none⟩ (.slice none 0 0)) = S at *
 have hSl : R < S.heap.size ∧ R + 1 < S.heap.size ∧ R + 2 < S.heap.size := ⟨k0.lt, lt_block k1, lt_block k2⟩
 have hbA : Below S.heap.size ((S.setCell ⟨R + 1, 0, none⟩ (.int .i64 (p : Int))).setCell ⟨R + 2, 0, none⟩ (.int .i64 er)) (((S.setCell ⟨R + 1, 0, none⟩ (.int .i64 (p : Int))).setCell ⟨R + 2, 0, none⟩ (.int .i64 er)).alloc (.cells #[.int .i64 (p : Int), .int .i64 er] 58)) := (Below.refl _ _).alloc (by simp [World.setCell]) _
 have m1 := set_at k1 0 (.int .i64 (p : Int))
 have m2 := set_at (w := S.setCell ⟨R + 1, 0, none⟩ (.int .i64 (p : Int))) ((Below.heap_setCell S ⟨R + 1, 0, none⟩ _ (R + 2) (by show R + 2 ≠ R + 1; omega)).trans k2) 0 (.int .i64 er)
 exact ⟨rfl, _, rfl, _, by simp [results, Tryz.results27, go_sem], rfl, rfl,
  (hbA.block R hSl.1).trans ((k0.other (p := ⟨R + 1, 0, none⟩) (by show R + 1 ≠ R; omega) _).other (p := ⟨R + 2, 0, none⟩) (by show R + 2 ≠ R; omega) _),
  (hbA.block (R + 1) hSl.2.1).trans ((Below.heap_setCell _ ⟨R + 2, 0, none⟩ _ (R + 1) (by show R + 1 ≠ R + 2; omega)).trans m1), (hbA.block (R + 2) hSl.2.2).trans m2, hbl.drew⟩
end Go.Proofs.YtaiihnniblibaaaGreatDoor.Parse

/-
 Layer 6 (parse): the tree of all tokens, or what is thrown on the way there.
-/
namespace Go.Proofs.YtaiihnniblibaaaGreatDoor.Parse
open Go.ChangeShapes Go.WideShapes Go.ChangeAt Go.RowKit Tree MemT Mem
set_option linter.unusedVariables false

/-- What read tells: the node and two noughts, or no node, the place and the error. -/
def ReadPost (w : World) (P : Nat) (R : Rd Nd) (e : Ending) (w' : World) : Prop :=
 Bes P w w' ∧ match R with
 | .ok n _ => ∃ A C, e = .returned (.tuple #[.agg #[.int .i64 n.k, .string n.x, .string n.y, .slice A n.c.len C], .int .i64 0, .int .i64 0]) ∧ Fs w' (Mi w.heap.size w'.heap.size) (.slice A n.c.len C) n.c
 | .bad p er => e = .returned (.tuple #[.agg #[.int .i64 0, .string ⟨#[]⟩, .string ⟨#[]⟩, .slice none 0 0], .int .i64 (p : Int), .int .i64 er])
theorem kids_kept {W : World} {B0 g : Nat} {s : Value} {f : F} (h : Fs W (Mi B0 W.heap.size) s f) (hg : g + 3 ≤ B0) (v0 v1 v2 v3 u1 u2 : Value) : Fs ((((((W.setCell ⟨g, 0, none⟩ v0).setCell ⟨g, 1, none⟩ v1).setCell ⟨g, 2, none⟩ v2).setCell ⟨g, 3, none⟩ v3).setCell ⟨g + 1, 0, none⟩ u1).setCell ⟨g + 1 + 1, 0, none⟩ u2) (Mi B0 ((((((W.setCell ⟨g, 0, none⟩ v0).setCell ⟨g, 1, none⟩ v1).setCell ⟨g, 2, none⟩ v2).setCell ⟨g, 3, none⟩ v3).setCell ⟨g + 1, 0, none⟩ u1).setCell ⟨g + 1 + 1, 0, none⟩ u2).heap.size) s f := by
 rw [show ((((((W.setCell ⟨g, 0, none⟩ v0).setCell ⟨g, 1, none⟩ v1).setCell ⟨g, 2, none⟩ v2).setCell ⟨g, 3, none⟩ v3).setCell ⟨g + 1, 0, none⟩ u1).setCell ⟨g + 1 + 1, 0, none⟩ u2).heap.size = W.heap.size by simp [World.setCell]]
 exact mi_set (p := ⟨g + 1 + 1, 0, none⟩) (mi_set (p := ⟨g + 1, 0, none⟩) (mi_set4 h (.inl (by omega)) v0 v1 v2 v3) (.inl (by show g + 1 < B0; omega)) u1) (.inl (by show g + 1 + 1 < B0; omega)) u2
set_option maxHeartbeats 8000000 in
set_option maxRecDepth 100000 in
theorem read_any (P z : Nat) (l : List Tk) (w : World) (h : PS w P z l 0) :
  Calls Tryz.prog 18 #[.pointer (some ⟨P, 0, none⟩)] w (ReadPost w P (fileN z l)) := by
 have hmf : ∀ (fn : Fn) (first cap : Array Value) (w : World), (Instr.makeFunc fn first cap).run Tryz.prog w = .ok (.func fn first cap) w := fun _ _ _ _ => rfl
 have hlt := h.lt
 have hb0 : Below w.heap.size w (((w.alloc ndZ).alloc (.cells #[.int .i64 0] 3)).alloc (.cells #[.int .i64 0] 27)) := (((Below.refl _ _).alloc (Nat.le_refl _) _).alloc (by simp) _).alloc (by simp; omega) _
 have HB0 := Lib.hid (Bes.of hb0 P)
 have HF := Lib.hid (file_any P z l _ (h.later hb0))
 have HX : Hid (Box4 (((w.alloc ndZ).alloc (.cells #[.int .i64 0] 3)).alloc (.cells #[.int .i64 0] 27)) w.heap.size 24 (.int .i64 0) (.string ⟨#[]⟩) (.string ⟨#[]⟩) (.slice none 0 0)) := ((ndz_box w).later ((Below.refl _ _).alloc (Nat.le_refl _) _)).later ((Below.refl _ _).alloc (Nat.le_refl _) _)
 have HI : Hid ((((w.alloc ndZ).alloc (.cells #[.int .i64 0] 3)).alloc (.cells #[.int .i64 0] 27)).heap[w.heap.size + 1]? = some (.cells #[.int .i64 0] 3 (0, 0))) := by
  have := heap_alloc_new (w.alloc ndZ) (.cells #[.int .i64 0] 3)
  rw [ndz_size] at this
  exact (Below.heap_alloc _ _ _ (by simp)).trans this
 have HE : Hid ((((w.alloc ndZ).alloc (.cells #[.int .i64 0] 3)).alloc (.cells #[.int .i64 0] 27)).heap[w.heap.size + 2]? = some (.cells #[.int .i64 0] 27 (0, 0))) := by
  have := heap_alloc_new ((w.alloc ndZ).alloc (.cells #[.int .i64 0] 3)) (.cells #[.int .i64 0] 27)
  rwa [show ((w.alloc ndZ).alloc (.cells #[.int .i64 0] 3)).heap.size = w.heap.size + 2 by simp] at this
 have HS : Hid (w.heap.size + 3 ≤ (((w.alloc ndZ).alloc (.cells #[.int .i64 0] 3)).alloc (.cells #[.int .i64 0] 27)).heap.size) := by show _ ≤ _; simp
 clear h hb0
 go_enter_defers Tryz.func18, Tryz.ntmps18
 go_wp2_with fail
 refine HF.out.mono ?_
 intro e W hp
 cases hR : fileN z l with
 | bad p er =>
  rw [hR] at hp
  obtain ⟨rfl, hbe⟩ := hp
  have kx := HX.out.bes hbe (by omega)
  have k1 := (hbe.block (w.heap.size + 1) (by have := HS.out; omega) (by omega)).trans HI.out
  have k2 := (hbe.block (w.heap.size + 2) (by have := HS.out; omega) (by omega)).trans HE.out
  have HBE := Lib.hid (HB0.out.trans hbe)
  have hsz := hbe.size
  clear hbe
  refine leaves_cons (f := 27) (args := #[.pointer (some ⟨w.heap.size, 0, none⟩), .pointer (some ⟨w.heap.size + 1, 0, none⟩), .pointer (some ⟨w.heap.size + 2, 0, none⟩)]) (by simp) (by simp [go_sem]) ?_
  refine (catch_thrown w.heap.size p er W _ _ _ _ _ _ kx k1 k2).mono ?_
  rintro e u' w'' ⟨rfl, rfl, b4, m1, m2, hbl⟩
  obtain ⟨c0, c1, c2, c3⟩ := b4.cells
  have d1 : w''.cell? ⟨w.heap.size + 1, 0, none⟩ = some (.int .i64 (p : Int)) := by simp [World.cell?, m1]
  have d2 : w''.cell? ⟨w.heap.size + 1 + 1, 0, none⟩ = some (.int .i64 er) := by simp [World.cell?, m2]
  simp [Leaves, settle, results, Tryz.results18, go_sem, c0, c1, c2, c3, d1, d2]
  exact ⟨HBE.out.bel hbl, rfl⟩
 | ok n l2 =>
  rw [hR] at hp
  obtain ⟨v, rfl, ⟨A, C, rfl, hf⟩, hps, hbe⟩ := hp
  obtain ⟨nk, nx, ny, nc⟩ := n
  have HX1 := Lib.hid (HX.out.bes hbe (by omega))
  have HI1 := Lib.hid ((hbe.block (w.heap.size + 1) (by have := HS.out; omega) (by omega)).trans HI.out)
  have HE1 := Lib.hid ((hbe.block (w.heap.size + 2) (by have := HS.out; omega) (by omega)).trans HE.out)
  have HBE := Lib.hid (HB0.out.trans hbe)
  obtain ⟨c0, c1, c2, c3⟩ := HX1.out.cells
  obtain ⟨f0, f1, f2, f3⟩ := HX1.out.frz
  have d1 : W.cell? ⟨w.heap.size + 1, 0, none⟩ = some (.int .i64 0) := by have := HI1.out; simp [World.cell?, this]
  have e1 : W.frozen? ⟨w.heap.size + 1, 0, none⟩ = false := by have := HI1.out; simp [World.frozen?, this]
  have d2 : W.cell? ⟨w.heap.size + 2, 0, none⟩ = some (.int .i64 0) := by have := HE1.out; simp [World.cell?, this]
  have e2 : W.frozen? ⟨w.heap.size + 2, 0, none⟩ = false := by have := HE1.out; simp [World.frozen?, this]
  have HFS := Lib.hid hf
  have HRR := Lib.hid hR
  clear hbe hf hps hR
  go_wp2
  refine leaves_cons (f := 27) (args := #[.pointer (some ⟨w.heap.size, 0, none⟩), .pointer (some ⟨w.heap.size + 1, 0, none⟩), .pointer (some ⟨w.heap.size + 2, 0, none⟩)]) (by simp) (by simp [go_sem]) ?_
  have b4 := ((HX1.out.set4 (.int .i64 nk) (.string nx) (.string ny) (.slice A nc.len C)).other (p := ⟨w.heap.size + 1, 0, none⟩) (by show w.heap.size + 1 ≠ w.heap.size; omega) (.int .i64 0)).other (p := ⟨w.heap.size + 1 + 1, 0, none⟩) (by show w.heap.size + 1 + 1 ≠ w.heap.size; omega) (.int .i64 0)
  have k1 := ((Bes2.set4 (P := w.heap.size) (R := w.heap.size) W (.int .i64 nk) (.string nx) (.string ny) (.slice A nc.len C)).block (w.heap.size + 1) (lt_block HI1.out) (by omega) (by omega)).trans HI1.out
  have k2 := ((Bes2.set4 (P := w.heap.size) (R := w.heap.size) W (.int .i64 nk) (.string nx) (.string ny) (.slice A nc.len C)).block (w.heap.size + 2) (lt_block HE1.out) (by omega) (by omega)).trans HE1.out
  have hM := kids_kept HFS.out HS.out (.int .i64 nk) (.string nx) (.string ny) (.slice A nc.len C) (.int .i64 0) (.int .i64 0)
  have hBS := (((((HBE.out.set (p := ⟨w.heap.size, 0, none⟩) (.inr (Nat.le_refl _)) (.int .i64 nk)).set (p := ⟨w.heap.size, 1, none⟩) (.inr (Nat.le_refl _)) (.string nx)).set (p := ⟨w.heap.size, 2, none⟩) (.inr (Nat.le_refl _)) (.string ny)).set (p := ⟨w.heap.size, 3, none⟩) (.inr (Nat.le_refl _)) (.slice A nc.len C)).set (p := ⟨w.heap.size + 1, 0, none⟩) (.inr (Nat.le_succ _)) (.int .i64 0)).set (p := ⟨w.heap.size + 1 + 1, 0, none⟩) (.inr (by show _ ≤ w.heap.size + 1 + 1; omega)) (.int .i64 0)
  have m1 := (Below.heap_setCell _ ⟨w.heap.size + 1 + 1, 0, none⟩ (.int .i64 0) (w.heap.size + 1) (by show w.heap.size + 1 ≠ w.heap.size + 1 + 1; omega)).trans (set_at k1 0 (.int .i64 0))
  have m2 := set_at ((Below.heap_setCell _ ⟨w.heap.size + 1, 0, none⟩ (.int .i64 0) (w.heap.size + 2) (by show w.heap.size + 2 ≠ w.heap.size + 1; omega)).trans k2) 0 (.int .i64 0)
  clear k1 k2
  refine (catch_idle _ _ _ _).mono ?_
  rintro e u' w'' ⟨rfl, rfl, hbl⟩
  have b5 := b4.later hbl
  have n1 := (hbl.block _ (lt_block m1)).trans m1
  have n2 := (hbl.block _ (lt_block m2)).trans m2
  have hM2 := mi_more (mi_later hM hbl (Nat.le_refl _)) (Nat.le_trans (Nat.le_add_right _ 3) HS.out) hbl.size
  have hBE2 := hBS.then_ hbl
  clear c0 c1 c2 c3 d1 d2 f0 f1 f2 f3 e1 e2 b4 m1 m2 hM hBS hbl
  obtain ⟨c0, c1, c2, c3⟩ := b5.cells
  have d1 : w''.cell? ⟨w.heap.size + 1, 0, none⟩ = some (.int .i64 0) := by simp [World.cell?, n1]
  have d2 : w''.cell? ⟨w.heap.size + 1 + 1, 0, none⟩ = some (.int .i64 0) := by simp [World.cell?, n2]
  have HFIN : Hid (ReadPost w P (fileN z l) (.returned (.tuple #[.agg #[.int .i64 nk, .string nx, .string ny, .slice A nc.len C], .int .i64 0, .int .i64 0])) w'') := by
   refine ⟨hBE2, ?_⟩
   rw [HRR.out]
   exact ⟨A, C, rfl, hM2⟩
  clear hBE2 hM2 n1 n2 b5
  simp [Leaves, settle, results, Tryz.results18, go_sem, c0, c1, c2, c3, d1, d2]
  exact HFIN.out
end Go.Proofs.YtaiihnniblibaaaGreatDoor.Parse
