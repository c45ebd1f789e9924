import Derived.Test.YtaiihnniblibaaaGreatDoorParseSign

/-
 Layer 6 (parse): function values that read; deeper.
-/
namespace Go.Proofs.YtaiihnniblibaaaGreatDoor.Parse
open Go.ChangeShapes Go.WideShapes Go.ChangeAt Go.RowKit Tree MemT Mem
set_option linter.unusedVariables false

/-- A function that is entered as it stands. -/
def EnteredP (gf : Nat) : Prop := ∀ args w, (callFunc gf args).run Tryz.prog w = .ok (.enter gf args) w
/-- The function value v reads what rd says, of rows shorter than N, in w and in all worlds behind it. -/
def Reads (P z : Nat) (w : World) (N : Nat) (v : Value) (rd : Nat → List Tk → Rd Nd) : Prop :=
 ∃ gf fs caps, v = .func (.func gf) fs caps ∧ EnteredP gf ∧ ∀ W, Bes P w W → ∀ d l, l.length < N → d ≤ 300 → PS W P z l d → Calls Tryz.prog gf (fs ++ caps) W (RPost NV W P z d (rd d l))
theorem Reads.later {P z N : Nat} {w w' : World} {v : Value} {rd : Nat → List Tk → Rd Nd} (h : Reads P z w N v rd) (hb : Bes P w w') : Reads P z w' N v rd := by
 obtain ⟨gf, fs, caps, e, he, hc⟩ := h
 exact ⟨gf, fs, caps, e, he, fun W hW => hc W (hb.trans hW)⟩

abbrev ndZ : Obj := .cells #[.int .i64 0, .string ⟨#[]⟩, .string ⟨#[]⟩, .slice none 0 0] 24
theorem ndz_box (w : World) : Box4 (w.alloc ndZ) w.heap.size 24 (.int .i64 0) (.string ⟨#[]⟩) (.string ⟨#[]⟩) (.slice none 0 0) := box4_new w _ _ _ _ _
theorem ndz_below (w : World) : Below w.heap.size w (w.alloc ndZ) := (Below.refl _ _).alloc (Nat.le_refl _) _
theorem ndz_size (w : World) : (w.alloc ndZ).heap.size = w.heap.size + 1 := by simp

/-- What a node-reading call leaves, when its result lies in a cell of its own. -/
theorem nret {w W : World} {P z d : Nat} {R : Rd Nd} {k : Int} {x y : ByteArray} {c : F} {l : List Tk} {A : Option Addr} {m C : Nat} {B0 B : Nat} (hR : R = .ok ⟨k, x, y, c⟩ l) (hm : m = c.len) (hf : Fs W (Mi B0 B) (.slice A m C) c) (hB0 : w.heap.size ≤ B0) (hB : B ≤ W.heap.size) (hps : PS W P z l d) (hb : Bes P w W) :
  RPost NV w P z d R (.returned (.agg #[.int .i64 k, .string x, .string y, .slice A m C])) W := by
 subst hm
 exact rpost_ok hR ⟨A, C, rfl, mi_more hf hB0 hB⟩ hps hb

set_option maxHeartbeats 4000000 in
set_option maxRecDepth 100000 in
theorem deeper_any (P z N : Nat) (v : Value) (rd : Nat → List Tk → Rd Nd) (by_ : Nat) (l : List Tk) (d : Nat) (w : World) (h : PS w P z l d) (hv : Reads P z w N v rd) (hl : l.length < N) (hd : d + by_ ≤ 300) :
  Calls Tryz.prog 89 #[.pointer (some ⟨P, 0, none⟩), .int .i64 (by_ : Int), v] w (RPost NV w P z d (rd (d + by_) l)) := by
 obtain ⟨gf, fs, caps, rfl, eg, hc⟩ := hv
 have hlt := h.lt
 obtain ⟨c3, f3⟩ := h.depth
 have h1 := (h.deep (d + by_) ((d : Int) + (by_ : Int)) (by simp)).alloc ndZ
 have hb1 : Bes P w ((w.setCell ⟨P, 3, none⟩ (.int .i64 ((d : Int) + (by_ : Int)))).alloc ndZ) := ((Bes.refl P w).set (.inl rfl) _).alloc _
 have HC := Lib.hid (hc _ hb1 _ l hl hd h1)
 have hs1 : (w.setCell ⟨P, 3, none⟩ (.int .i64 ((d : Int) + (by_ : Int)))).heap.size = w.heap.size := by simp [World.setCell]
 have HX : Hid (Box4 ((w.setCell ⟨P, 3, none⟩ (.int .i64 ((d : Int) + (by_ : Int)))).alloc ndZ) w.heap.size 24 (.int .i64 0) (.string ⟨#[]⟩) (.string ⟨#[]⟩) (.slice none 0 0)) := by
  have := ndz_box (w.setCell ⟨P, 3, none⟩ (.int .i64 ((d : Int) + (by_ : Int))))
  rwa [hs1] at this
 have HB1 := Lib.hid hb1; have HS1 := Lib.hid hs1
 have hPw : P ≠ w.heap.size := by omega
 have hPw2 : w.heap.size ≠ P := by omega
 clear h hc h1 hb1 hs1 hl
 unfold EnteredP at eg
 cases hr : rd (d + by_) l with
 | bad p er =>
  have HC2 := Lib.hid (calls_bad HC.out hr)
  clear HC HX hr
  go_enter Tryz.func89, Tryz.ntmps89
  go_wp2_with fail
  refine HC2.out.mono ?_
  rintro e w1 ⟨rfl, hb⟩
  have HB := Lib.hid (HB1.out.trans hb)
  clear hb
  go_wp2
  exact ⟨rfl, rfl, HB.out⟩
 | ok n r =>
  obtain ⟨nk, nx, ny, nc⟩ := n
  have HC2 := Lib.hid (calls_ok HC.out hr)
  clear HC hr
  go_enter Tryz.func89, Tryz.ntmps89
  go_wp2_with fail
  refine HC2.out.mono ?_
  rintro e W ⟨v, rfl, ⟨A, C, rfl, hf⟩, hps, hb⟩
  have hbx := HX.out.bes hb hPw2
  obtain ⟨c3', f3'⟩ := hps.depth
  have hsz := hb.size
  have hS1 : ((w.setCell ⟨P, 3, none⟩ (.int .i64 ((d : Int) + (by_ : Int)))).alloc ndZ).heap.size = w.heap.size + 1 := by simp [World.setCell]
  have hRW : w.heap.size < W.heap.size := by omega
  have hPW : P < W.heap.size := by omega
  have hne1 : W.heap.size ≠ P := by omega
  have hne2 : P ≠ W.heap.size := by omega
  have hne3 : w.heap.size ≠ W.heap.size := by omega
  obtain ⟨g0, g1, g2, g3⟩ := hbx.frz
  obtain ⟨x0, x1, x2, x3⟩ := hbx.cells
  rw [hS1] at hf
  have HF := Lib.hid hf; have HPS := Lib.hid hps; have HB := Lib.hid (HB1.out.trans hb); have HBX := Lib.hid hbx
  clear hf hps hb hbx c3 f3 hsz hS1 HC2 HX HB1 HS1
  generalize hm : nc.len = m at *
  have Hm := Lib.hid hm
  clear hm
  go_wp2
  have hba := (Below.refl _ ((((((W.setCell ⟨P, 3, none⟩ (.int .i64 (d : Int))).setCell ⟨w.heap.size, 0, none⟩ (.int .i64 nk)).setCell ⟨w.heap.size, 1, none⟩ (.string nx)).setCell ⟨w.heap.size, 2, none⟩ (.string ny)).setCell ⟨w.heap.size, 3, none⟩ (.slice A m C)))).alloc (Nat.le_refl _) (.cells #[.int .i64 nk, .string nx, .string ny, .slice A m C] 24)
  refine bodyPost_ret (results_cell_row rfl _ _ w.heap.size 24 _ (0, 0) _ rfl (((HBX.out.other (p := ⟨P, 3, none⟩) hPw _).set4 _ _ _ _).later hba) Tryz.underlying24 rfl hi_nd) rfl ?_
  refine nret (B0 := w.heap.size + 1) (B := W.heap.size) rfl Hm.out.symm (mi_later (mi_set4 (mi_set HF.out (p := ⟨P, 3, none⟩) (.inl (by show P < w.heap.size + 1; omega)) _) (.inl (by omega)) _ _ _ _) hba (by simp [World.setCell])) (by omega) (Nat.le_trans (by simp [World.setCell]) hba.size) ?_ ?_
  ·exact (ps_set4 (HPS.out.deep d _ rfl) hlt _ _ _ _).later hba
  ·exact (bes_set4 (HB.out.set (.inl rfl) _) (Nat.le_refl _) _ _ _ _).then_ hba
end Go.Proofs.YtaiihnniblibaaaGreatDoor.Parse

/-
 Layer 6 (parse): what is asked of the operations of a region in which one call reads.
-/
namespace Go.Proofs.YtaiihnniblibaaaGreatDoor.Parse
open Go.ChangeShapes Go.WideShapes Go.ChangeAt Go.RowKit Tree MemT Mem
set_option linter.unusedVariables false

/-- All but blocks P and R is as it was. -/
structure Bes2 (P R : Nat) (w w' : World) : Prop where
 os : w'.os = w.os
 tape : w'.tape = w.tape
 output : w'.output = w.output
 size : w.heap.size ≤ w'.heap.size
 block : ∀ b, b < w.heap.size → b ≠ P → b ≠ R → w'.heap[b]? = w.heap[b]?
section
variable {P R : Nat} {w w' w2 : World}
theorem Bes2.refl (P R : Nat) (w : World) : Bes2 P R w w := ⟨rfl, rfl, rfl, Nat.le_refl _, fun _ _ _ _ => rfl⟩
theorem Bes2.of (h : Below w.heap.size w w') : Bes2 P R w w' := ⟨h.os, h.tape, h.output, h.size, fun b hb _ _ => h.block b hb⟩
theorem Bes2.bes (h : Bes P w w') : Bes2 P R w w' := ⟨h.os, h.tape, h.output, h.size, fun b hb h1 _ => h.block b hb h1⟩
theorem Bes2.trans (h : Bes2 P R w w') (k : Bes2 P R w' w2) : Bes2 P R w w2 :=
 ⟨k.os.trans h.os, k.tape.trans h.tape, k.output.trans h.output, Nat.le_trans h.size k.size, fun b hb h1 h2 => (k.block b (Nat.lt_of_lt_of_le hb h.size) h1 h2).trans (h.block b hb h1 h2)⟩
theorem Bes2.undrew (h : Bes2 P R w.drew w') : Bes2 P R w w' := ⟨h.os, h.tape, h.output, h.size, h.block⟩
theorem Bes2.one (h : Bes2 P P w w') : Bes P w w' := ⟨h.os, h.tape, h.output, h.size, fun b hb h1 => h.block b hb h1 h1⟩
theorem Bes2.set4 (w : World) (v0 v1 v2 v3 : Value) : Bes2 P R w ((((w.setCell ⟨R, 0, none⟩ v0).setCell ⟨R, 1, none⟩ v1).setCell ⟨R, 2, none⟩ v2).setCell ⟨R, 3, none⟩ v3) :=
 ⟨rfl, rfl, rfl, by rw [size_set4]; exact Nat.le_refl _, fun b _ _ h2 => by
  rw [Below.heap_setCell _ _ _ _ h2, Below.heap_setCell _ _ _ _ h2, Below.heap_setCell _ _ _ _ h2, Below.heap_setCell _ _ _ _ h2]⟩
/-- Behind the region: what is beside P alone, seen from a world in which R was not there. -/
theorem Bes2.back {w0 : World} (h0 : Bes P w0 w) (h : Bes2 P R w w') (hR : w0.heap.size ≤ R) : Bes P w0 w' :=
 ⟨h.os.trans h0.os, h.tape.trans h0.tape, h.output.trans h0.output, Nat.le_trans h0.size h.size, fun b hb hP => (h.block b (Nat.lt_of_lt_of_le hb h0.size) hP (by omega)).trans (h0.block b hb hP)⟩
theorem Box4.bes2 {g : Nat} {T : TypeId} {a b c d : Value} (h : Box4 w g T a b c d) (hb : Bes2 P R w w') (h1 : g ≠ P) (h2 : g ≠ R) : Box4 w' g T a b c d := (hb.block g h.lt h1 h2).trans h
theorem mi_bes2 {B0 B : Nat} {v : Value} {f : F} (h : Fs w (Mi B0 B) v f) (hb : Bes2 P R w w') (hP : P < B0) (hR : R < B0 ∨ B ≤ R) (hB : B ≤ w.heap.size) : Fs w' (Mi B0 B) v f :=
 h.keep fun b hb' => hb.block b (Nat.lt_of_lt_of_le hb'.2 hB) (by have := hb'.1; omega) (by have := hb'.1; have := hb'.2; omega)
end

/-- A node whose Kids lie in blocks from B0 on. -/
def NdAt (B0 : Nat) (n : Nd) (v : Value) (w : World) : Prop := ∃ A C, v = .agg #[.int .i64 n.k, .string n.x, .string n.y, .slice A n.c.len C] ∧ Fs w (Mi B0 w.heap.size) (.slice A n.c.len C) n.c
/-- A row of nodes in blocks from B0 on. -/
def RowAt (B0 : Nat) (c : F) (v : Value) (w : World) : Prop := ∃ A C, v = .slice A c.len C ∧ Fs w (Mi B0 w.heap.size) (.slice A c.len C) c
theorem mi_bes2' {P R : Nat} {w w' : World} {B0 : Nat} {v : Value} {f : F} (h : Fs w (Mi B0 w.heap.size) v f) (hb : Bes2 P R w w') (hP : P < B0) (hR : R < B0) : Fs w' (Mi B0 w'.heap.size) v f :=
 mi_more (mi_bes2 h hb hP (.inl hR) (Nat.le_refl _)) (Nat.le_refl _) hb.size
theorem NdAt.mono {P R : Nat} {w w' : World} {B0 : Nat} {n : Nd} {v : Value} (h : NdAt B0 n v w) (hb : Bes2 P R w w') (hP : P < B0) (hR : R < B0) : NdAt B0 n v w' := by
 obtain ⟨A, C, e, hf⟩ := h
 exact ⟨A, C, e, mi_bes2' hf hb hP hR⟩
theorem RowAt.mono {P R : Nat} {w w' : World} {B0 : Nat} {c : F} {v : Value} (h : RowAt B0 c v w) (hb : Bes2 P R w w') (hP : P < B0) (hR : R < B0) : RowAt B0 c v w' := by
 obtain ⟨A, C, e, hf⟩ := h
 exact ⟨A, C, e, mi_bes2' hf hb hP hR⟩
def cNd {P R : Nat} (B0 : Nat) (hP : P < B0) (hR : R < B0) (n : Nd) : Cd (Bes2 P R) := ⟨NdAt B0 n, fun v W W' h hv => hv.mono h hP hR⟩
def cRow {P R : Nat} (B0 : Nat) (hP : P < B0) (hR : R < B0) (c : F) : Cd (Bes2 P R) := ⟨RowAt B0 c, fun v W W' h hv => hv.mono h hP hR⟩
def cNo {P R : Nat} : Cd (Bes2 P R) := ⟨fun _ _ => False, fun _ _ _ _ h => h⟩

/-- New rows of one to four nodes. -/
def ndC' (p : Nd × Value) : List Value := [.int .i64 p.1.k, .string p.1.x, .string p.1.y, p.2]
def ofL' : List Nd → F
 | [] => .nil
 | n :: r => oneF n (ofL' r)
theorem ofL'_len : ∀ l : List Nd, (ofL' l).len = l.length
 | [] => rfl
 | n :: r => by simp only [ofL', oneF, F.len, ofL'_len r, List.length_cons]
theorem fs_row' {w : World} {S : Nat → Prop} (g : Nat) (hg : S g) : ∀ (ps : List (Nd × Value)) (off n C : Nat), ps.length = n → n ≤ C → C ≤ 9223372036854775807 → (∀ j u, (ps.flatMap ndC')[j]? = some u → w.cell? ⟨g, off + j, none⟩ = some u) → (∀ p ∈ ps, Fs w S p.2 p.1.c) → ∀ A, (ps = [] ∨ A = some ⟨g, off, none⟩) → Fs w S (.slice A n C) (ofL' (ps.map (·.1)))
 | [], off, n, C, hn, h1, h2, hc, hf, A, hA => by
  have : n = 0 := by simpa using hn.symm
  subst this
  exact ⟨A, C, rfl, h2⟩
 | p :: ps, off, n, C, hn, h1, h2, hc, hf, A, hA => by
  obtain ⟨m, rfl⟩ : ∃ m, n = m + 1 := ⟨ps.length, by simpa using hn.symm⟩
  obtain ⟨D, rfl⟩ : ∃ D, C = D + 1 := ⟨C - 1, by omega⟩
  rcases hA with hA | hA
  ·cases hA
  subst hA
  have hlen : ps.length = m := by simpa using hn
  refine ⟨g, off, m, D, p.2, rfl, by rw [ofL'_len, List.length_map, hlen], by omega, h2, hg, ?_, ?_, ?_, ?_, hf p (by simp), fun A' hA' => ?_⟩
  ·have := hc 0 _ (by rfl); simpa using this
  ·exact hc 1 _ (by rfl)
  ·exact hc 2 _ (by rfl)
  ·exact hc 3 _ (by rfl)
  ·refine fs_row' g hg ps (off + 4) m D hlen (by omega) (by omega) (fun j u hu => ?_) (fun q hq => hf q (by simp [hq])) A' (by
    rcases hA' with h | h
    ·left
     cases ps with
     | nil => rfl
     | cons q qs => simp [ofL', oneF] at h
    ·exact .inr h)
   have := hc (4 + j) u (by
    rw [List.flatMap_cons, List.getElem?_append_right (by simp [ndC'])]
    simpa [ndC'] using hu)
   rwa [show off + 4 + j = off + (4 + j) by omega]
theorem row_new (w : World) (B0 : Nat) (ps : List (Nd × Value)) (cs : Array Value) (hcs : cs = (ps.flatMap ndC').toArray) (n : Nat) (hn : ps.length = n) (hn2 : n ≤ 1000000) (hB : B0 ≤ w.heap.size) (hf : ∀ p ∈ ps, Fs w (Mi B0 w.heap.size) p.2 p.1.c) :
  Fs (w.alloc (.cells cs 24)) (Mi B0 (w.alloc (.cells cs 24)).heap.size) (.slice (some ⟨w.heap.size, 0, none⟩) n n) (ofL' (ps.map (·.1))) := by
 have hb : Below w.heap.size w (w.alloc (.cells cs 24)) := (Below.refl _ _).alloc (Nat.le_refl _) _
 refine fs_row' w.heap.size ⟨hB, by simp⟩ ps 0 n n hn (Nat.le_refl _) (by omega) (fun j u hu => ?_) (fun p hp => mi_more (mi_later (hf p hp) hb (Nat.le_refl _)) (Nat.le_refl _) hb.size) _ (.inr rfl)
 rw [Nat.zero_add, World.cell?_alloc_at _ _ _ _ rfl, hcs]
 simpa using hu
theorem row1 (w : World) (B0 : Nat) (hB : B0 ≤ w.heap.size) (k : Int) (x y : ByteArray) (c : F) (s : Value) (hf : Fs w (Mi B0 w.heap.size) s c) :
  RowAt B0 (one ⟨k, x, y, c⟩) (.slice (some ⟨w.heap.size, 0, none⟩) 1 1) (w.alloc (.cells #[.int .i64 k, .string x, .string y, s] 24)) :=
 ⟨some ⟨w.heap.size, 0, none⟩, 1, rfl, row_new w B0 [(⟨k, x, y, c⟩, s)] _ (by rfl) 1 rfl (by omega) hB (fun p hp => by simp at hp; subst hp; exact hf)⟩
theorem row2 (w : World) (B0 : Nat) (hB : B0 ≤ w.heap.size) (k : Int) (x y : ByteArray) (c : F) (s : Value) (hf : Fs w (Mi B0 w.heap.size) s c) (k2 : Int) (x2 y2 : ByteArray) (c2 : F) (s2 : Value) (hf2 : Fs w (Mi B0 w.heap.size) s2 c2) :
  RowAt B0 (oneF ⟨k, x, y, c⟩ (one ⟨k2, x2, y2, c2⟩)) (.slice (some ⟨w.heap.size, 0, none⟩) 2 2) (w.alloc (.cells #[.int .i64 k, .string x, .string y, s, .int .i64 k2, .string x2, .string y2, s2] 24)) :=
 ⟨some ⟨w.heap.size, 0, none⟩, 2, rfl, row_new w B0 [(⟨k, x, y, c⟩, s), (⟨k2, x2, y2, c2⟩, s2)] _ (by rfl) 2 rfl (by omega) hB (fun p hp => by
  simp only [List.mem_cons, List.not_mem_nil, or_false] at hp
  rcases hp with rfl | rfl <;> assumption)⟩
/-- How the world is while a region runs: s: the call that reads; r: the last store. -/
def GN (s r : Nat) (P z d : Nat) (l l' : List Tk) (Fin Bx : World → Prop) : (Nat → Bool) → (Nat → Value) → World → Prop :=
 fun dn _ W => (dn r = true → Fin W) ∧ (dn r = false → Bx W) ∧ (dn s = true → PS W P z l' d) ∧ (dn s = false → PS W P z l d)
section
variable {s r P z d : Nat} {l l' : List Tk} {Fin Bx : World → Prop} {W W' : World} {dn : Nat → Bool} {x x' : Nat → Value}
theorem GN.keep (hF : ∀ W W', Below W.heap.size W W' → Fin W → Fin W') (hB : ∀ W W', Below W.heap.size W W' → Bx W → Bx W') :
  ∀ d1 d2 x x' W W', (∀ j, [s, r].contains j = true → d2 j = d1 j ∧ (d1 j = true → x' j = x j)) → Below W.heap.size W W' → GN s r P z d l l' Fin Bx d1 x W → GN s r P z d l l' Fin Bx d2 x' W' := by
 intro d1 d2 x x' W W' hj hb hg
 have e1 := (hj s (by simp)).1
 have e2 := (hj r (by simp)).1
 unfold GN at hg ⊢
 rw [e1, e2]
 exact ⟨fun h => hF _ _ hb (hg.1 h), fun h => hB _ _ hb (hg.2.1 h), fun h => (hg.2.2.1 h).later hb, fun h => (hg.2.2.2 h).later hb⟩
theorem GN.same (hg : GN s r P z d l l Fin Bx dn x W) : PS W P z l d := by
 cases h : dn s with
 | true => exact hg.2.2.1 h
 | false => exact hg.2.2.2 h
theorem GN.call (hsr : s ≠ r) (hg : GN s r P z d l l' Fin Bx dn x W) (hdr : dn r = false) (hB : Bx W → Bx W') (hps : PS W' P z l' d) : GN s r P z d l l' Fin Bx (setD dn s) x' W' := by
 have e1 : setD dn s s = true := by simp [setD]
 have e2 : setD dn s r = false := by unfold setD; rw [if_neg (Ne.symm hsr)]; exact hdr
 refine ⟨fun h => ?_, fun _ => hB (hg.2.1 hdr), fun _ => hps, fun h => ?_⟩
 ·rw [e2] at h; cases h
 ·rw [e1] at h; cases h
theorem GN.store (hsr : s ≠ r) (hds : dn s = true) (hF : Fin W') (hps : PS W' P z l' d) : GN s r P z d l l' Fin Bx (setD dn r) x' W' := by
 have e1 : setD dn r s = true := by unfold setD; rw [if_neg hsr]; exact hds
 have e2 : setD dn r r = true := by simp [setD]
 refine ⟨fun _ => hF, fun h => ?_, fun _ => hps, fun h => ?_⟩
 ·rw [e2] at h; cases h
 ·rw [e1] at h; cases h
end
/-- The same, where nothing is stored. -/
def G1 (s : Nat) (P z d : Nat) (l l' : List Tk) : (Nat → Bool) → (Nat → Value) → World → Prop := fun dn _ W => (dn s = true → PS W P z l' d) ∧ (dn s = false → PS W P z l d)
theorem G1.keep {s P z d : Nat} {l l' : List Tk} : ∀ d1 d2 x x' W W', (∀ j, [s].contains j = true → d2 j = d1 j ∧ (d1 j = true → x' j = x j)) → Below W.heap.size W W' → G1 s P z d l l' d1 x W → G1 s P z d l l' d2 x' W' := by
 intro d1 d2 x x' W W' hj hb hg
 have e1 := (hj s (by simp)).1
 unfold G1 at hg ⊢
 rw [e1]
 exact ⟨fun h => (hg.1 h).later hb, fun h => (hg.2 h).later hb⟩
theorem G1.call {s P z d : Nat} {l l' : List Tk} {W' : World} {dn : Nat → Bool} {x' : Nat → Value} (hps : PS W' P z l' d) : G1 s P z d l l' (setD dn s) x' W' := by
 have e1 : setD dn s s = true := by simp [setD]
 refine ⟨fun _ => hps, fun h => ?_⟩
 rw [e1] at h; cases h
/-- The result's cell holds the node n. -/
def FinN (B0 R : Nat) (n : Nd) (W : World) : Prop := ∃ A C, Box4 W R 24 (.int .i64 n.k) (.string n.x) (.string n.y) (.slice A n.c.len C) ∧ Fs W (Mi B0 W.heap.size) (.slice A n.c.len C) n.c
theorem FinN.later {B0 R : Nat} {n : Nd} (W W' : World) (hb : Below W.heap.size W W') (h : FinN B0 R n W) : FinN B0 R n W' := by
 obtain ⟨A, C, h1, h2⟩ := h
 exact ⟨A, C, h1.later hb, mi_more (mi_later h2 hb (Nat.le_refl _)) (Nat.le_refl _) hb.size⟩
/-- A cell of a node, whatever it holds. -/
def BxA (R : Nat) (W : World) : Prop := ∃ a b c d, Box4 W R 24 a b c d
theorem BxA.later {R : Nat} (W W' : World) (hb : Below W.heap.size W W') (h : BxA R W) : BxA R W' := by
 obtain ⟨a, b, c, d, h⟩ := h
 exact ⟨a, b, c, d, h.later hb⟩
theorem BxA.bes {P R : Nat} {W W' : World} (h : BxA R W) (hb : Bes P W W') (hR : R ≠ P) : BxA R W' := by
 obtain ⟨a, b, c, d, h⟩ := h
 exact ⟨a, b, c, d, h.bes hb hR⟩
theorem FinN.bes {P B0 R : Nat} {n : Nd} {W W' : World} (h : FinN B0 R n W) (hb : Bes P W W') (hR : R ≠ P) (hP : P < B0) : FinN B0 R n W' := by
 obtain ⟨A, C, h1, h2⟩ := h
 exact ⟨A, C, h1.bes hb hR, mi_more (mi_bes h2 hb hP (Nat.le_refl _)) (Nat.le_refl _) hb.size⟩
theorem finN_set {B0 R : Nat} {k : Int} {x y : ByteArray} {c : F} {A : Option Addr} {m C : Nat} {W : World} (hx : BxA R W) (hm : m = c.len) (hf : Fs W (Mi B0 W.heap.size) (.slice A m C) c) (hR : R < B0) :
  FinN B0 R ⟨k, x, y, c⟩ ((((W.setCell ⟨R, 0, none⟩ (.int .i64 k)).setCell ⟨R, 1, none⟩ (.string x)).setCell ⟨R, 2, none⟩ (.string y)).setCell ⟨R, 3, none⟩ (.slice A m C)) := by
 subst hm
 obtain ⟨a, b, c, d, hx⟩ := hx
 exact ⟨A, C, hx.set4 _ _ _ _, by rw [size_set4]; exact mi_set4 hf (.inl hR) _ _ _ _⟩
/-- What a region with a call that reads leaves, when its store goes into the result's cell. -/
theorem finRet {w W : World} {P z d R : Nat} {Rr : Rd Nd} {n : Nd} {l : List Tk} {B0 : Nat} (hR : Rr = .ok n l) (hf : FinN B0 R n W) (hB0 : w.heap.size ≤ B0) (hps : PS W P z l d) (hb : Bes P w W) :
  ∃ A C, W.heap[R]? = some (.cells #[.int .i64 n.k, .string n.x, .string n.y, .slice A n.c.len C] 24 (0, 0)) ∧ RPost NV w P z d Rr (.returned (.agg #[.int .i64 n.k, .string n.x, .string n.y, .slice A n.c.len C])) W := by
 obtain ⟨A, C, h1, h2⟩ := hf
 obtain ⟨k, x, y, c⟩ := n
 exact ⟨A, C, h1, nret hR rfl h2 hB0 (Nat.le_refl _) hps hb⟩
theorem notYet {l : List Oper} {dn : Nat → Bool} {i r : Nat} (hcl : ∀ k j, dn k = true → waitsP l k j = true → dn j = true) (hd : dn i = false) (hw : waitsP l r i = true) : dn r = false := by
 cases h : dn r with
 | false => rfl
 | true => rw [hcl r i h hw] at hd; cases hd
/-- Behind begin that went through. -/
theorem beg_ok {z d : Nat} {f : Bool} {l r : List Tk} {t : Tk} (hf : f = true → l ≠ []) (h : beg z f d l = .ok t r) : f = true ∧ d ≤ 256 ∧ l = t :: r := by
 unfold beg at h
 split at h
 ·rename_i hff
  split at h
  ·cases h
  ·cases l with
   | nil => exact absurd rfl (hf hff)
   | cons t' r' =>
    simp only [hd, List.tail_cons, Rd.ok.injEq] at h
    exact ⟨hff, by omega, by rw [h.1, h.2]⟩
 ·cases h
end Go.Proofs.YtaiihnniblibaaaGreatDoor.Parse

/-
 Layer 6 (parse): a name and its type (typed, field, parameter).
-/
namespace Go.Proofs.YtaiihnniblibaaaGreatDoor.Parse
open Go.ChangeShapes Go.WideShapes Go.ChangeAt Go.RowKit Tree MemT Mem
set_option linter.unusedVariables false

/-- A reading function that takes the parser alone, at rows shorter than N. -/
def RdOk (f : Nat) (P z N : Nat) (rd : Nat → List Tk → Rd Nd) : Prop := ∀ W d l, l.length < N → d ≤ 300 → PS W P z l d → Calls Tryz.prog f #[.pointer (some ⟨P, 0, none⟩)] W (RPost NV W P z d (rd d l))

set_option maxHeartbeats 4000000 in
set_option maxRecDepth 100000 in
theorem typed_any (P z N : Nat) (rd : Nat → List Tk → Rd Nd) (hty : RdOk 72 P z N rd) (k : Int) (l : List Tk) (d : Nat) (w : World) (h : PS w P z l d) (hl : l.length ≤ N) (hd : d ≤ 300) :
  Calls Tryz.prog 103 #[.pointer (some ⟨P, 0, none⟩), .int .i64 k] w (RPost NV w P z d (typed z k rd d l)) := by
 have hlt := h.lt
 have h0 := h.alloc ndZ
 have HN := Lib.hid (next_any P z l d _ h0)
 have HI := Lib.hid (fun W => isName_any (Parse.hd z l) W)
 have HBG : Hid (∀ W, Below (w.alloc ndZ).heap.size (w.alloc ndZ) W → Calls Tryz.prog 66 #[.pointer (some ⟨P, 0, none⟩), .bool (isNm (Parse.hd z l))] W (RPost TV W P z d (beg z (isNm (Parse.hd z l)) d l))) :=
  fun W hW => begin_any _ P z l d (fun hn e => by subst e; simp [Parse.hd, isNm] at hn) (by omega) W (h0.later hW)
 have hs0 := ndz_size w
 have HB0 := Lib.hid (ndz_below w); have HX0 := Lib.hid (ndz_box w); have HS0 := Lib.hid hs0; have HTY := Lib.hid hty
 have hsp : typed z k rd d l = typed z k rd d l := rfl
 conv at hsp => rhs; unfold typed
 have hfb : isNm (Parse.hd z l) = true → l ≠ [] := fun hn e => by subst e; simp [Parse.hd, isNm] at hn
 cases hr : beg z (isNm (Parse.hd z l)) d l with
 | bad p er =>
  rw [hr, Rd.bind_bad] at hsp
  rw [hr] at HBG
  rw [hsp]
  clear h h0 hsp hr hs0 hty HTY hfb
  generalize Parse.hd z l = t at *
  generalize isNm t = bb at *
  go_enter Tryz.func103, Tryz.ntmps103
  go_wp2_with fail
  refine HN.out.mono ?_
  rintro e w1 ⟨rfl, hb1⟩
  have HB1 := Lib.hid hb1
  clear hb1
  go_wp2_with fail
  refine (HI.out w1).mono ?_
  rintro e w2 ⟨rfl, hb2⟩
  have HB2 := Lib.hid (HB1.out.trans (hb2.mono HB1.out.size))
  clear hb2
  go_wp2_with fail
  refine (calls_bad (HBG.out w2 HB2.out) rfl).mono ?_
  rintro e w3 ⟨rfl, hb3⟩
  have HB3 := Lib.hid hb3
  clear hb3
  go_wp2
  exact ⟨rfl, rfl, (Bes.of (HB0.out.trans (HB2.out.mono (by rw [HS0.out]; omega))) P).trans HB3.out⟩
 | ok t r =>
  obtain ⟨-, hd256, rfl⟩ := beg_ok hfb hr
  rw [hr, Rd.bind_ok] at hsp
  rw [hr] at HBG
  have hrl : r.length < N := by simp only [List.length_cons] at hl; omega
  have HTY2 : Hid (∀ W, PS W P z r d → Calls Tryz.prog 72 #[.pointer (some ⟨P, 0, none⟩)] W (RPost NV W P z d (rd d r))) := fun W hW => HTY.out W d r hrl hd hW
  rw [hsp]
  clear h h0 hsp hr hs0 hty HTY hfb hrl hl
  simp only [Parse.hd] at *
  generalize isNm t = bb at *
  cases hr2 : rd d r with
  | bad p er =>
   rw [Rd.bind_bad]
   have Hr2 := Lib.hid hr2
   clear hr2
   go_enter Tryz.func103, Tryz.ntmps103
   go_wp2_with fail
   refine HN.out.mono ?_
   rintro e w1 ⟨rfl, hb1⟩
   have HB1 := Lib.hid hb1
   clear hb1
   go_wp2_with fail
   refine (HI.out w1).mono ?_
   rintro e w2 ⟨rfl, hb2⟩
   have HB2 := Lib.hid (HB1.out.trans (hb2.mono HB1.out.size))
   clear hb2
   go_wp2_with fail
   refine (calls_ok (HBG.out w2 HB2.out) rfl).mono ?_
   rintro e w3 ⟨v, rfl, rfl, hps3, hb3⟩
   clear HN HI HBG
   obtain ⟨tk, tx, tp, tf⟩ := t
   have hbes : Bes P w w3 := (Bes.of (HB0.out.trans (HB2.out.mono (by rw [HS0.out]; omega))) P).trans hb3
   have hbx3 : Box4 w3 w.heap.size 24 (.int .i64 0) (.string ⟨#[]⟩) (.string ⟨#[]⟩) (.slice none 0 0) := (HX0.out.later HB2.out).bes hb3 (by omega)
   have hba := (Below.refl w3.heap.size w3).alloc (Nat.le_refl _) (.cells #[.int .i64 tk, .string tx, .int .i64 (tp : Int), .bool tf] 75)
   have HBES := Lib.hid (hbes.then_ hba)
   have HBX : Hid (BxA w.heap.size (w3.alloc (.cells #[.int .i64 tk, .string tx, .int .i64 (tp : Int), .bool tf] 75))) := ⟨_, _, _, _, hbx3.later hba⟩
   have HPS := Lib.hid (hps3.later hba)
   have HTB := Lib.hid (box4_new w3 75 (.int .i64 tk) (.string tx) (.int .i64 (tp : Int)) (.bool tf))
   have hszw : w.heap.size < w3.heap.size := hbx3.lt
   have hsz : w.heap.size + 1 ≤ (w3.alloc (.cells #[.int .i64 tk, .string tx, .int .i64 (tp : Int), .bool tf] 75)).heap.size := Nat.le_trans hszw hba.size
   have hRP : w.heap.size ≠ P := by omega
   unfold tkV
   clear hb3 hps3 hbes hbx3 hba
   go_wp2
   obtain ⟨wt, hwt⟩ : ∃ wt, w3.heap.size = wt := ⟨_, rfl⟩
   have hwtP : wt ≠ P := by omega
   have hwtR : wt ≠ w.heap.size := by omega
   rw [hwt] at HTB ⊢
   clear hwt
   have hP0 : P < (w.heap.size + 1) := (by omega)
   have hR0 : w.heap.size < (w.heap.size + 1) := (by omega)
   refine region_ph [4, 7] (GN 4 7 P z d r r (FinN (w.heap.size + 1) w.heap.size noneN) (BxA w.heap.size)) (Bes2 P (w.heap.size)) [Cd.is (.int .i64 k), Cd.is (.pointer (some ⟨wt, 1, none⟩)), Cd.is (.string tx), Cd.is (.pointer (some ⟨P, 0, none⟩)), cNo, cNo, cNo, cNo] (by kernel_rfl) (by decide) (by kernel_rfl) (Bes2.refl _ _ _) (fun _ _ _ h k => h.trans k) (fun _ _ h => Bes2.of h) (GN.keep FinN.later BxA.later) ?start ?steps ?behind
   case start =>
    intro x
    exact ⟨fun h => (by cases h), fun _ => HBX.out, fun h => (by cases h), fun _ => HPS.out.drewN 1⟩
   case steps =>
    intro xv W hW a ha
    replace hW := hW.undrew
    simp only [fillA] at ha
    simp only [List.setIfInBounds_toArray, List.set_cons_succ, List.set_cons_zero, Nat.zero_add, Nat.reduceAdd] at ha
    subst ha
    refine ⟨?s0, ?s1, ?s2, ?s3, ?s4, ?s5, ?s6, ?s7, trivial⟩
    all_goals intro dn hdi hdw hcl hphi hg K hK
    all_goals (try simp only [Act.put, List.setIfInBounds_toArray, List.set_cons_succ, List.set_cons_zero] at hK)
    case s0 =>
     clear hphi hdw
     refine (if_pos (by rfl)).mpr ?_
     go_simp
     exact hK.out _ _ (Below.refl _ _) rfl
    case s1 =>
     clear hphi hdw
     refine (if_pos (by rfl)).mpr ?_
     go_simp
     exact hK.out _ _ (Below.refl _ _) rfl
    case s2 =>
     have hx1 : xv 1 = .pointer (some ⟨wt, 1, none⟩) := hphi 1 (hdw 1 (by kernel_rfl))
     clear hphi hdw
     rw [hx1] at hK ⊢
     refine (if_pos (by rfl)).mpr ?_
     obtain ⟨q0, q1, q2, q3⟩ := (HTB.out.bes2 hW hwtP hwtR).cells
     go_simp
     exact hK.out _ _ (Below.refl _ _) rfl
    case s3 =>
     clear hphi hdw
     refine (if_pos (by rfl)).mpr ?_
     go_simp
     exact hK.out _ _ (Below.refl _ _) rfl
    case s4 =>
     have hx3 : xv 3 = .pointer (some ⟨P, 0, none⟩) := hphi 3 (hdw 3 (by kernel_rfl))
     clear hphi hdw
     rw [hx3] at hK ⊢
     refine (if_pos (by rfl)).mpr ?_
     go_simp
     refine (calls_bad (HTY2.out W (hg.2.2.2 hdi)) Hr2.out).mono ?_
     rintro e W' ⟨rfl, hbe⟩
     exact ⟨rfl, rfl, Bes2.back HBES.out (hW.trans (Bes2.bes hbe)) (Nat.le_refl _)⟩
    case s5 =>
     have hno : False := hphi 4 (hdw 4 (by kernel_rfl))
     exact hno.elim
    case s6 =>
     have hno : False := hphi 5 (hdw 5 (by kernel_rfl))
     exact hno.elim
    case s7 =>
     have hno : False := hphi 6 (hdw 6 (by kernel_rfl))
     exact hno.elim
   case behind =>
    intro dn xv W hW hall hx hg a ha
    replace hW := hW.undrew
    simp only [fillA] at ha
    simp only [List.setIfInBounds_toArray, List.set_cons_succ, List.set_cons_zero, Nat.zero_add, Nat.reduceAdd] at ha
    subst ha
    exact (hx 4 (by decide) : False).elim
  | ok n l2 =>
   obtain ⟨nk, nx, ny, nc⟩ := n
   have Hr2 := Lib.hid hr2
   clear hr2
   go_enter Tryz.func103, Tryz.ntmps103
   go_wp2_with fail
   refine HN.out.mono ?_
   rintro e w1 ⟨rfl, hb1⟩
   have HB1 := Lib.hid hb1
   clear hb1
   go_wp2_with fail
   refine (HI.out w1).mono ?_
   rintro e w2 ⟨rfl, hb2⟩
   have HB2 := Lib.hid (HB1.out.trans (hb2.mono HB1.out.size))
   clear hb2
   go_wp2_with fail
   refine (calls_ok (HBG.out w2 HB2.out) rfl).mono ?_
   rintro e w3 ⟨v, rfl, rfl, hps3, hb3⟩
   clear HN HI HBG
   obtain ⟨tk, tx, tp, tf⟩ := t
   have hbes : Bes P w w3 := (Bes.of (HB0.out.trans (HB2.out.mono (by rw [HS0.out]; omega))) P).trans hb3
   have hbx3 : Box4 w3 w.heap.size 24 (.int .i64 0) (.string ⟨#[]⟩) (.string ⟨#[]⟩) (.slice none 0 0) := (HX0.out.later HB2.out).bes hb3 (by omega)
   have hba := (Below.refl w3.heap.size w3).alloc (Nat.le_refl _) (.cells #[.int .i64 tk, .string tx, .int .i64 (tp : Int), .bool tf] 75)
   have HBES := Lib.hid (hbes.then_ hba)
   have HBX : Hid (BxA w.heap.size (w3.alloc (.cells #[.int .i64 tk, .string tx, .int .i64 (tp : Int), .bool tf] 75))) := ⟨_, _, _, _, hbx3.later hba⟩
   have HPS := Lib.hid (hps3.later hba)
   have HTB := Lib.hid (box4_new w3 75 (.int .i64 tk) (.string tx) (.int .i64 (tp : Int)) (.bool tf))
   have hszw : w.heap.size < w3.heap.size := hbx3.lt
   have hsz : w.heap.size + 1 ≤ (w3.alloc (.cells #[.int .i64 tk, .string tx, .int .i64 (tp : Int), .bool tf] 75)).heap.size := Nat.le_trans hszw hba.size
   have hRP : w.heap.size ≠ P := by omega
   unfold tkV
   clear hb3 hps3 hbes hbx3 hba
   go_wp2
   obtain ⟨wt, hwt⟩ : ∃ wt, w3.heap.size = wt := ⟨_, rfl⟩
   have hwtP : wt ≠ P := by omega
   have hwtR : wt ≠ w.heap.size := by omega
   rw [hwt] at HTB ⊢
   clear hwt
   have hP0 : P < (w.heap.size + 1) := (by omega)
   have hR0 : w.heap.size < (w.heap.size + 1) := (by omega)
   refine region_ph [4, 7] (GN 4 7 P z d r l2 (FinN (w.heap.size + 1) w.heap.size (node k tx (one ⟨nk, nx, ny, nc⟩))) (BxA w.heap.size)) (Bes2 P (w.heap.size)) [Cd.is (.int .i64 k), Cd.is (.pointer (some ⟨wt, 1, none⟩)), Cd.is (.string tx), Cd.is (.pointer (some ⟨P, 0, none⟩)), cNd (w.heap.size + 1) hP0 hR0 ⟨nk, nx, ny, nc⟩, cRow (w.heap.size + 1) hP0 hR0 (one ⟨nk, nx, ny, nc⟩), cNd (w.heap.size + 1) hP0 hR0 (node k tx (one ⟨nk, nx, ny, nc⟩)), Cd.any] (by kernel_rfl) (by decide) (by kernel_rfl) (Bes2.refl _ _ _) (fun _ _ _ h k => h.trans k) (fun _ _ h => Bes2.of h) (GN.keep FinN.later BxA.later) ?start ?steps ?behind
   case start =>
    intro x
    exact ⟨fun h => (by cases h), fun _ => HBX.out, fun h => (by cases h), fun _ => HPS.out.drewN 1⟩
   case steps =>
    intro xv W hW a ha
    replace hW := hW.undrew
    simp only [fillA] at ha
    simp only [List.setIfInBounds_toArray, List.set_cons_succ, List.set_cons_zero, Nat.zero_add, Nat.reduceAdd] at ha
    subst ha
    refine ⟨?s0, ?s1, ?s2, ?s3, ?s4, ?s5, ?s6, ?s7, trivial⟩
    all_goals intro dn hdi hdw hcl hphi hg K hK
    all_goals (try simp only [Act.put, List.setIfInBounds_toArray, List.set_cons_succ, List.set_cons_zero] at hK)
    case s0 =>
     clear hphi hdw
     refine (if_pos (by rfl)).mpr ?_
     go_simp
     exact hK.out _ _ (Below.refl _ _) rfl
    case s1 =>
     clear hphi hdw
     refine (if_pos (by rfl)).mpr ?_
     go_simp
     exact hK.out _ _ (Below.refl _ _) rfl
    case s2 =>
     have hx1 : xv 1 = .pointer (some ⟨wt, 1, none⟩) := hphi 1 (hdw 1 (by kernel_rfl))
     clear hphi hdw
     rw [hx1] at hK ⊢
     refine (if_pos (by rfl)).mpr ?_
     obtain ⟨q0, q1, q2, q3⟩ := (HTB.out.bes2 hW hwtP hwtR).cells
     go_simp
     exact hK.out _ _ (Below.refl _ _) rfl
    case s3 =>
     clear hphi hdw
     refine (if_pos (by rfl)).mpr ?_
     go_simp
     exact hK.out _ _ (Below.refl _ _) rfl
    case s4 =>
     have hx3 : xv 3 = .pointer (some ⟨P, 0, none⟩) := hphi 3 (hdw 3 (by kernel_rfl))
     clear hphi hdw
     rw [hx3] at hK ⊢
     refine (if_pos (by rfl)).mpr ?_
     go_simp
     refine (calls_ok (HTY2.out W (hg.2.2.2 hdi)) Hr2.out).mono ?_
     rintro e W' ⟨v, rfl, ⟨A, C, rfl, hf⟩, hps, hbe⟩
     have hWs : w.heap.size + 1 ≤ W.heap.size := Nat.le_trans hsz hW.size
     exact hK.out _ _ ⟨Bes2.bes hbe, GN.call (by decide) hg (notYet hcl hdi (by kernel_rfl)) (fun h => h.bes hbe hRP) hps⟩ ⟨A, C, rfl, mi_more hf hWs (Nat.le_refl _)⟩
    case s5 =>
     obtain ⟨A4, C4, hx4, hf4⟩ : NdAt (w.heap.size + 1) ⟨nk, nx, ny, nc⟩ (xv 4) W := hphi 4 (hdw 4 (by kernel_rfl))
     clear hphi hdw
     rw [hx4] at hK ⊢
     refine (if_pos (by rfl)).mpr ?_
     go_simp
     exact hK.out _ _ ((Below.refl _ _).alloc (Nat.le_refl _) _) (row1 W _ (Nat.le_trans hsz hW.size) nk nx ny nc _ hf4)
    case s6 =>
     have hx0 : xv 0 = .int .i64 k := hphi 0 (hdw 0 (by kernel_rfl))
     have hx2 : xv 2 = .string tx := hphi 2 (hdw 2 (by kernel_rfl))
     obtain ⟨A5, C5, hx5, hf5⟩ : RowAt (w.heap.size + 1) (one ⟨nk, nx, ny, nc⟩) (xv 5) W := hphi 5 (hdw 5 (by kernel_rfl))
     clear hphi hdw
     rw [hx0] at hK ⊢
     rw [hx2] at hK ⊢
     rw [hx5] at hK ⊢
     refine (if_pos (by rfl)).mpr ?_
     go_simp
     refine (node_any _ _ _ _ _ W).mono ?_
     rintro e W' ⟨rfl, hb⟩
     exact hK.out _ _ hb ⟨A5, C5, rfl, mi_more (mi_later hf5 hb (Nat.le_refl _)) (Nat.le_refl _) hb.size⟩
    case s7 =>
     obtain ⟨A6, C6, hx6, hf6⟩ : NdAt (w.heap.size + 1) (node k tx (one ⟨nk, nx, ny, nc⟩)) (xv 6) W := hphi 6 (hdw 6 (by kernel_rfl))
     rw [hx6] at hK ⊢
     refine (if_pos (by rfl)).mpr ?_
     have hds : dn 4 = true := hdw 4 (by kernel_rfl)
     have hbx := hg.2.1 hdi
     obtain ⟨b0, b1, b2, b3, hbx4⟩ := id hbx
     obtain ⟨g0, g1, g2, g3⟩ := hbx4.frz
     obtain ⟨y0, y1, y2, y3⟩ := hbx4.cells
     unfold node at *
     simp only at hf6
     simp only at hK
     go_simp
     exact hK.out undef _ ⟨Bes2.set4 _ _ _ _ _, GN.store (by decide) (hds) (finN_set hbx rfl hf6 hR0) (ps_set4 (hg.2.2.1 hds) hlt _ _ _ _)⟩ trivial
   case behind =>
    intro dn xv W hW hall hx hg a ha
    replace hW := hW.undrew
    simp only [fillA] at ha
    simp only [List.setIfInBounds_toArray, List.set_cons_succ, List.set_cons_zero, Nat.zero_add, Nat.reduceAdd] at ha
    subst ha
    have hF := hg.1 (hall 7 (by decide))
    have hps := hg.2.2.1 (hall 4 (by decide))
    have hbw := Bes2.back HBES.out hW (Nat.le_refl _)
    obtain ⟨A, C, hbx, hpost⟩ := finRet (w := w) (Rr := (Rd.ok ⟨nk, nx, ny, nc⟩ l2).bind fun n l => .ok (node k tx (one n)) l) rfl hF (by omega) hps hbw
    have HPO := Lib.hid hpost
    have HBX2 := Lib.hid hbx
    clear hx hF hps hbw hpost hg hall hW hbx
    go_wp2
    refine bodyPost_ret (results_cell_row rfl _ _ w.heap.size 24 _ (0, 0) _ rfl HBX2.out Tryz.underlying24 rfl hi_nd) rfl ?_
    exact HPO.out
end Go.Proofs.YtaiihnniblibaaaGreatDoor.Parse

/-
 Layer 6 (parse): where a reading function stands: what lay before it, its parser, its result's cell.
-/
namespace Go.Proofs.YtaiihnniblibaaaGreatDoor.Parse
open Go.ChangeShapes Go.WideShapes Go.ChangeAt Go.RowKit Tree MemT Mem
set_option linter.unusedVariables false

structure Stt (w W : World) (P z d : Nat) (l : List Tk) : Prop where
 bes : Bes P w W
 ps : PS W P z l d
 bx : BxA w.heap.size W
 hlt : P < w.heap.size
section
variable {w W W' : World} {P z d d' : Nat} {l l' : List Tk}
theorem Stt.start (h : PS w P z l d) : Stt w (w.alloc ndZ) P z d l := ⟨Bes.of (ndz_below w) P, h.alloc _, ⟨_, _, _, _, ndz_box w⟩, h.lt⟩
theorem Stt.quiet (h : Stt w W P z d l) (hb : Below W.heap.size W W') : Stt w W' P z d l := ⟨h.bes.then_ hb, h.ps.later hb, BxA.later _ _ hb h.bx, h.hlt⟩
theorem Stt.read (h : Stt w W P z d l) (hb : Bes P W W') (hps : PS W' P z l' d') : Stt w W' P z d' l' := ⟨h.bes.trans hb, hps, h.bx.bes hb (by have := h.hlt; omega), h.hlt⟩
theorem Stt.size (h : Stt w W P z d l) : w.heap.size + 1 ≤ W.heap.size := by
 obtain ⟨a, b, c, d, hx⟩ := h.bx
 exact hx.lt
theorem fsq {B0 : Nat} {v : Value} {c : F} (h : Fs W (Mi B0 W.heap.size) v c) (hb : Below W.heap.size W W') : Fs W' (Mi B0 W'.heap.size) v c := mi_more (mi_later h hb (Nat.le_refl _)) (Nat.le_refl _) hb.size
theorem fsr {B0 : Nat} {v : Value} {c : F} (h : Fs W (Mi B0 W.heap.size) v c) (hb : Bes P W W') (hP : P < B0) : Fs W' (Mi B0 W'.heap.size) v c := mi_more (mi_bes h hb hP (Nat.le_refl _)) (Nat.le_refl _) hb.size
/-- The result is written. -/
theorem Stt.ret (h : Stt w W P z d l) {R : Rd Nd} {k : Int} {x y : ByteArray} {c : F} {A : Option Addr} {m C : Nat} (hR : R = .ok ⟨k, x, y, c⟩ l) (hm : m = c.len) (hf : Fs W (Mi (w.heap.size + 1) W.heap.size) (.slice A m C) c) :
  ((((W.setCell ⟨w.heap.size, 0, none⟩ (.int .i64 k)).setCell ⟨w.heap.size, 1, none⟩ (.string x)).setCell ⟨w.heap.size, 2, none⟩ (.string y)).setCell ⟨w.heap.size, 3, none⟩ (.slice A m C)).heap[w.heap.size]? = some (.cells #[.int .i64 k, .string x, .string y, .slice A m C] 24 (0, 0)) ∧
  RPost NV w P z d R (.returned (.agg #[.int .i64 k, .string x, .string y, .slice A m C])) ((((W.setCell ⟨w.heap.size, 0, none⟩ (.int .i64 k)).setCell ⟨w.heap.size, 1, none⟩ (.string x)).setCell ⟨w.heap.size, 2, none⟩ (.string y)).setCell ⟨w.heap.size, 3, none⟩ (.slice A m C)) := by
 obtain ⟨a, b, c0, d0, hx⟩ := h.bx
 refine ⟨hx.set4 _ _ _ _, nret hR hm (mi_set4 hf (.inl (Nat.lt_succ_self _)) _ _ _ _) (by omega) (by rw [size_set4]; exact Nat.le_refl _) (ps_set4 h.ps h.hlt _ _ _ _) (bes_set4 h.bes (Nat.le_refl _) _ _ _ _)⟩
theorem Stt.frz (h : Stt w W P z d l) : (∃ a b c d, W.cell? ⟨w.heap.size, 0, none⟩ = some a ∧ W.cell? ⟨w.heap.size, 1, none⟩ = some b ∧ W.cell? ⟨w.heap.size, 2, none⟩ = some c ∧ W.cell? ⟨w.heap.size, 3, none⟩ = some d) ∧ W.frozen? ⟨w.heap.size, 0, none⟩ = false ∧ W.frozen? ⟨w.heap.size, 1, none⟩ = false ∧ W.frozen? ⟨w.heap.size, 2, none⟩ = false ∧ W.frozen? ⟨w.heap.size, 3, none⟩ = false := by
 obtain ⟨a, b, c, d, hx⟩ := h.bx
 exact ⟨⟨a, b, c, d, hx.cells⟩, hx.frz⟩
end
theorem nil_fs {w : World} {S : Nat → Prop} : Fs w S (.slice none 0 0) .nil := ⟨none, 0, rfl, by omega⟩

/-- The next token, told cell by cell. -/
theorem next_is {P z : Nat} {l : List Tk} {d : Nat} {w : World} (h : PS w P z l d) {k : Int} {x : ByteArray} {pl : Nat} {fi : Bool} (ht : hd z l = ⟨k, x, pl, fi⟩) :
  Calls Tryz.prog 45 #[.pointer (some ⟨P, 0, none⟩)] w fun e w' => e = .returned (.agg #[.int .i64 k, .string x, .int .i64 (pl : Int), .bool fi]) ∧ Below w.heap.size w w' := by
 have := next_any P z l d w h
 rw [ht] at this
 exact this
theorem is_at {P z : Nat} {l : List Tk} {d : Nat} {w : World} (h : PS w P z l d) {s : ByteArray} {u : List UInt8} {b : Bool} (hu : s.toList = u) (hb : isT (hd z l) u = b) :
  Calls Tryz.prog 50 #[.pointer (some ⟨P, 0, none⟩), .string s] w fun e w' => e = .returned (.bool b) ∧ Below w.heap.size w w' := by
 have := is_any s P z l d w h
 rw [hu, hb] at this
 exact this
theorem want_at {P z : Nat} {l : List Tk} {d : Nat} {w : World} (h : PS w P z l d) {s : ByteArray} {u : List UInt8} (hu : s.toList = u) (hne : u ≠ []) :
  Calls Tryz.prog 70 #[.pointer (some ⟨P, 0, none⟩), .string s] w (RPost UV w P z d (want z u l)) := want_any s u hu P z l d hne w h

/-- A method of the parser as a function value. -/
theorem reads_of {f P z N : Nat} {rd : Nat → List Tk → Rd Nd} (w : World) (he : EnteredP f) (h : RdOk f P z N rd) : Reads P z w N (.func (.func f) #[.pointer (some ⟨P, 0, none⟩)] #[]) rd :=
 ⟨f, _, _, rfl, he, fun W _ d l hl hd hps => h W d l hl hd hps⟩

/-- A function that hands on what another one reads. -/
theorem pass_ok {R : Rd Nd} {w W : World} {P z d : Nat} {l0 : List Tk} (h : Stt w W P z d l0) {e : Ending} {W' : World} (hp : RPost NV W P z d R e W') : (∃ p er, R = .bad p er ∧ e = .panicked (pan p er) ∧ Bes P w W') ∨ (∃ k x y c l A C, R = .ok ⟨k, x, y, c⟩ l ∧ e = .returned (.agg #[.int .i64 k, .string x, .string y, .slice A c.len C]) ∧ Fs W' (Mi (w.heap.size + 1) W'.heap.size) (.slice A c.len C) c ∧ Stt w W' P z d l) := by
 cases R with
 | bad p er => exact .inl ⟨p, er, rfl, hp.1, h.bes.trans hp.2⟩
 | ok n l =>
  obtain ⟨v, he, ⟨A, C, hv, hf⟩, hps, hb⟩ := hp
  obtain ⟨k, x, y, c⟩ := n
  exact .inr ⟨k, x, y, c, l, A, C, rfl, by rw [he, hv], mi_more hf h.size (Nat.le_refl _), h.read hb hps⟩
end Go.Proofs.YtaiihnniblibaaaGreatDoor.Parse
