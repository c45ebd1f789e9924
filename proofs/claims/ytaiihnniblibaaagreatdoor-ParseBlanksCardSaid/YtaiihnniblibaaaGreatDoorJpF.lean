import Derived.Test.YtaiihnniblibaaaGreatDoorParseWrap
import Derived.Deep.LoopGhost

/-
 Layer 6 (parse): rows of nodes of a call's own, that grow.
-/
namespace Go.Proofs.YtaiihnniblibaaaGreatDoor.Parse
open Go.ChangeShapes Go.WideShapes Go.ChangeAt Go.RowKit Tree MemT Mem
set_option linter.unusedVariables false

theorem nd_info : (Tryz.prog.info? 24).map (fun i => (i.zero, i.size, i.bytes)) = some (some (.agg #[.int .i64 0, .string ⟨#[]⟩, .string ⟨#[]⟩, .slice none 0 0]), 4, 64) := by kernel_rfl
theorem nd_parts : ∃ i0, Tryz.prog.info? 24 = some i0 ∧ i0.zero = some (.agg #[.int .i64 0, .string ⟨#[]⟩, .string ⟨#[]⟩, .slice none 0 0]) ∧ i0.size = 4 ∧ i0.bytes = 64 := by
 have h := nd_info
 cases hi : Tryz.prog.info? 24 with
 | none => rw [hi] at h; cases h
 | some i =>
  rw [hi] at h
  simp only [Option.map_some, Option.some.injEq, Prod.mk.injEq] at h
  exact ⟨i, rfl, h.1, h.2.1, h.2.2⟩

/-- A row of one's own, its block from B0 on, of these nodes; their Kids lie from B0 on, not in the row's block. -/
def OwnK (w : World) (B0 : Nat) (v : Value) (L : List Nd) : Prop :=
 ∃ ps : List (Nd × Value), ps.map (·.1) = L ∧ w.ownsRow B0 24 4 v L.length (ps.flatMap ndC') ∧ ∀ p ∈ ps, Fs w (fun b => B0 ≤ b ∧ b < w.heap.size ∧ some b ≠ v.ownBlock) p.2 p.1.c
section
variable {w w' W : World} {B0 P : Nat} {v : Value} {L : List Nd}
theorem OwnK.nil (w : World) (B0 : Nat) : OwnK w B0 (.slice none 0 0) [] := ⟨[], rfl, World.ownsRow_nil _ _ _ _, fun p hp => by cases hp⟩
theorem OwnK.slice (h : OwnK w B0 v L) : ∃ a c, v = .slice a L.length c ∧ L.length ≤ c ∧ c ≤ maxLen := by
 obtain ⟨ps, _, ho, _⟩ := h
 rcases ho.2 with ⟨h1, h2⟩ | ⟨g, cap, cur, hv, hg0, hg, q1, q2, q3, q4⟩
 ·exact ⟨none, 0, by rw [h1, h2], by omega, by unfold maxLen; omega⟩
 ·exact ⟨_, cap, hv, q1, q2⟩
theorem OwnK.lt (h : OwnK w B0 v L) {g : Nat} (hg : v.ownBlock = some g) : B0 ≤ g ∧ g < w.heap.size := by
 obtain ⟨ps, _, ho, _⟩ := h
 exact ho.lt g hg
theorem OwnK.keep (h : OwnK w B0 v L) (hos : w'.os = w.os) (hout : w'.output = w.output) (htape : w'.tape = w.tape) (hs : w.heap.size ≤ w'.heap.size) (hk : ∀ b, B0 ≤ b → b < w.heap.size → w'.heap[b]? = w.heap[b]?) (hP : P < B0) (hb : Bes P w w') : OwnK w' B0 v L := by
 obtain ⟨ps, e, ho, hf⟩ := h
 have hg : w.grownBy w' (some P) := ⟨hos, htape, hout, hs, fun k hk' hne => hb.block k hk' (fun e => hne (by rw [e]))⟩
 refine ⟨ps, e, ho.kept hg (by
  cases hv : v.ownBlock with
  | none => exact .inl rfl
  | some g => exact .inr (fun e => by have := (ho.lt g hv).1; have := Option.some.inj e; omega)), fun p hp => ((hf p hp).keep fun b hb' => hk b hb'.1 hb'.2.1).more fun b hb' => ⟨hb'.1, Nat.lt_of_lt_of_le hb'.2.1 hs, hb'.2.2⟩⟩
theorem OwnK.bes (h : OwnK w B0 v L) (hb : Bes P w w') (hP : P < B0) : OwnK w' B0 v L :=
 h.keep hb.os hb.output hb.tape hb.size (fun b h0 h1 => hb.block b h1 (by omega)) hP hb
theorem OwnK.later (h : OwnK w B0 v L) (hb : Below w.heap.size w w') (hP : P < B0) : OwnK w' B0 v L := h.bes (Bes.of hb P) hP
/-- The row as a row of trees. -/
theorem OwnK.row (h : OwnK w B0 v L) : RowAt B0 (ofL' L) v w := by
 obtain ⟨ps, h1, ho, hf⟩ := h
 rcases ho.2 with ⟨rfl, h0⟩ | ⟨g, cap, cur, rfl, hg0, hg2, q1, q2, q3, q4⟩
 ·rw [List.eq_nil_of_length_eq_zero h0]
  exact ⟨none, 0, rfl, none, 0, rfl, by omega⟩
 ·have hc := ho.cells (g := g) rfl
  have ad : ∀ j, (⟨g, 0, none⟩ : Addr).add j = ⟨g, j, none⟩ := fun j => by unfold Addr.add; split <;> simp_all
  have hl := ho.lt g rfl
  have hlen : (ofL' L).len = L.length := ofL'_len L
  refine ⟨some ⟨g, 0, none⟩, cap, by rw [hlen], ?_⟩
  rw [hlen, ← h1]
  refine fs_row' g ⟨hl.1, hl.2⟩ ps 0 _ cap (by simp) (by rw [h1]; exact q1) q2 (fun j u hu => ?_) (fun p hp => (hf p hp).more fun b hb => ⟨hb.1, hb.2.1⟩) _ (.inr rfl)
  have := hc j u hu
  rwa [ad, ← Nat.zero_add j] at this
end
/-- append of one node onto such a row. -/
theorem app_nd (w : World) {ops : Array Oper} {rest : List Oper} {o : Oper} {a : Act} {Q : Exit → Act → World → Prop} (hgd : o.guard = none) (s x : Operand)
  (ho : o.op = .call { callee := .builtin .append, args := #[s, x], argTypes := #[22, 22] }) (P B0 : Nat) (hP : P < B0) (v : Value) (L : List Nd) (hs : a.eval s = v) (hown : OwnK w B0 v L)
  (k : Int) (tx ty : ByteArray) (c : F) (A : Option Addr) (m C : Nat) (hf : Fs w (fun b => B0 ≤ b ∧ b < w.heap.size ∧ some b ≠ v.ownBlock) (.slice A m C) c) (g : Nat) (hg : g = w.heap.size) (hx : a.eval x = .slice (some ⟨g, 0, none⟩) 1 1) (hlen : L.length ≤ 10000000) (hB : B0 ≤ w.heap.size)
  (h : ∀ v' w', OwnK w' B0 v' (L ++ [⟨k, tx, ty, c⟩]) → Below B0 w w' → wpList Tryz.prog ops Q rest (a.put o.dst v') w') :
  wpList Tryz.prog ops Q (o :: rest) a (w.alloc (.cells #[.int .i64 k, .string tx, .string ty, .slice A m C] 24)) := by
 obtain ⟨i0, hi0, hz0, hz1, hz2⟩ := nd_parts
 obtain ⟨ps, e1, ho', hf'⟩ := hown
 refine app_cells (P := Tryz.prog) (T := 22) (E := 24) (sz := 4) (by_ := 64) w hgd s x ho Tryz.underlying22 hi0 hz0 hz1 hz2 rfl (by decide) B0 v L.length _ [.int .i64 k, .string tx, .string ty, .slice A m C] hs ho' rfl (by intro u hu; simp at hu; rcases hu with rfl | rfl | rfl | rfl <;> rfl) g hg hx hlen (by decide) hB fun v' w' r1 r2 r3 r4 => ?_
 have hbl : Below B0 w w' := r3 B0 (fun b hb => (ho'.lt b hb).1) hB
 have hsz : w.heap.size + 1 ≤ w'.heap.size := by have := r2.size; simpa using this
 have hkeep : ∀ b, B0 ≤ b → b < w.heap.size → some b ≠ v.ownBlock → w'.heap[b]? = w.heap[b]? := fun b h1 h2 h3 => (r2.block b (by simp; omega) h3).trans (Below.heap_alloc _ _ _ h2)
 have hne : ∀ b, b < w.heap.size → some b ≠ v.ownBlock → some b ≠ v'.ownBlock := fun b h1 h2 h3 => by
  rcases r4 with r4 | r4
  ·exact h2 (h3.trans r4)
  ·rw [r4] at h3; have := Option.some.inj h3; omega
 refine h v' w' ⟨ps ++ [(⟨k, tx, ty, c⟩, .slice A m C)], by rw [List.map_append, e1]; rfl, by rw [List.length_append, List.flatMap_append]; simpa [ndC'] using r1, fun p hp => ?_⟩ hbl
 rcases List.mem_append.1 hp with hp | hp
 ·exact ((hf' p hp).keep fun b hb => hkeep b hb.1 hb.2.1 hb.2.2).more fun b hb => ⟨hb.1, by omega, hne b hb.2.1 hb.2.2⟩
 ·simp only [List.mem_singleton] at hp
  subst hp
  exact (hf.keep fun b hb => hkeep b hb.1 hb.2.1 hb.2.2).more fun b hb => ⟨hb.1, by omega, hne b hb.2.1 hb.2.2⟩
end Go.Proofs.YtaiihnniblibaaaGreatDoor.Parse

/-
 Layer 6 (parse): what stands between braces, and between parentheses.
-/
namespace Go.Proofs.YtaiihnniblibaaaGreatDoor.Parse
open Go.ChangeShapes Go.WideShapes Go.ChangeAt Go.RowKit Tree MemT Mem
set_option linter.unusedVariables false

theorem Rd.bind_id {α : Type} (x : Rd α) : (x.bind fun c l => .ok c l) = x := by cases x <;> rfl
theorem Rd.bind_bind {α β γ : Type} (x : Rd α) (f : α → List Tk → Rd β) (g : β → List Tk → Rd γ) : (x.bind f).bind g = x.bind fun a l => (f a l).bind g := by cases x <;> rfl
theorem appF_nil : ∀ f : F, appF f .nil = f
 | .nil => rfl
 | .cons k x y c r => by simp only [appF, appF_nil r]
theorem appF_snoc : ∀ (L : List Nd) (n : Nd) (c : F), appF (ofL' L) (oneF n c) = appF (ofL' (L ++ [n])) c
 | [], n, c => rfl
 | m :: L, n, c => by simp only [ofL', oneF, appF, List.cons_append]; rw [← appF_snoc L n c]; rfl
/-- A reader that takes a token at least. -/
def Dec (rd : Nat → List Tk → Rd Nd) : Prop := ∀ d l n r, rd d l = .ok n r → r.length < l.length
theorem over_le {z : Nat} {l r : List Tk} {y : ByteArray} (h : over z l = .ok y r) : r.length ≤ l.length := by
 unfold over at h
 repeat' split at h
 all_goals first
  | (simp only [Rd.ok.injEq] at h; obtain ⟨-, rfl⟩ := h; first | exact Nat.le_refl _ | (simp; omega) | simp)
  | cases h
theorem item_dec {z : Nat} {rd : Nat → List Tk → Rd Nd} (h : Dec rd) : Dec (item z rd) := by
 intro d l n r hr
 unfold item at hr
 split at hr
 ·rename_i h5
  cases l with
  | nil => simp [Parse.hd] at h5
  | cons t l =>
   unfold beg at hr
   rw [if_pos rfl] at hr
   split at hr
   ·cases hr
   ·simp only [Rd.bind_ok, Rd.ok.injEq, List.tail_cons] at hr
    obtain ⟨-, rfl⟩ := hr
    simp
 ·cases h1 : rd d l with
  | bad p e => rw [h1] at hr; cases hr
  | ok m l1 =>
   rw [h1, Rd.bind_ok] at hr
   have := h d l m l1 h1
   cases h2 : over z l1 with
   | bad p e => rw [h2] at hr; cases hr
   | ok y l2 =>
    rw [h2, Rd.bind_ok] at hr
    simp only [Rd.ok.injEq] at hr
    obtain ⟨-, rfl⟩ := hr
    have := over_le h2
    omega
theorem isT_cons {z : Nat} {l : List Tk} {u : List UInt8} (h : isT (Parse.hd z l) u = true) (hu : u ≠ []) : ∃ t r, l = t :: r := by
 cases l with
 | nil =>
  exfalso
  simp only [Parse.hd, isT, e0, beq_iff_eq] at h
  exact hu (by rw [← h]; simp)
 | cons t r => exact ⟨t, r, rfl⟩

theorem ent_brace : EnteredP 102 := by intro args w; simp [go_sem]
set_option maxHeartbeats 4000000 in
set_option maxRecDepth 100000 in
theorem brace1_any (P z N : Nat) (v : Value) (rd : Nat → List Tk → Rd Nd) (l : List Tk) (d Bp Bf : Nat) (w : World) (h : PS w P z l d) (hv : Reads P z w N v rd) (hl : l.length < N) (hd : d ≤ 300)
  (hp : w.cell? ⟨Bp, 0, none⟩ = some (.pointer (some ⟨P, 0, none⟩))) (hf : w.cell? ⟨Bf, 0, none⟩ = some v) (hBp : Bp < w.heap.size) (hBf : Bf < w.heap.size) :
  Calls Tryz.prog 102 #[.pointer (some ⟨Bp, 0, none⟩), .pointer (some ⟨Bf, 0, none⟩)] w (RPost NV w P z d (item z rd d l)) := by
 have HST := Lib.hid (Stt.start h)
 have HC := Lib.hid (item_any P z N v rd l d _ (h.alloc ndZ) (hv.later (Bes.of (ndz_below w) P)) hl hd)
 obtain ⟨gf, fs, caps, rfl, _, _⟩ := hv
 clear h
 generalize item z rd d l = R at *
 go_enter Tryz.func102, Tryz.ntmps102
 go_wp2_with fail
 refine HC.out.mono ?_
 intro e W hp
 rcases pass_ok HST.out hp with ⟨p, er, hR, rfl, hbe⟩ | ⟨k, x, y, c, l2, A, C, hR, rfl, hf, hst⟩
 ·have HE := Lib.hid hbe
  have HR := Lib.hid hR
  clear hp hbe hR HST HC
  go_wp2
  exact ⟨rfl, rpost_bad HR.out HE.out⟩
 ·have HS := Lib.hid hst
  have HF := Lib.hid hf
  have HR := Lib.hid hR
  obtain ⟨⟨r0, r1, r2, r3, y0, y1, y2, y3⟩, g0, g1, g2, g3⟩ := hst.frz
  generalize hm : c.len = m at *
  have Hm := Lib.hid hm
  clear hp hf hst hR HST HC hm
  go_wp2
  have hfin := HS.out.ret HR.out Hm.out.symm HF.out
  refine bodyPost_ret (results_cell_row rfl _ _ w.heap.size 24 _ (0, 0) _ rfl hfin.1 Tryz.underlying24 rfl hi_nd) rfl ?_
  exact hfin.2

theorem brace_reads (P z N : Nat) (v : Value) (rd : Nat → List Tk → Rd Nd) (Bp Bf : Nat) (w : World) (hv : Reads P z w N v rd) (hp : w.cell? ⟨Bp, 0, none⟩ = some (.pointer (some ⟨P, 0, none⟩))) (hf : w.cell? ⟨Bf, 0, none⟩ = some v) (hBp : Bp < w.heap.size) (hBf : Bf < w.heap.size) (h1 : Bp ≠ P) (h2 : Bf ≠ P) :
  Reads P z w N (.func (.func 102) #[] #[.pointer (some ⟨Bp, 0, none⟩), .pointer (some ⟨Bf, 0, none⟩)]) (item z rd) :=
 ⟨_, _, _, rfl, ent_brace, fun W hW d l hl hd hps => brace1_any P z N v rd l d Bp Bf W hps (hv.later hW) hl hd ((hW.cell (p := ⟨Bp, 0, none⟩) hBp h1).trans hp) ((hW.cell (p := ⟨Bf, 0, none⟩) hBf h2).trans hf) (Nat.lt_of_lt_of_le hBp hW.size) (Nat.lt_of_lt_of_le hBf hW.size)⟩

theorem PS.below {w w' : World} {P z : Nat} {l : List Tk} {d B : Nat} (h : PS w P z l d) (hb : Below B w w') (hP : P < B) : PS w' P z l d := by
 obtain ⟨A, n, C, k, L, h, e⟩ := h
 exact ⟨A, n, C, k, L, h.keep fun b hb' => hb.block b (by omega), e⟩
theorem Bes.bel {P : Nat} {w w' w2 : World} (h : Bes P w w') (hb : Below w.heap.size w' w2) : Bes P w w2 :=
 ⟨hb.os.trans h.os, hb.tape.trans h.tape, hb.output.trans h.output, Nat.le_trans h.size hb.size, fun b h1 h2 => (hb.block b h1).trans (h.block b h1 h2)⟩
theorem fv_of {w w' : World} {B0 : Nat} {L : List Nd} {v : Value} (h : RowAt B0 (ofL' L) v w') (hB : w.heap.size ≤ B0) : FV w w' v (ofL' L) := by
 obtain ⟨A, C, e, hf⟩ := h
 exact ⟨A, C, e, mi_more hf hB (Nat.le_refl _)⟩
theorem nd_row {w w' W : World} {B0 : Nat} {v : Value} {L : List Nd} {A : Option Addr} {m C : Nat} {c : F} (hO : OwnK w B0 v L) (hf : Fs W (Mi w.heap.size W.heap.size) (.slice A m C) c) (hB : B0 ≤ w.heap.size) : Fs W (fun b => B0 ≤ b ∧ b < W.heap.size ∧ some b ≠ v.ownBlock) (.slice A m C) c :=
 hf.more fun b hb => ⟨Nat.le_trans hB hb.1, hb.2, fun e => by have := (hO.lt e.symm).2; have := hb.1; omega⟩
set_option maxHeartbeats 8000000 in
set_option maxRecDepth 100000 in
theorem braces_any (P z N : Nat) (v : Value) (rd : Nat → List Tk → Rd Nd) (hdec : Dec rd) (l : List Tk) (d : Nat) (w : World) (h : PS w P z l d) (hv : Reads P z w N v rd) (hl : l.length ≤ N) (hd : d ≤ 300) :
  Calls Tryz.prog 90 #[.pointer (some ⟨P, 0, none⟩), v] w (RPost FV w P z d (braces z rd d l)) := by
 obtain ⟨gf, fs, caps, hve, eg, _⟩ := id hv
 have hlt := h.lt
 have hb0 : Below w.heap.size w ((w.alloc (.cells #[.pointer (some ⟨P, 0, none⟩)] 42)).alloc (.cells #[v] 60)) := ((Below.refl _ _).alloc (Nat.le_refl _) _).alloc (by simp) _
 have HB0 := Lib.hid (Bes.of hb0 P)
 have HPS := Lib.hid (h.later hb0)
 have HZ : Hid (w.heap.size < ((w.alloc (.cells #[.pointer (some ⟨P, 0, none⟩)] 42)).alloc (.cells #[v] 60)).heap.size ∧ w.heap.size + 1 < ((w.alloc (.cells #[.pointer (some ⟨P, 0, none⟩)] 42)).alloc (.cells #[v] 60)).heap.size) := by
  exact ⟨by simp; omega, by simp⟩
 have HCP : Hid (((w.alloc (.cells #[.pointer (some ⟨P, 0, none⟩)] 42)).alloc (.cells #[v] 60)).cell? ⟨w.heap.size, 0, none⟩ = some (.pointer (some ⟨P, 0, none⟩))) := by
  show _ = _
  simp [go_sem]
 have HCF : Hid (((w.alloc (.cells #[.pointer (some ⟨P, 0, none⟩)] 42)).alloc (.cells #[v] 60)).cell? ⟨w.heap.size + 1, 0, none⟩ = some v) := by
  show _ = _
  simp [go_sem]
 have HRD := Lib.hid (brace_reads P z N v rd w.heap.size (w.heap.size + 1) _ (hv.later HB0.out) HCP.out HCF.out HZ.out.1 HZ.out.2 (by omega) (by omega))
 have hwP : w.heap.size ≠ P := by omega
 have HU : Hid ((⟨#[123]⟩ : ByteArray).toList = [123]) := by show _ = _; rw [ByteArray.toList_eq]
 have HU2 : Hid ((⟨#[125]⟩ : ByteArray).toList = [125]) := by show _ = _; rw [ByteArray.toList_eq]
 have HDEC := Lib.hid (item_dec (z := z) hdec)
 have hsp : braces z rd d l = braces z rd d l := rfl
 conv at hsp => rhs; unfold braces
 have HNE : Hid (isT (Parse.hd z l) [123] = true → l ≠ []) := fun hn e => by
  subst e
  obtain ⟨t, r, e⟩ := isT_cons hn (by decide)
  cases e
 clear hv h hb0 hdec
 unfold EnteredP at eg
 subst hve
 obtain ⟨bb, hbb⟩ : ∃ bb, isT (Parse.hd z l) [123] = bb := ⟨_, rfl⟩
 rw [hbb] at hsp HNE
 have HBB := Lib.hid hbb
 clear hbb
 cases hbg : beg z bb d l with
 | bad p er =>
  rw [hbg, Rd.bind_bad] at hsp
  have HSP := Lib.hid hsp
  have HBG := Lib.hid hbg
  clear hsp hbg
  go_enter Tryz.func90, Tryz.ntmps90
  go_wp2
  have hP0 : P < (P + 1) := (by omega)
  have hR0 : P < (P + 1) := (by omega)
  refine region_ph [5] (G1 5 P z d l l) (Bes2 P (P)) [Cd.is (.pointer (some ⟨P, 0, none⟩)), Cd.is (.pointer (some ⟨P, 0, none⟩)), Cd.is (.pointer (some ⟨P, 0, none⟩)), Cd.is (.pointer (some ⟨P, 0, none⟩)), Cd.is (.bool bb), cNo] (by kernel_rfl) (by decide) (by kernel_rfl) (Bes2.refl _ _ _) (fun _ _ _ h k => h.trans k) (fun _ _ h => Bes2.of h) G1.keep ?start ?steps ?behind
  case start =>
   intro x
   exact ⟨fun h => (by cases h), fun _ => HPS.out.drewN 1⟩
  case steps =>
   intro xv W hW a ha
   replace hW := hW.undrew
   simp only [fillA] at ha
   simp only [List.setIfInBounds_toArray, List.set_cons_succ, List.set_cons_zero, Nat.zero_add, Nat.reduceAdd] at ha
   subst ha
   refine ⟨?s0, ?s1, ?s2, ?s3, ?s4, ?s5, trivial⟩
   all_goals intro dn hdi hdw hcl hphi hg K hK
   all_goals (try simp only [Act.put, List.setIfInBounds_toArray, List.set_cons_succ, List.set_cons_zero] at hK)
   case s0 =>
    clear hphi hdw
    refine (if_pos (by rfl)).mpr ?_
    have hq : W.cell? ⟨w.heap.size, 0, none⟩ = some (.pointer (some ⟨P, 0, none⟩)) := (hW.one.cell (p := ⟨w.heap.size, 0, none⟩) HZ.out.1 hwP).trans HCP.out
    go_simp
    exact hK.out _ _ (Below.refl _ _) rfl
   case s1 =>
    clear hphi hdw
    refine (if_pos (by rfl)).mpr ?_
    have hq : W.cell? ⟨w.heap.size, 0, none⟩ = some (.pointer (some ⟨P, 0, none⟩)) := (hW.one.cell (p := ⟨w.heap.size, 0, none⟩) HZ.out.1 hwP).trans HCP.out
    go_simp
    exact hK.out _ _ (Below.refl _ _) rfl
   case s2 =>
    have hx1 : xv 1 = .pointer (some ⟨P, 0, none⟩) := hphi 1 (hdw 1 (by kernel_rfl))
    clear hphi hdw
    rw [hx1] at hK ⊢
    refine (if_pos (by rfl)).mpr ?_
    go_simp
    exact hK.out _ _ (Below.refl _ _) rfl
   case s3 =>
    have hx2 : xv 2 = .pointer (some ⟨P, 0, none⟩) := hphi 2 (hdw 2 (by kernel_rfl))
    clear hphi hdw
    rw [hx2] at hK ⊢
    refine (if_pos (by rfl)).mpr ?_
    go_simp
    exact hK.out _ _ (Below.refl _ _) rfl
   case s4 =>
    have hx3 : xv 3 = .pointer (some ⟨P, 0, none⟩) := hphi 3 (hdw 3 (by kernel_rfl))
    clear hphi hdw
    rw [hx3] at hK ⊢
    refine (if_pos (by rfl)).mpr ?_
    go_simp
    refine (is_at (hg.2 (notYet hcl hdi (by kernel_rfl))) HU.out HBB.out).mono ?_
    rintro e W' ⟨rfl, hb⟩
    exact hK.out _ _ hb rfl
   case s5 =>
    have hx0 : xv 0 = .pointer (some ⟨P, 0, none⟩) := hphi 0 (hdw 0 (by kernel_rfl))
    have hx4 : xv 4 = .bool bb := hphi 4 (hdw 4 (by kernel_rfl))
    clear hphi hdw
    rw [hx0] at hK ⊢
    rw [hx4] at hK ⊢
    refine (if_pos (by rfl)).mpr ?_
    go_simp
    refine (calls_bad (begin_any bb P z l d HNE.out (by omega) W (hg.2 hdi)) HBG.out).mono ?_
    rintro e W' ⟨rfl, hbe⟩
    exact ⟨rfl, rpost_bad HSP.out ((HB0.out.trans hW.one).trans hbe)⟩
  case behind =>
   intro dn xv W hW hall hx hg a ha
   replace hW := hW.undrew
   simp only [fillA] at ha
   simp only [List.setIfInBounds_toArray, List.set_cons_succ, List.set_cons_zero, Nat.zero_add, Nat.reduceAdd] at ha
   subst ha
   exact (hx 5 (by decide) : False).elim
 | ok t l1 =>
  obtain ⟨-, hd256, hl1⟩ := beg_ok HNE.out hbg
  rw [hbg, Rd.bind_ok] at hsp
  have hl1N : l1.length < N := by rw [hl1] at hl; simp only [List.length_cons] at hl; omega
  have HSP := Lib.hid hsp
  have HBG := Lib.hid hbg
  clear hsp hbg hl1 hl
  go_enter Tryz.func90, Tryz.ntmps90
  go_wp2
  have hP0 : P < (P + 1) := (by omega)
  have hR0 : P < (P + 1) := (by omega)
  refine region_ph [5] (G1 5 P z d l l1) (Bes2 P (P)) [Cd.is (.pointer (some ⟨P, 0, none⟩)), Cd.is (.pointer (some ⟨P, 0, none⟩)), Cd.is (.pointer (some ⟨P, 0, none⟩)), Cd.is (.pointer (some ⟨P, 0, none⟩)), Cd.is (.bool bb), Cd.any] (by kernel_rfl) (by decide) (by kernel_rfl) (Bes2.refl _ _ _) (fun _ _ _ h k => h.trans k) (fun _ _ h => Bes2.of h) G1.keep ?start ?steps ?behind
  case start =>
   intro x
   exact ⟨fun h => (by cases h), fun _ => HPS.out.drewN 1⟩
  case steps =>
   intro xv W hW a ha
   replace hW := hW.undrew
   simp only [fillA] at ha
   simp only [List.setIfInBounds_toArray, List.set_cons_succ, List.set_cons_zero, Nat.zero_add, Nat.reduceAdd] at ha
   subst ha
   refine ⟨?s0, ?s1, ?s2, ?s3, ?s4, ?s5, trivial⟩
   all_goals intro dn hdi hdw hcl hphi hg K hK
   all_goals (try simp only [Act.put, List.setIfInBounds_toArray, List.set_cons_succ, List.set_cons_zero] at hK)
   case s0 =>
    clear hphi hdw
    refine (if_pos (by rfl)).mpr ?_
    have hq : W.cell? ⟨w.heap.size, 0, none⟩ = some (.pointer (some ⟨P, 0, none⟩)) := (hW.one.cell (p := ⟨w.heap.size, 0, none⟩) HZ.out.1 hwP).trans HCP.out
    go_simp
    exact hK.out _ _ (Below.refl _ _) rfl
   case s1 =>
    clear hphi hdw
    refine (if_pos (by rfl)).mpr ?_
    have hq : W.cell? ⟨w.heap.size, 0, none⟩ = some (.pointer (some ⟨P, 0, none⟩)) := (hW.one.cell (p := ⟨w.heap.size, 0, none⟩) HZ.out.1 hwP).trans HCP.out
    go_simp
    exact hK.out _ _ (Below.refl _ _) rfl
   case s2 =>
    have hx1 : xv 1 = .pointer (some ⟨P, 0, none⟩) := hphi 1 (hdw 1 (by kernel_rfl))
    clear hphi hdw
    rw [hx1] at hK ⊢
    refine (if_pos (by rfl)).mpr ?_
    go_simp
    exact hK.out _ _ (Below.refl _ _) rfl
   case s3 =>
    have hx2 : xv 2 = .pointer (some ⟨P, 0, none⟩) := hphi 2 (hdw 2 (by kernel_rfl))
    clear hphi hdw
    rw [hx2] at hK ⊢
    refine (if_pos (by rfl)).mpr ?_
    go_simp
    exact hK.out _ _ (Below.refl _ _) rfl
   case s4 =>
    have hx3 : xv 3 = .pointer (some ⟨P, 0, none⟩) := hphi 3 (hdw 3 (by kernel_rfl))
    clear hphi hdw
    rw [hx3] at hK ⊢
    refine (if_pos (by rfl)).mpr ?_
    go_simp
    refine (is_at (hg.2 (notYet hcl hdi (by kernel_rfl))) HU.out HBB.out).mono ?_
    rintro e W' ⟨rfl, hb⟩
    exact hK.out _ _ hb rfl
   case s5 =>
    have hx0 : xv 0 = .pointer (some ⟨P, 0, none⟩) := hphi 0 (hdw 0 (by kernel_rfl))
    have hx4 : xv 4 = .bool bb := hphi 4 (hdw 4 (by kernel_rfl))
    clear hphi hdw
    rw [hx0] at hK ⊢
    rw [hx4] at hK ⊢
    refine (if_pos (by rfl)).mpr ?_
    go_simp
    refine (calls_ok (begin_any bb P z l d HNE.out (by omega) W (hg.2 hdi)) HBG.out).mono ?_
    rintro e W' ⟨v, rfl, hv, hps, hbe⟩
    exact hK.out _ _ ⟨Bes2.bes hbe, G1.call hps⟩ trivial
  case behind =>
   intro dn xv W hW hall hx hg a ha
   replace hW := hW.undrew
   simp only [fillA] at ha
   simp only [List.setIfInBounds_toArray, List.set_cons_succ, List.set_cons_zero, Nat.zero_add, Nat.reduceAdd] at ha
   subst ha
   have HPS1 := Lib.hid (hg.1 (hall 5 (by decide)))
   have HBW := Lib.hid hW.one
   clear hx hg hall hW
   go_wp2
   have HBWw := Lib.hid (HB0.out.trans HBW.out)
   have hs0 : w.heap.size + 2 ≤ W.heap.size := by have q1 := HZ.out.2; have q2 := HBW.out.size; omega
   have HDE := Lib.hid (HDEC.out (d + 1))
   have hend : braces z rd d l = (items z (item z rd (d + 1)) (l1.length + 1) l1).bind fun c l => (Parse.want z [125] l).bind fun _ l => .ok c l := HSP.out
   have hlen1 := HPS1.out.len
   have hPW : P < W.heap.size := by omega
   go_loopg [5] (l1.length + 1) (fun p s5 wr => ∃ (L : List Nd) (l' : List Tk), l'.length < p ∧ L.length + l'.length ≤ l1.length ∧ Hid (OwnK wr W.heap.size s5 L) ∧ Hid (PS wr P z l' d) ∧ Hid (Bes P W wr) ∧ Hid (∃ f, l'.length < f ∧ items z (item z rd (d + 1)) (l1.length + 1) l1 = (items z (item z rd (d + 1)) f l').bind fun c l => .ok (appF (ofL' L) c) l))
   case atStart => exact ⟨[], l1, by omega, by simp, OwnK.nil _ _, HPS1.out, Bes.refl _ _, _, Nat.lt_succ_self _, (Rd.bind_id _).symm⟩
   case round =>
    obtain ⟨L, l', hp, hl', HO, HP2, HB2, HSI⟩ := hrel
    obtain ⟨f, hf, hsi⟩ := HSI.out
    obtain ⟨f, rfl⟩ : ∃ f', f = f' + 1 := ⟨f - 1, by omega⟩
    have hit : items z (item z rd (d + 1)) (f + 1) l' = items z (item z rd (d + 1)) (f + 1) l' := rfl
    conv at hit => rhs; unfold items
    have hcp : wr.cell? ⟨w.heap.size, 0, none⟩ = some (.pointer (some ⟨P, 0, none⟩)) := (HB2.out.cell (p := ⟨w.heap.size, 0, none⟩) (by show w.heap.size < W.heap.size; omega) hwP).trans ((HBW.out.cell (p := ⟨w.heap.size, 0, none⟩) HZ.out.1 hwP).trans HCP.out)
    have hwr : W.heap.size ≤ wr.heap.size := HB2.out.size
    obtain ⟨a, c, rfl, hlc, hcm⟩ := HO.out.slice
    unfold maxLen at hcm
    cases hb : isT (Parse.hd z l') [125] with
    | true =>
     obtain ⟨t, r, rfl⟩ := isT_cons hb (by decide)
     rw [hb, if_pos rfl] at hit
     rw [hit, Rd.bind_ok, appF_nil] at hsi
     have hw : Parse.want z [125] (t :: r) = .ok () r := by unfold Parse.want; rw [if_pos hb]; rfl
     have HFIN : Hid (braces z rd d l = .ok (ofL' L) r) := by
      show _ = _
      rw [hend, hsi, Rd.bind_ok, hw]; rfl
     have HI := Lib.hid (is_at HP2.out HU2.out hb)
     have HW : Hid (∀ W, PS W P z (t :: r) d → Calls Tryz.prog 70 #[.pointer (some ⟨P, 0, none⟩), .string ⟨#[125]⟩] W fun e w' => ∃ v, e = .returned v ∧ UV W w' v () ∧ PS w' P z r d ∧ Bes P W w') := fun W hW => calls_ok (want_at hW HU2.out (by decide)) hw
     clear hb hit hsi hw hend HSI hf
     go_wp2_with fail
     refine HI.out.mono ?_
     rintro e w1 ⟨rfl, hb1⟩
     have HB1 := Lib.hid hb1
     have hcp1 : w1.cell? ⟨w.heap.size, 0, none⟩ = some (.pointer (some ⟨P, 0, none⟩)) := (hb1.cell (p := ⟨w.heap.size, 0, none⟩) (by show w.heap.size < wr.heap.size; omega)).trans hcp
     clear hb1 hcp
     go_wp2_with fail
     refine (HW.out w1 (HP2.out.later HB1.out)).mono ?_
     rintro e w2 ⟨v, rfl, rfl, hps, hbe⟩
     have HPSe := Lib.hid hps
     have HBE := Lib.hid hbe
     clear hps hbe hcp1
     go_wp2
     go_ret
     exact rpost_ok HFIN.out (fv_of (((HO.out.later HB1.out hPW).bes HBE.out hPW).row) (by omega)) HPSe.out ((HBWw.out.trans (HB2.out.then_ HB1.out)).trans HBE.out)
    | false =>
     rw [hb, if_neg (by decide)] at hit
     have HI := Lib.hid (is_at HP2.out HU2.out hb)
     have HDP : Hid (∀ W', Bes P W W' → PS W' P z l' d → Calls Tryz.prog 89 #[.pointer (some ⟨P, 0, none⟩), .int .i64 ((1 : Nat) : Int), .func (.func 102) #[] #[.pointer (some ⟨w.heap.size, 0, none⟩), .pointer (some ⟨w.heap.size + 1, 0, none⟩)]] W' (RPost NV W' P z d (item z rd (d + 1) l'))) :=
      fun W' hW' hps => deeper_any P z N _ (item z rd) 1 l' d W' hps (HRD.out.later (HBW.out.trans hW')) (by omega) (by omega)
     cases hr : item z rd (d + 1) l' with
     | bad p2 er =>
      rw [hr] at hit HDP
      rw [hit] at hsi
      have HFIN : Hid (braces z rd d l = .bad p2 er) := by
       show _ = _
       rw [hend, hsi]; rfl
      clear hb hit hsi hend HSI hf hr
      go_wp2_with fail
      refine HI.out.mono ?_
      rintro e w1 ⟨rfl, hb1⟩
      have HB1 := Lib.hid hb1
      have hcp1 : w1.cell? ⟨w.heap.size, 0, none⟩ = some (.pointer (some ⟨P, 0, none⟩)) := (hb1.cell (p := ⟨w.heap.size, 0, none⟩) (by show w.heap.size < wr.heap.size; omega)).trans hcp
      clear hb1 hcp
      go_wp2_with fail
      refine (calls_bad (HDP.out w1 (HB2.out.then_ HB1.out) (HP2.out.later HB1.out)) rfl).mono ?_
      rintro e w2 ⟨rfl, hbe⟩
      have HE := Lib.hid ((HBWw.out.trans (HB2.out.then_ HB1.out)).trans hbe)
      clear hbe hcp1
      go_wp2
      exact ⟨rfl, rpost_bad HFIN.out HE.out⟩
     | ok n l2 =>
      obtain ⟨nk, nx, ny, nc⟩ := n
      have hdl : l2.length < l'.length := HDE.out l' _ l2 hr
      rw [hr] at hit HDP
      rw [hit, Rd.bind_ok, Rd.bind_bind] at hsi
      have HSI2 : Hid (∃ f, l2.length < f ∧ items z (item z rd (d + 1)) (l1.length + 1) l1 = (items z (item z rd (d + 1)) f l2).bind fun c l => .ok (appF (ofL' (L ++ [⟨nk, nx, ny, nc⟩])) c) l) := ⟨f, by omega, by
       rw [hsi]
       congr 1
       funext c l
       rw [Rd.bind_ok, appF_snoc]⟩
      clear hb hit hsi hend HSI hf hr
      go_wp2_with fail
      refine HI.out.mono ?_
      rintro e w1 ⟨rfl, hb1⟩
      have HB1 := Lib.hid hb1
      have hcp1 : w1.cell? ⟨w.heap.size, 0, none⟩ = some (.pointer (some ⟨P, 0, none⟩)) := (hb1.cell (p := ⟨w.heap.size, 0, none⟩) (by show w.heap.size < wr.heap.size; omega)).trans hcp
      clear hb1 hcp
      go_wp2_with fail
      refine (calls_ok (HDP.out w1 (HB2.out.then_ HB1.out) (HP2.out.later HB1.out)) rfl).mono ?_
      rintro e w2 ⟨v, rfl, ⟨A, C, rfl, hf⟩, hps, hbe⟩
      have hO1 := HO.out.later HB1.out hPW
      have HO2 := Lib.hid (hO1.bes hbe hPW)
      have HF2 := Lib.hid (nd_row (w' := w2) hO1 hf (by have := HB1.out.size; omega))
      have HPS2 := Lib.hid hps
      have HB3 := Lib.hid ((HB2.out.then_ HB1.out).trans hbe)
      have hsz2 : W.heap.size ≤ w2.heap.size := HB3.out.size
      clear hO1 hf hps hbe hcp1
      generalize hm : nc.len = m at *
      clear hm
      go_wp2_with (at_builtin; refine app_nd _ rfl _ _ rfl P W.heap.size hPW (.slice a L.length c) L rfl HO2.out nk nx ny nc A m C HF2.out w2.heap.size rfl rfl (by omega) hsz2 ?_)
      intro v' w3 hO3 hb3
      have HO3 := Lib.hid hO3
      have HB4 := Lib.hid hb3
      clear hO3 hb3
      go_wp2
      go_roundg (l2.length + 1)
      case rel => exact ⟨L ++ [⟨nk, nx, ny, nc⟩], l2, by omega, by simp; omega, HO3, HPS2.out.below HB4.out hPW, HB3.out.bel HB4.out, HSI2⟩
      case measure => omega
end Go.Proofs.YtaiihnniblibaaaGreatDoor.Parse

/-
 Layer 6 (parse): what stands between parentheses (list).
-/
namespace Go.Proofs.YtaiihnniblibaaaGreatDoor.Parse
open Go.ChangeShapes Go.WideShapes Go.ChangeAt Go.RowKit Tree MemT Mem
set_option linter.unusedVariables false

theorem want_ok {z : Nat} {u : List UInt8} {l r : List Tk} {x : Unit} (h : Parse.want z u l = .ok x r) : r = l.tail := by
 unfold Parse.want at h
 split at h
 ·simp only [Rd.ok.injEq] at h; exact h.2.symm
 ·cases h
theorem want_yes {z : Nat} {u : List UInt8} {l : List Tk} (h : isT (Parse.hd z l) u = true) : Parse.want z u l = .ok () l.tail := by
 unfold Parse.want; rw [h]; rfl

set_option maxHeartbeats 8000000 in
set_option maxRecDepth 100000 in
theorem list_any (P z N : Nat) (v : Value) (rd : Nat → List Tk → Rd Nd) (hdec : Dec rd) (l : List Tk) (d : Nat) (w : World) (h : PS w P z l d) (hv : Reads P z w N v rd) (hl : l.length ≤ N) (hd : d + 1 ≤ 300) :
  Calls Tryz.prog 94 #[.pointer (some ⟨P, 0, none⟩), v] w (RPost FV w P z d (list z rd d l)) := by
 have hlt := h.lt
 have HRD := Lib.hid hv
 have HU : Hid ((⟨#[40]⟩ : ByteArray).toList = [40]) := by show _ = _; rw [ByteArray.toList_eq]
 have HU2 : Hid ((⟨#[41]⟩ : ByteArray).toList = [41]) := by show _ = _; rw [ByteArray.toList_eq]
 have HU3 : Hid ((⟨#[44]⟩ : ByteArray).toList = [44]) := by show _ = _; rw [ByteArray.toList_eq]
 have HW0 := Lib.hid (want_at h HU.out (by decide))
 have hsp : list z rd d l = list z rd d l := rfl
 conv at hsp => rhs; unfold list
 obtain ⟨gf, fs, caps, rfl, _, _⟩ := hv
 have hdl : l.length ≤ 10000000 := h.len
 clear h
 cases hw0 : Parse.want z [40] l with
 | bad p er =>
  rw [hw0, Rd.bind_bad] at hsp
  rw [hw0] at HW0
  have HSP := Lib.hid hsp
  clear hsp hw0
  go_enter Tryz.func94, Tryz.ntmps94
  go_wp2_with fail
  refine (calls_bad HW0.out rfl).mono ?_
  rintro e w1 ⟨rfl, hbe⟩
  have HE := Lib.hid hbe
  clear hbe
  go_wp2
  exact ⟨rfl, rpost_bad HSP.out HE.out⟩
 | ok x l1 =>
  have hl1 := want_ok hw0
  have hl1N : l1.length < N := by
   obtain ⟨t, r, rfl⟩ : ∃ t r, l = t :: r := by
    cases l with
    | nil => simp [Parse.want, Parse.hd, isT, e0] at hw0
    | cons t r => exact ⟨t, r, rfl⟩
   rw [hl1]; simp only [List.length_cons, List.tail_cons] at *; omega
  have hlen1 : l1.length ≤ 10000000 := by rw [hl1, List.length_tail]; omega
  rw [hw0, Rd.bind_ok] at hsp
  rw [hw0] at HW0
  have HSP := Lib.hid hsp
  have HDE := Lib.hid (hdec (d + 1))
  clear hsp hw0 hl1 hl hdl hdec
  go_enter Tryz.func94, Tryz.ntmps94
  go_wp2_with fail
  refine (calls_ok HW0.out rfl).mono ?_
  rintro e W ⟨v, rfl, rfl, hps, hbe⟩
  have HPS1 := Lib.hid hps
  have HBWw := Lib.hid hbe
  have hPW : P < W.heap.size := by have := hbe.size; omega
  have hwW : w.heap.size ≤ W.heap.size := hbe.size
  clear hps hbe
  go_wp2
  go_loopg [5] (l1.length + 1) (fun p s5 wr => ∃ (L : List Nd) (l' : List Tk), l'.length < p ∧ L.length + l'.length ≤ l1.length ∧ Hid (OwnK wr W.heap.size s5 L) ∧ Hid (PS wr P z l' d) ∧ Hid (Bes P W wr) ∧ Hid (∃ f, l'.length < f ∧ args z (rd (d + 1)) (l1.length + 1) l1 = (args z (rd (d + 1)) f l').bind fun c l => .ok (appF (ofL' L) c) l))
  case atStart => exact ⟨[], l1, by omega, by simp, OwnK.nil _ _, HPS1.out, Bes.refl _ _, _, Nat.lt_succ_self _, (Rd.bind_id _).symm⟩
  case round =>
   obtain ⟨L, l', hp, hl', HO, HP2, HB2, HSI⟩ := hrel
   obtain ⟨f, hf, hsi⟩ := HSI.out
   obtain ⟨f, rfl⟩ : ∃ f', f = f' + 1 := ⟨f - 1, by omega⟩
   have hit : args z (rd (d + 1)) (f + 1) l' = args z (rd (d + 1)) (f + 1) l' := rfl
   conv at hit => rhs; unfold args
   have hwr : W.heap.size ≤ wr.heap.size := HB2.out.size
   obtain ⟨a, c, rfl, hlc, hcm⟩ := HO.out.slice
   unfold maxLen at hcm
   cases hb : isT (Parse.hd z l') [41] with
   | true =>
    rw [hb, if_pos rfl] at hit
    rw [hit, Rd.bind_ok, appF_nil] at hsi
    have hw := want_yes hb
    have HFIN : Hid (list z rd d l = .ok (ofL' L) l'.tail) := by
     show _ = _
     rw [HSP.out, hsi, Rd.bind_ok, hw]; rfl
    have HI := Lib.hid (is_at HP2.out HU2.out hb)
    have HW : Hid (∀ W, PS W P z l' d → Calls Tryz.prog 70 #[.pointer (some ⟨P, 0, none⟩), .string ⟨#[41]⟩] W fun e w' => ∃ v, e = .returned v ∧ UV W w' v () ∧ PS w' P z l'.tail d ∧ Bes P W w') := fun W hW => calls_ok (want_at hW HU2.out (by decide)) hw
    clear hb hit hsi hw HSI hf
    go_wp2_with fail
    refine HI.out.mono ?_
    rintro e w1 ⟨rfl, hb1⟩
    have HB1 := Lib.hid hb1
    clear hb1
    go_wp2_with fail
    refine (HW.out w1 (HP2.out.later HB1.out)).mono ?_
    rintro e w2 ⟨v, rfl, rfl, hps, hbe⟩
    have HPSe := Lib.hid hps
    have HBE := Lib.hid hbe
    clear hps hbe
    go_wp2
    go_ret
    exact rpost_ok HFIN.out (fv_of (((HO.out.later HB1.out hPW).bes HBE.out hPW).row) hwW) HPSe.out ((HBWw.out.trans (HB2.out.then_ HB1.out)).trans HBE.out)
   | false =>
    rw [hb, if_neg (by decide)] at hit
    have HI := Lib.hid (is_at HP2.out HU2.out hb)
    have HDP : Hid (∀ W', Bes P W W' → PS W' P z l' d → Calls Tryz.prog 89 #[.pointer (some ⟨P, 0, none⟩), .int .i64 ((1 : Nat) : Int), .func (.func gf) fs caps] W' (RPost NV W' P z d (rd (d + 1) l'))) :=
     fun W' hW' hps => deeper_any P z N _ rd 1 l' d W' hps (HRD.out.later (HBWw.out.trans hW')) (by omega) (by omega)
    cases hr : rd (d + 1) l' with
    | bad p2 er =>
     rw [hr] at hit HDP
     rw [hit] at hsi
     have HFIN : Hid (list z rd d l = .bad p2 er) := by
      show _ = _
      rw [HSP.out, hsi]; rfl
     clear hb hit hsi HSI hf hr
     go_wp2_with fail
     refine HI.out.mono ?_
     rintro e w1 ⟨rfl, hb1⟩
     have HB1 := Lib.hid hb1
     clear hb1
     go_wp2_with fail
     refine (calls_bad (HDP.out w1 (HB2.out.then_ HB1.out) (HP2.out.later HB1.out)) rfl).mono ?_
     rintro e w2 ⟨rfl, hbe⟩
     have HE := Lib.hid ((HBWw.out.trans (HB2.out.then_ HB1.out)).trans hbe)
     clear hbe
     go_wp2
     exact ⟨rfl, rpost_bad HFIN.out HE.out⟩
    | ok n l2 =>
     obtain ⟨nk, nx, ny, nc⟩ := n
     have hdl : l2.length < l'.length := HDE.out l' _ l2 hr
     rw [hr] at hit HDP
     rw [hit, Rd.bind_ok] at hsi
     have Hsi := Lib.hid hsi
     clear hit hsi HSI hr hb
     cases hb2 : isT (Parse.hd z l2) [41] with
     | true =>
      have hc : comma z l2 = .ok () l2 := by unfold comma; rw [hb2]; rfl
      have HSI2 : Hid (∃ f, l2.length < f ∧ args z (rd (d + 1)) (l1.length + 1) l1 = (args z (rd (d + 1)) f l2).bind fun c l => .ok (appF (ofL' (L ++ [⟨nk, nx, ny, nc⟩])) c) l) := ⟨f, by omega, by
       rw [Hsi.out, hc, Rd.bind_ok, Rd.bind_bind]
       congr 1
       funext c l
       rw [Rd.bind_ok, appF_snoc]⟩
      have Hb2 := Lib.hid hb2
      clear hb2 hc hf
      go_wp2_with fail
      refine HI.out.mono ?_
      rintro e w1 ⟨rfl, hb1⟩
      have HB1 := Lib.hid hb1
      clear hb1
      go_wp2_with fail
      refine (calls_ok (HDP.out w1 (HB2.out.then_ HB1.out) (HP2.out.later HB1.out)) rfl).mono ?_
      rintro e w2 ⟨v, rfl, ⟨A, C, rfl, hf⟩, hps, hbe⟩
      have hO1 := HO.out.later HB1.out hPW
      have HO2 := Lib.hid (hO1.bes hbe hPW)
      have HF2 := Lib.hid (nd_row (w' := w2) hO1 hf (by have := HB1.out.size; omega))
      have HPS2 := Lib.hid hps
      have HB3 := Lib.hid ((HB2.out.then_ HB1.out).trans hbe)
      have hsz2 : W.heap.size ≤ w2.heap.size := HB3.out.size
      clear hO1 hf hps hbe
      generalize hm : nc.len = m at *
      clear hm
      go_wp2_with (at_builtin; refine app_nd _ rfl _ _ rfl P W.heap.size hPW (.slice a L.length c) L rfl HO2.out nk nx ny nc A m C HF2.out w2.heap.size rfl rfl (by omega) hsz2 ?_)
      intro v' w3 hO3 hb3
      have HO3 := Lib.hid hO3
      have HPS3 := Lib.hid (HPS2.out.below hb3 hPW)
      have HB4 := Lib.hid (HB3.out.bel hb3)
      have hsz3 : W.heap.size ≤ w3.heap.size := HB4.out.size
      obtain ⟨a3, c3, rfl, _, _⟩ := hO3.slice
      clear hO3 hb3
      generalize (L ++ [(⟨nk, nx, ny, nc⟩ : Nd)]).length = N3 at *
      go_wp2_with fail
      refine (is_at HPS3.out HU2.out Hb2.out).mono ?_
      rintro e w4 ⟨rfl, hb4⟩
      have HO4 := Lib.hid (HO3.out.later hb4 hPW)
      have HPS4 := Lib.hid (HPS3.out.later hb4)
      have HB5 := Lib.hid (HB4.out.then_ hb4)
      clear hb4
      go_wp2
      go_roundg (l2.length + 1)
      case rel => exact ⟨L ++ [⟨nk, nx, ny, nc⟩], l2, by omega, by simp; omega, HO4, HPS4, HB5, HSI2⟩
      case measure => omega
     | false =>
      cases hw : Parse.want z [44] l2 with
      | bad p2 er =>
       have hc : comma z l2 = .bad p2 er := by unfold comma; rw [hb2]; exact hw
       have HFIN : Hid (list z rd d l = .bad p2 er) := by
        show _ = _
        rw [HSP.out, Hsi.out, hc]; rfl
       have Hw := Lib.hid hw
       have Hb2 := Lib.hid hb2
       clear hb2 hc hf hw
       go_wp2_with fail
       refine HI.out.mono ?_
       rintro e w1 ⟨rfl, hb1⟩
       have HB1 := Lib.hid hb1
       clear hb1
       go_wp2_with fail
       refine (calls_ok (HDP.out w1 (HB2.out.then_ HB1.out) (HP2.out.later HB1.out)) rfl).mono ?_
       rintro e w2 ⟨v, rfl, ⟨A, C, rfl, hf⟩, hps, hbe⟩
       have hO1 := HO.out.later HB1.out hPW
       have HO2 := Lib.hid (hO1.bes hbe hPW)
       have HF2 := Lib.hid (nd_row (w' := w2) hO1 hf (by have := HB1.out.size; omega))
       have HPS2 := Lib.hid hps
       have HB3 := Lib.hid ((HB2.out.then_ HB1.out).trans hbe)
       have hsz2 : W.heap.size ≤ w2.heap.size := HB3.out.size
       clear hO1 hf hps hbe
       generalize hm : nc.len = m at *
       clear hm
       go_wp2_with (at_builtin; refine app_nd _ rfl _ _ rfl P W.heap.size hPW (.slice a L.length c) L rfl HO2.out nk nx ny nc A m C HF2.out w2.heap.size rfl rfl (by omega) hsz2 ?_)
       intro v' w3 hO3 hb3
       have HO3 := Lib.hid hO3
       have HPS3 := Lib.hid (HPS2.out.below hb3 hPW)
       have HB4 := Lib.hid (HB3.out.bel hb3)
       have hsz3 : W.heap.size ≤ w3.heap.size := HB4.out.size
       obtain ⟨a3, c3, rfl, _, _⟩ := hO3.slice
       clear hO3 hb3
       generalize (L ++ [(⟨nk, nx, ny, nc⟩ : Nd)]).length = N3 at *
       go_wp2_with fail
       refine (is_at HPS3.out HU2.out Hb2.out).mono ?_
       rintro e w4 ⟨rfl, hb4⟩
       have HO4 := Lib.hid (HO3.out.later hb4 hPW)
       have HPS4 := Lib.hid (HPS3.out.later hb4)
       have HB5 := Lib.hid (HB4.out.then_ hb4)
       clear hb4
       go_wp2_with fail
       refine (calls_bad (want_at HPS4.out HU3.out (by decide)) Hw.out).mono ?_
       rintro e w5 ⟨rfl, hbe⟩
       have HE := Lib.hid ((HBWw.out.trans HB5.out).trans hbe)
       clear hbe
       go_wp2
       exact ⟨rfl, rpost_bad HFIN.out HE.out⟩
      | ok x3 l3 =>
       have hc : comma z l2 = .ok x3 l3 := by unfold comma; rw [hb2]; exact hw
       have hl3 : l3.length ≤ l2.length := by rw [want_ok hw, List.length_tail]; omega
       have HSI2 : Hid (∃ f, l3.length < f ∧ args z (rd (d + 1)) (l1.length + 1) l1 = (args z (rd (d + 1)) f l3).bind fun c l => .ok (appF (ofL' (L ++ [⟨nk, nx, ny, nc⟩])) c) l) := ⟨f, by omega, by
        rw [Hsi.out, hc, Rd.bind_ok, Rd.bind_bind]
        congr 1
        funext c l
        rw [Rd.bind_ok, appF_snoc]⟩
       have Hw := Lib.hid hw
       have Hb2 := Lib.hid hb2
       clear hb2 hc hf hw
       go_wp2_with fail
       refine HI.out.mono ?_
       rintro e w1 ⟨rfl, hb1⟩
       have HB1 := Lib.hid hb1
       clear hb1
       go_wp2_with fail
       refine (calls_ok (HDP.out w1 (HB2.out.then_ HB1.out) (HP2.out.later HB1.out)) rfl).mono ?_
       rintro e w2 ⟨v, rfl, ⟨A, C, rfl, hf⟩, hps, hbe⟩
       have hO1 := HO.out.later HB1.out hPW
       have HO2 := Lib.hid (hO1.bes hbe hPW)
       have HF2 := Lib.hid (nd_row (w' := w2) hO1 hf (by have := HB1.out.size; omega))
       have HPS2 := Lib.hid hps
       have HB3 := Lib.hid ((HB2.out.then_ HB1.out).trans hbe)
       have hsz2 : W.heap.size ≤ w2.heap.size := HB3.out.size
       clear hO1 hf hps hbe
       generalize hm : nc.len = m at *
       clear hm
       go_wp2_with (at_builtin; refine app_nd _ rfl _ _ rfl P W.heap.size hPW (.slice a L.length c) L rfl HO2.out nk nx ny nc A m C HF2.out w2.heap.size rfl rfl (by omega) hsz2 ?_)
       intro v' w3 hO3 hb3
       have HO3 := Lib.hid hO3
       have HPS3 := Lib.hid (HPS2.out.below hb3 hPW)
       have HB4 := Lib.hid (HB3.out.bel hb3)
       have hsz3 : W.heap.size ≤ w3.heap.size := HB4.out.size
       obtain ⟨a3, c3, rfl, _, _⟩ := hO3.slice
       clear hO3 hb3
       generalize (L ++ [(⟨nk, nx, ny, nc⟩ : Nd)]).length = N3 at *
       go_wp2_with fail
       refine (is_at HPS3.out HU2.out Hb2.out).mono ?_
       rintro e w4 ⟨rfl, hb4⟩
       have HO4 := Lib.hid (HO3.out.later hb4 hPW)
       have HPS4 := Lib.hid (HPS3.out.later hb4)
       have HB5 := Lib.hid (HB4.out.then_ hb4)
       clear hb4
       go_wp2_with fail
       refine (calls_ok (want_at HPS4.out HU3.out (by decide)) Hw.out).mono ?_
       rintro e w5 ⟨v, rfl, rfl, hps, hbe⟩
       have HO5 := Lib.hid (HO4.out.bes hbe hPW)
       have HPS5 := Lib.hid hps
       have HB6 := Lib.hid (HB5.out.trans hbe)
       clear hps hbe
       go_wp2
       go_roundg (l3.length + 1)
       case rel => exact ⟨L ++ [⟨nk, nx, ny, nc⟩], l3, by omega, by simp; omega, HO5, HPS5, HB6, HSI2⟩
       case measure => omega
end Go.Proofs.YtaiihnniblibaaaGreatDoor.Parse

/-
 Layer 6 (parse): new rows of nodes, told as they stand.
-/
namespace Go.Proofs.YtaiihnniblibaaaGreatDoor.Parse
open Go.ChangeShapes Go.WideShapes Go.ChangeAt Go.RowKit Tree MemT Mem
set_option linter.unusedVariables false

theorem rowF1 (w : World) (B0 : Nat) (hB : B0 ≤ w.heap.size) (k : Int) (x y : ByteArray) (c : F) (s : Value) (hf : Fs w (Mi B0 w.heap.size) s c) :
  Fs (w.alloc (.cells #[.int .i64 k, .string x, .string y, s] 24)) (Mi B0 (w.alloc (.cells #[.int .i64 k, .string x, .string y, s] 24)).heap.size) (.slice (some ⟨w.heap.size, 0, none⟩) 1 1) (one ⟨k, x, y, c⟩) :=
 row_new w B0 [(⟨k, x, y, c⟩, s)] _ (by rfl) 1 rfl (by omega) hB (fun p hp => by simp at hp; subst hp; exact hf)
theorem isT_yes {k : Int} {x : ByteArray} {p : Nat} {f : Bool} {u : List UInt8} (h : (x.toList == u) = true) : isT ⟨k, x, p, f⟩ u = true := h
theorem isT_no {k : Int} {x : ByteArray} {p : Nat} {f : Bool} {u : List UInt8} (h : (x.toList == u) = false) : ¬ isT ⟨k, x, p, f⟩ u = true := fun h2 => by
 have h3 : (x.toList == u) = true := h2
 rw [h] at h3; cases h3
/-- Behind a call that reads a node: the node, its row, where one stands. -/
theorem nv_at {w W W' : World} {P z d : Nat} {l0 l : List Tk} {n : Nd} {v : Value} (h : Stt w W P z d l0) (hv : NV W W' v n) (hps : PS W' P z l d) (hb : Bes P W W') : ∃ A C, v = .agg #[.int .i64 n.k, .string n.x, .string n.y, .slice A n.c.len C] ∧ Fs W' (Mi (w.heap.size + 1) W'.heap.size) (.slice A n.c.len C) n.c ∧ Stt w W' P z d l := by
 obtain ⟨A, C, e, hf⟩ := hv
 exact ⟨A, C, e, mi_more hf h.size (Nat.le_refl _), h.read hb hps⟩
theorem fv_at {w W W' : World} {P z d : Nat} {l0 l : List Tk} {c : F} {v : Value} (h : Stt w W P z d l0) (hv : FV W W' v c) (hps : PS W' P z l d) (hb : Bes P W W') : ∃ A C, v = .slice A c.len C ∧ Fs W' (Mi (w.heap.size + 1) W'.heap.size) (.slice A c.len C) c ∧ Stt w W' P z d l := by
 obtain ⟨A, C, e, hf⟩ := hv
 exact ⟨A, C, e, mi_more hf h.size (Nat.le_refl _), h.read hb hps⟩
end Go.Proofs.YtaiihnniblibaaaGreatDoor.Parse
