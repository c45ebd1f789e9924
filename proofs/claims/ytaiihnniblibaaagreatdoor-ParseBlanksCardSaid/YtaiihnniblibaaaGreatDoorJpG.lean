import Derived.Test.YtaiihnniblibaaaGreatDoorParseTyp
import Derived.ArgAppend

/-
 Layer 6 (parse), plain mathematics: every reader takes a token at least.
-/
namespace Go.Proofs.YtaiihnniblibaaaGreatDoor.Parse
open Tree
set_option linter.unusedVariables false

def Lt {α : Type} (m : Nat) (x : Rd α) : Prop := ∀ a r, x = .ok a r → r.length < m
section
variable {α β : Type} {m m' z d : Nat}
theorem Lt.bind {x : Rd α} {f : α → List Tk → Rd β} (hx : Lt m x) (hf : ∀ a r, r.length < m → Lt m (f a r)) : Lt m (x.bind f) := by
 intro b r h
 cases x with
 | bad p e => cases h
 | ok a r1 => exact hf a r1 (hx a r1 rfl) b r h
theorem Lt.ok {a : α} {r : List Tk} (h : r.length < m) : Lt m (Rd.ok a r) := by
 intro b r' e
 simp only [Rd.ok.injEq] at e
 rw [← e.2]; exact h
theorem Lt.bad {p : Nat} {e : Int} : Lt m (Rd.bad p e : Rd α) := by intro b r h; cases h
theorem Lt.mono {x : Rd α} (h : Lt m x) (hm : m ≤ m') : Lt m' x := fun a r e => Nat.lt_of_lt_of_le (h a r e) hm
theorem Lt.ite {c : Prop} [Decidable c] {x y : Rd α} (hx : c → Lt m x) (hy : ¬ c → Lt m y) : Lt m (if c then x else y) := by
 split
 ·exact hx (by assumption)
 ·exact hy (by assumption)
theorem lt_tail {l : List Tk} (h : l.length < m) : l.tail.length < m := by rw [List.length_tail]; omega
theorem lt_want {u : List UInt8} {l : List Tk} (h : l.length < m) : Lt m (Parse.want z u l) := Lt.ite (fun _ => Lt.ok (lt_tail h)) fun _ => Lt.bad
theorem lt_must {f : Bool} {l : List Tk} (h : l.length < m) : Lt m (must z f l) := Lt.ite (fun _ => Lt.ok h) fun _ => Lt.bad
theorem lt_name {l : List Tk} (h : l.length < m) : Lt m (name z l) := Lt.ite (fun _ => Lt.ok (lt_tail h)) fun _ => Lt.bad
theorem lt_beg {f : Bool} {l : List Tk} (hf : f = true → l ≠ []) : Lt l.length (beg z f d l) := fun t r h => beg_len hf h
theorem lt_beg' {f : Bool} {l : List Tk} (h : l.length < m) : Lt m (beg z f d l) := Lt.ite (fun _ => Lt.ite (fun _ => Lt.bad) fun _ => Lt.ok (lt_tail h)) fun _ => Lt.bad
theorem Dec.lt {rd : Nat → List Tk → Rd Nd} (h : Dec rd) {l : List Tk} (hl : l.length < m) : Lt m (rd d l) := fun n r e => Nat.lt_trans (h d l n r e) hl
theorem Dec.of {rd : Nat → List Tk → Rd Nd} (h : ∀ d l, Lt l.length (rd d l)) : Dec rd := fun d l n r e => h d l n r e
theorem lt_items {it : List Tk → Rd Nd} (hit : ∀ l, Lt l.length (it l)) : ∀ (f : Nat) {l : List Tk}, l.length < m → Lt m (items z it f l)
 | 0, l, h => Lt.bad
 | f + 1, l, h => Lt.ite (fun _ => Lt.ok h) fun _ => Lt.bind ((hit l).mono (Nat.le_of_lt h)) fun n r hr => Lt.bind (lt_items hit f hr) fun c r2 h2 => Lt.ok h2
theorem lt_item {rd : Nat → List Tk → Rd Nd} (h : Dec rd) (d : Nat) (l : List Tk) : Lt l.length (item z rd d l) := fun n r e => item_dec h d l n r e
theorem lt_braces {rd : Nat → List Tk → Rd Nd} (h : Dec rd) {l : List Tk} (hl : l.length < m) : Lt m (braces z rd d l) :=
 Lt.bind (lt_beg' hl) fun t r hr => Lt.bind (lt_items (fun l => lt_item h _ l) _ hr) fun c r2 h2 => Lt.bind (lt_want h2) fun _ r3 h3 => Lt.ok h3
theorem lt_braces0 {rd : Nat → List Tk → Rd Nd} (h : Dec rd) {l : List Tk} : Lt l.length (braces z rd d l) :=
 Lt.bind (lt_beg fun hn e => by subst e; obtain ⟨t, r, e⟩ := isT_cons hn (by decide); cases e) fun t r hr => Lt.bind (lt_items (fun l => lt_item h _ l) _ hr) fun c r2 h2 => Lt.bind (lt_want h2) fun _ r3 h3 => Lt.ok h3
theorem lt_args {rd : List Tk → Rd Nd} (hit : ∀ l, Lt l.length (rd l)) : ∀ (f : Nat) {l : List Tk}, l.length < m → Lt m (args z rd f l)
 | 0, l, h => Lt.bad
 | f + 1, l, h => Lt.ite (fun _ => Lt.ok h) fun _ => Lt.bind ((hit l).mono (Nat.le_of_lt h)) fun n r hr => Lt.bind (Lt.ite (fun _ => Lt.ok hr) fun _ => lt_want hr) fun _ r1 h1 => Lt.bind (lt_args hit f h1) fun c r2 h2 => Lt.ok h2
theorem lt_list {rd : Nat → List Tk → Rd Nd} (h : Dec rd) {l : List Tk} (hl : l.length < m) : Lt m (list z rd d l) :=
 Lt.bind (lt_want hl) fun _ r hr => Lt.bind (lt_args (fun l => fun n r e => h _ l n r e) _ hr) fun c r2 h2 => Lt.bind (lt_want h2) fun _ r3 h3 => Lt.ok h3

theorem typ1_dec {ty : Nat → List Tk → Rd Nd} (h : Dec ty) : Dec (typ1 z ty) := Dec.of fun d l =>
 Lt.bind (lt_beg begT_ne) fun t r hr => Lt.ite (fun _ => Lt.bind (h.lt hr) fun _ _ h => Lt.ok h) fun _ => Lt.ite (fun _ => Lt.bind (lt_want hr) fun _ _ h1 => Lt.bind (h.lt h1) fun _ _ h => Lt.ok h) fun _ =>
  Lt.ite (fun _ => Lt.bind (lt_want hr) fun _ _ h1 => Lt.bind (h.lt h1) fun _ _ h2 => Lt.bind (lt_want h2) fun _ _ h3 => Lt.bind (h.lt h3) fun _ _ h => Lt.ok h) fun _ =>
  Lt.ite (fun _ => Lt.bind (lt_braces (typed_dec h) hr) fun _ _ h => Lt.ok h) fun _ => Lt.ok hr
theorem typR_dec (z : Nat) : ∀ f, Dec (typR z f)
 | 0 => fun d l n r h => by cases h
 | f + 1 => typ1_dec (typR_dec z f)
theorem tyR_dec (z : Nat) : Dec (tyR z) := fun d l n r h => typR_dec z _ d l n r h

theorem begU_ne {l : List Tk} (h : begU (Parse.hd z l) = true) : l ≠ [] := fun e => by
 subst e
 simp [begU, Parse.hd, isT, isNm, isSign, e0] at h
theorem lt_first {ex : Nat → Nat → List Tk → Rd Nd} (h : ∀ k, Dec (ex k)) {t : Tk} {l : List Tk} (hl : l.length < m) : Lt m (first z ex d t l) :=
 Lt.ite (fun _ => Lt.ok hl) fun _ => Lt.ite (fun _ => Lt.ok hl) fun _ => Lt.ite (fun _ => Lt.bind ((h 1).lt hl) fun _ _ h1 => Lt.bind (lt_want h1) fun _ _ h2 => Lt.ok h2) fun _ => Lt.ok hl
theorem lt_behind {ex : Nat → Nat → List Tk → Rd Nd} (h : ∀ k, Dec (ex k)) : ∀ (f : Nat) {n : Nd} {l : List Tk}, l.length < m → Lt m (behind z ex d f n l)
 | 0, _, _, _ => Lt.bad
 | f + 1, n, l, hl => Lt.ite (fun _ => Lt.bind (lt_list (h 1) hl) fun _ _ h1 => lt_behind h f h1) fun _ =>
  Lt.ite (fun _ => Lt.bind ((h 1).lt (lt_tail hl)) fun _ _ h1 => Lt.bind (lt_want h1) fun _ _ h2 => lt_behind h f h2) fun _ => Lt.ite (fun _ => Lt.bind (lt_name (lt_tail hl)) fun _ _ h1 => lt_behind h f h1) fun _ => Lt.ok hl
theorem unR_dec {ex : Nat → Nat → List Tk → Rd Nd} (h : ∀ k, Dec (ex k)) : ∀ f, Dec (unR z ex f)
 | 0 => fun d l n r h => by cases h
 | f + 1 => Dec.of fun d l => Lt.bind (lt_beg begU_ne) fun t r hr => Lt.ite (fun _ => Lt.bind ((unR_dec h f).lt hr) fun _ _ h1 => Lt.ok h1) fun _ => Lt.bind (lt_first h hr) fun _ _ h1 => lt_behind h _ h1
theorem lt_loopB {ex : Nat → Nat → List Tk → Rd Nd} {least : Nat} (h : ∀ k, Dec (ex k)) : ∀ (f : Nat) {n : Nd} {l : List Tk}, l.length < m → Lt m (loopB z ex least d f n l)
 | 0, _, _, _ => Lt.bad
 | f + 1, n, l, hl => Lt.ite (fun _ => Lt.bind ((h _).lt (lt_tail hl)) fun _ _ h1 => lt_loopB h f h1) fun _ => Lt.ok hl
theorem bindR_dec (z : Nat) : ∀ (f least : Nat), Dec (bindR z f least)
 | 0, least => fun d l n r h => by cases h
 | f + 1, least => Dec.of fun d l => Lt.bind (fun n r e => unR_dec (bindR_dec z f) _ d l n r e) fun n r hr => lt_loopB (bindR_dec z f) _ hr
theorem exR_dec (z : Nat) : Dec (exR z) := fun d l n r h => bindR_dec z _ 1 d l n r h

theorem isT_ne {u : List UInt8} {l : List Tk} (hu : u ≠ []) (h : isT (Parse.hd z l) u = true) : l ≠ [] := fun e => by
 subst e
 obtain ⟨t, r, e⟩ := isT_cons h hu
 cases e
theorem varR_dec (z : Nat) : Dec (varR z) := Dec.of fun d l => Lt.bind (lt_beg (isT_ne (by decide))) fun _ _ h => Lt.bind (lt_name h) fun _ _ h => Lt.bind (Lt.ite (fun _ => Lt.ok h) fun _ => (tyR_dec z).lt h) fun _ _ h =>
 Lt.bind (Lt.ite (fun _ => (exR_dec z).lt (lt_tail h)) fun _ => Lt.ok h) fun _ _ h => Lt.ok h
theorem lt_blockR {st : Nat → List Tk → Rd Nd} (h : Dec st) {l : List Tk} (hl : l.length < m) : Lt m (blockR z st d l) := Lt.bind (lt_braces h hl) fun _ _ h => Lt.ok h
theorem block_dec {st : Nat → List Tk → Rd Nd} (h : Dec st) : Dec (blockR z st) := Dec.of fun d l => Lt.bind (lt_braces0 h) fun _ _ h => Lt.ok h
theorem branchR_dec {st : Nat → List Tk → Rd Nd} (h : Dec st) : ∀ f, Dec (branchR z st f)
 | 0 => fun d l n r h => by cases h
 | f + 1 => Dec.of fun d l => Lt.bind (lt_beg (isT_ne (by decide))) fun _ _ h1 => Lt.bind ((exR_dec z).lt h1) fun _ _ h2 => Lt.bind (lt_blockR h h2) fun _ _ h3 =>
  Lt.bind (Lt.ite (fun _ => Lt.ite (fun _ => (branchR_dec h f).lt (lt_tail h3)) fun _ => lt_blockR h (lt_tail h3)) fun _ => Lt.ok h3) fun _ _ h4 => Lt.ok h4
theorem forR_dec {st : Nat → List Tk → Rd Nd} (h : Dec st) : Dec (forR z st) := Dec.of fun d l => Lt.bind (lt_beg (isT_ne (by decide))) fun _ _ h1 => Lt.bind (Lt.ite (fun _ => Lt.ok h1) fun _ => (exR_dec z).lt h1) fun _ _ h2 => Lt.bind (lt_blockR h h2) fun _ _ h3 => Lt.ok h3
theorem lt_commas : ∀ (f : Nat) {l : List Tk}, l.length < m → Lt m (commas z d f l)
 | 0, _, _ => Lt.bad
 | f + 1, l, hl => Lt.ite (fun _ => Lt.bind ((exR_dec z).lt (lt_tail hl)) fun _ _ h1 => Lt.bind (lt_commas f h1) fun _ _ h2 => Lt.ok h2) fun _ => Lt.ok hl
theorem retR_dec (z : Nat) : Dec (retR z) := Dec.of fun d l => Lt.bind (lt_beg (isT_ne (by decide))) fun _ _ h1 => Lt.ite (fun _ => Lt.ok h1) fun _ => Lt.bind ((exR_dec z).lt h1) fun _ _ h2 => Lt.bind (lt_commas _ h2) fun _ _ h3 => Lt.ok h3
theorem simpleR_dec (z : Nat) : Dec (simpleR z) := Dec.of fun d l => Lt.bind (fun n r e => exR_dec z d l n r e) fun n r h => Lt.ite (fun _ => Lt.bind (lt_must h) fun _ _ h1 => Lt.bind ((exR_dec z).lt (lt_tail h1)) fun _ _ h2 => Lt.ok h2) fun _ =>
 Lt.ite (fun _ => Lt.bind (lt_must h) fun _ _ h1 => Lt.bind ((exR_dec z).lt (lt_tail h1)) fun _ _ h2 => Lt.ok h2) fun _ => Lt.ite (fun _ => Lt.bind (lt_must h) fun _ _ h1 => Lt.ok (lt_tail h1)) fun _ => Lt.bind (lt_must h) fun _ _ h1 => Lt.ok h1
theorem lt_jump {k : Int} {l : List Tk} (hl : l ≠ []) : Lt l.length (jumpR z k d l) := Lt.bind (lt_beg fun _ => hl) fun _ _ h => Lt.ok h
theorem stRest_dec {st : Nat → List Tk → Rd Nd} (h : Dec st) : Dec (stRest z st) := Dec.of fun d l =>
 Lt.ite (fun _ n r e => varR_dec z d l n r e) fun _ => Lt.ite (fun _ n r e => block_dec h d l n r e) fun _ => Lt.ite (fun _ n r e => branchR_dec h _ d l n r e) fun _ => Lt.ite (fun _ n r e => forR_dec h d l n r e) fun _ =>
 Lt.ite (fun _ n r e => retR_dec z d l n r e) fun _ => Lt.ite (fun hq => lt_jump (isT_ne (by decide) hq)) fun _ => Lt.ite (fun hq => lt_jump (isT_ne (by decide) hq)) fun _ => fun n r e => simpleR_dec z d l n r e
theorem stR_dec (z : Nat) : ∀ f, Dec (stR z f)
 | 0 => fun d l n r h => by cases h
 | f + 1 => stRest_dec (stR_dec z f)
theorem stmR_dec (z : Nat) : Dec (stmR z) := fun d l n r h => stR_dec z _ d l n r h
theorem funcR_dec (z : Nat) : Dec (funcR z) := Dec.of fun d l => Lt.bind (lt_beg (isT_ne (by decide))) fun _ _ h1 =>
 Lt.bind (Lt.ite (fun _ => Lt.bind ((typed_dec (tyR_dec z)).lt (lt_tail h1)) fun _ _ h2 => Lt.bind (lt_want h2) fun _ _ h3 => Lt.ok h3) fun _ => Lt.ok h1) fun _ _ h2 => Lt.bind (lt_name h2) fun _ _ h3 => Lt.bind (lt_list (typed_dec (tyR_dec z)) h3) fun _ _ h4 =>
 Lt.bind (Lt.ite (fun _ => Lt.ok h4) fun _ => (tyR_dec z).lt h4) fun _ _ h5 => Lt.bind (lt_blockR (stmR_dec z) h5) fun _ _ h6 => Lt.ok h6
theorem tail_lt {l : List Tk} (h : l ≠ []) : l.tail.length < l.length := by
 cases l with
 | nil => exact absurd rfl h
 | cons t r => simp
theorem declR_dec (z : Nat) : Dec (declR z) := Dec.of fun d l =>
 Lt.ite (fun hq => Lt.bind (lt_name (tail_lt (isT_ne (by decide) hq))) fun _ _ h => Lt.ok h) fun _ => Lt.ite (fun hq => Lt.bind (lt_must (tail_lt (isT_ne (by decide) hq))) fun _ _ h => Lt.ok (lt_tail h)) fun _ =>
 Lt.ite (fun hq => Lt.bind (lt_name (tail_lt (isT_ne (by decide) hq))) fun _ _ h => Lt.bind (lt_want h) fun _ _ h => Lt.bind ((exR_dec z).lt h) fun _ _ h => Lt.ok h) fun _ =>
 Lt.ite (fun hq => Lt.bind (lt_name (tail_lt (isT_ne (by decide) hq))) fun _ _ h => Lt.bind ((tyR_dec z).lt h) fun _ _ h => Lt.ok h) fun _ => Lt.ite (fun _ n r e => varR_dec z d l n r e) fun _ => fun n r e => funcR_dec z d l n r e
end
end Go.Proofs.YtaiihnniblibaaaGreatDoor.Parse

/-
 Layer 6 (parse): a reading function with a variable of its own, that holds a node whose Kids may be older.
-/
namespace Go.Proofs.YtaiihnniblibaaaGreatDoor.Parse
open Go.ChangeShapes Go.WideShapes Go.ChangeAt Go.RowKit Tree MemT Mem
set_option linter.unusedVariables false

/-- The blocks from B0 on and below B, but g and g'. -/
def Mx (B0 g g' B : Nat) : Nat → Prop := fun b => B0 ≤ b ∧ b < B ∧ b ≠ g ∧ b ≠ g'
section
variable {P B0 g g' : Nat} {w w' : World} {v : Value} {f : F}
theorem mx_of {B1 B : Nat} (h : Fs w (Mi B1 B) v f) (h0 : B0 ≤ B1) (h1 : g < B1 ∨ B ≤ g) (h2 : g' < B1 ∨ B ≤ g') {B' : Nat} (hB : B ≤ B') : Fs w (Mx B0 g g' B') v f :=
 h.more fun b hb => ⟨Nat.le_trans h0 hb.1, Nat.lt_of_lt_of_le hb.2 hB, by have := hb.1; have := hb.2; omega, by have := hb.1; have := hb.2; omega⟩
theorem mx_mi {B : Nat} (h : Fs w (Mx B0 g g' B) v f) : Fs w (Mi B0 B) v f := h.more fun b hb => ⟨hb.1, hb.2.1⟩
theorem mx_bes2 (h : Fs w (Mx B0 g g' w.heap.size) v f) (hb : Bes2 P g w w') (hP : P < B0) : Fs w' (Mx B0 g g' w'.heap.size) v f :=
 (h.keep fun b hb' => hb.block b hb'.2.1 (by have := hb'.1; omega) hb'.2.2.1).more fun b hb' => ⟨hb'.1, Nat.lt_of_lt_of_le hb'.2.1 hb.size, hb'.2.2⟩
theorem mx_bes (h : Fs w (Mx B0 g g' w.heap.size) v f) (hb : Bes P w w') (hP : P < B0) : Fs w' (Mx B0 g g' w'.heap.size) v f := mx_bes2 h (Bes2.bes hb) hP
theorem mx_later (h : Fs w (Mx B0 g g' w.heap.size) v f) (hb : Below w.heap.size w w') (hP : P < B0) : Fs w' (Mx B0 g g' w'.heap.size) v f := mx_bes h (Bes.of hb P) hP
theorem mx_set4 (h : Fs w (Mx B0 g g' w.heap.size) v f) (v0 v1 v2 v3 : Value) : Fs ((((w.setCell ⟨g, 0, none⟩ v0).setCell ⟨g, 1, none⟩ v1).setCell ⟨g, 2, none⟩ v2).setCell ⟨g, 3, none⟩ v3) (Mx B0 g g' ((((w.setCell ⟨g, 0, none⟩ v0).setCell ⟨g, 1, none⟩ v1).setCell ⟨g, 2, none⟩ v2).setCell ⟨g, 3, none⟩ v3).heap.size) v f := by
 rw [size_set4]
 exact h.keep fun b hb => (Bes2.set4 (P := g) w v0 v1 v2 v3).block b hb.2.1 hb.2.2.1 hb.2.2.1
end
def NdX (B0 g g' : Nat) (n : Nd) (v : Value) (w : World) : Prop := ∃ A C, v = .agg #[.int .i64 n.k, .string n.x, .string n.y, .slice A n.c.len C] ∧ Fs w (Mx B0 g g' w.heap.size) (.slice A n.c.len C) n.c
def RowX (B0 g g' : Nat) (c : F) (v : Value) (w : World) : Prop := ∃ A C, v = .slice A c.len C ∧ Fs w (Mx B0 g g' w.heap.size) (.slice A c.len C) c
def cNdX {P g : Nat} (B0 g' : Nat) (hP : P < B0) (n : Nd) : Cd (Bes2 P g) := ⟨NdX B0 g g' n, fun v W W' h ⟨A, C, e, hf⟩ => ⟨A, C, e, mx_bes2 hf h hP⟩⟩
def cRowX {P g : Nat} (B0 g' : Nat) (hP : P < B0) (c : F) : Cd (Bes2 P g) := ⟨RowX B0 g g' c, fun v W W' h ⟨A, C, e, hf⟩ => ⟨A, C, e, mx_bes2 hf h hP⟩⟩
/-- The variable g holds the node n. -/
def FinX (B0 g g' : Nat) (n : Nd) (W : World) : Prop := ∃ A C, Box4 W g 24 (.int .i64 n.k) (.string n.x) (.string n.y) (.slice A n.c.len C) ∧ Fs W (Mx B0 g g' W.heap.size) (.slice A n.c.len C) n.c
section
variable {P B0 g g' : Nat} {n : Nd} {W W' : World}
theorem FinX.later (hP : P < B0) (W W' : World) (hb : Below W.heap.size W W') (h : FinX B0 g g' n W) : FinX B0 g g' n W' := by
 obtain ⟨A, C, h1, h2⟩ := h
 exact ⟨A, C, h1.later hb, mx_later h2 hb hP⟩
theorem FinX.bes (hb : Bes P W W') (hP : P < B0) (hg : g ≠ P) (h : FinX B0 g g' n W) : FinX B0 g g' n W' := by
 obtain ⟨A, C, h1, h2⟩ := h
 exact ⟨A, C, h1.bes hb hg, mx_bes h2 hb hP⟩
theorem finX_set {k : Int} {x y : ByteArray} {c : F} {A : Option Addr} {m C : Nat} {a b c0 d0 : Value} (hx : Box4 W g 24 a b c0 d0) (hm : m = c.len) (hf : Fs W (Mx B0 g g' W.heap.size) (.slice A m C) c) :
  FinX B0 g g' ⟨k, x, y, c⟩ ((((W.setCell ⟨g, 0, none⟩ (.int .i64 k)).setCell ⟨g, 1, none⟩ (.string x)).setCell ⟨g, 2, none⟩ (.string y)).setCell ⟨g, 3, none⟩ (.slice A m C)) := by
 subst hm
 exact ⟨A, C, hx.set4 _ _ _ _, mx_set4 hf _ _ _ _⟩
end
theorem rowX (w : World) (B0 g g' : Nat) (ps : List (Nd × Value)) (cs : Array Value) (hcs : cs = (ps.flatMap ndC').toArray) (n : Nat) (hn : ps.length = n) (hn2 : n ≤ 1000000) (hB : B0 ≤ w.heap.size) (hg : g < w.heap.size) (hg' : g' < w.heap.size) (P : Nat) (hP : P < B0) (hf : ∀ p ∈ ps, Fs w (Mx B0 g g' w.heap.size) p.2 p.1.c) :
  Fs (w.alloc (.cells cs 24)) (Mx B0 g g' (w.alloc (.cells cs 24)).heap.size) (.slice (some ⟨w.heap.size, 0, none⟩) n n) (ofL' (ps.map (·.1))) := by
 have hb : Below w.heap.size w (w.alloc (.cells cs 24)) := (Below.refl _ _).alloc (Nat.le_refl _) _
 refine fs_row' w.heap.size ⟨hB, by simp, by omega, by omega⟩ ps 0 n n hn (Nat.le_refl _) (by omega) (fun j u hu => ?_) (fun p hp => mx_later (hf p hp) hb hP) _ (.inr rfl)
 rw [Nat.zero_add, World.cell?_alloc_at _ _ _ _ rfl, hcs]
 simpa using hu
theorem rowX1 (w : World) (B0 g g' P : Nat) (hB : B0 ≤ w.heap.size) (hg : g < w.heap.size) (hg' : g' < w.heap.size) (hP : P < B0) (k : Int) (x y : ByteArray) (c : F) (s : Value) (hf : Fs w (Mx B0 g g' w.heap.size) s c) :
  RowX B0 g g' (one ⟨k, x, y, c⟩) (.slice (some ⟨w.heap.size, 0, none⟩) 1 1) (w.alloc (.cells #[.int .i64 k, .string x, .string y, s] 24)) :=
 ⟨some ⟨w.heap.size, 0, none⟩, 1, rfl, rowX w B0 g g' [(⟨k, x, y, c⟩, s)] _ (by rfl) 1 rfl (by omega) hB hg hg' P hP (fun p hp => by simp at hp; subst hp; exact hf)⟩
theorem rowX2 (w : World) (B0 g g' P : Nat) (hB : B0 ≤ w.heap.size) (hg : g < w.heap.size) (hg' : g' < w.heap.size) (hP : P < B0) (k : Int) (x y : ByteArray) (c : F) (s : Value) (hf : Fs w (Mx B0 g g' w.heap.size) s c) (k2 : Int) (x2 y2 : ByteArray) (c2 : F) (s2 : Value) (hf2 : Fs w (Mx B0 g g' w.heap.size) s2 c2) :
  RowX B0 g g' (oneF ⟨k, x, y, c⟩ (one ⟨k2, x2, y2, c2⟩)) (.slice (some ⟨w.heap.size, 0, none⟩) 2 2) (w.alloc (.cells #[.int .i64 k, .string x, .string y, s, .int .i64 k2, .string x2, .string y2, s2] 24)) :=
 ⟨some ⟨w.heap.size, 0, none⟩, 2, rfl, rowX w B0 g g' [(⟨k, x, y, c⟩, s), (⟨k2, x2, y2, c2⟩, s2)] _ (by rfl) 2 rfl (by omega) hB hg hg' P hP (fun p hp => by
  simp only [List.mem_cons, List.not_mem_nil, or_false] at hp
  rcases hp with rfl | rfl <;> assumption)⟩

/-- Where a reading function stands: its result's cell R, the Kids that it may hand on from B0 on. -/
structure StX (w : World) (R : Nat) (W : World) (P z d : Nat) (l : List Tk) : Prop where
 bes : Bes P w W
 ps : PS W P z l d
 bx : BxA R W
 hR : w.heap.size ≤ R
 hlt : P < w.heap.size
section
variable {w W W' : World} {P z d d' R : Nat} {l l' : List Tk}
theorem StX.quiet (h : StX w R W P z d l) (hb : Below W.heap.size W W') : StX w R W' P z d l := ⟨h.bes.then_ hb, h.ps.later hb, BxA.later _ _ hb h.bx, h.hR, h.hlt⟩
theorem StX.read (h : StX w R W P z d l) (hb : Bes P W W') (hps : PS W' P z l' d') : StX w R W' P z d' l' := ⟨h.bes.trans hb, hps, h.bx.bes hb (by have := h.hlt; have := h.hR; omega), h.hR, h.hlt⟩
theorem StX.size (h : StX w R W P z d l) : R + 1 ≤ W.heap.size := by
 obtain ⟨a, b, c, d, hx⟩ := h.bx
 exact hx.lt
theorem StX.frz (h : StX w R W P z d l) : (∃ a b c d, W.cell? ⟨R, 0, none⟩ = some a ∧ W.cell? ⟨R, 1, none⟩ = some b ∧ W.cell? ⟨R, 2, none⟩ = some c ∧ W.cell? ⟨R, 3, none⟩ = some d) ∧ W.frozen? ⟨R, 0, none⟩ = false ∧ W.frozen? ⟨R, 1, none⟩ = false ∧ W.frozen? ⟨R, 2, none⟩ = false ∧ W.frozen? ⟨R, 3, none⟩ = false := by
 obtain ⟨a, b, c, d, hx⟩ := h.bx
 exact ⟨⟨a, b, c, d, hx.cells⟩, hx.frz⟩
/-- NV, with Kids from B0 on. -/
def NB (B0 : Nat) (_w w' : World) (v : Value) (n : Nd) : Prop := ∃ A C, v = .agg #[.int .i64 n.k, .string n.x, .string n.y, .slice A n.c.len C] ∧ Fs w' (Mi B0 w'.heap.size) (.slice A n.c.len C) n.c
theorem StX.ret (h : StX w R W P z d l) {Rr : Rd Nd} {k : Int} {x y : ByteArray} {c : F} {A : Option Addr} {m C B0 : Nat} (hR : Rr = .ok ⟨k, x, y, c⟩ l) (hm : m = c.len) (hf : Fs W (Mi B0 W.heap.size) (.slice A m C) c) (hf2 : ∀ v0 v1 v2 v3, Fs ((((W.setCell ⟨R, 0, none⟩ v0).setCell ⟨R, 1, none⟩ v1).setCell ⟨R, 2, none⟩ v2).setCell ⟨R, 3, none⟩ v3) (Mi B0 W.heap.size) (.slice A m C) c) :
  ((((W.setCell ⟨R, 0, none⟩ (.int .i64 k)).setCell ⟨R, 1, none⟩ (.string x)).setCell ⟨R, 2, none⟩ (.string y)).setCell ⟨R, 3, none⟩ (.slice A m C)).heap[R]? = some (.cells #[.int .i64 k, .string x, .string y, .slice A m C] 24 (0, 0)) ∧
  RPost (NB B0) w P z d Rr (.returned (.agg #[.int .i64 k, .string x, .string y, .slice A m C])) ((((W.setCell ⟨R, 0, none⟩ (.int .i64 k)).setCell ⟨R, 1, none⟩ (.string x)).setCell ⟨R, 2, none⟩ (.string y)).setCell ⟨R, 3, none⟩ (.slice A m C)) := by
 obtain ⟨a, b, c0, d0, hx⟩ := h.bx
 subst hm
 have := h.hlt; have := h.hR
 exact ⟨hx.set4 _ _ _ _, rpost_ok hR ⟨A, C, rfl, by rw [size_set4]; exact hf2 _ _ _ _⟩ (ps_set4 h.ps (by omega) _ _ _ _) (bes_set4 h.bes h.hR _ _ _ _)⟩
end
end Go.Proofs.YtaiihnniblibaaaGreatDoor.Parse

/-
 Layer 6 (parse): expressions: first.
-/
namespace Go.Proofs.YtaiihnniblibaaaGreatDoor.Parse
open Go.ChangeShapes Go.WideShapes Go.ChangeAt Go.RowKit Tree MemT Mem
set_option linter.unusedVariables false

theorem nb_nv {w w' : World} {P z d B0 : Nat} {R : Rd Nd} {e : Ending} (h : RPost (NB B0) w P z d R e w') (hB : w.heap.size ≤ B0) : RPost NV w P z d R e w' := by
 unfold RPost at h ⊢
 split at h
 ·obtain ⟨v, h1, ⟨A, C, h2, h3⟩, h4, h5⟩ := h
  exact ⟨v, h1, ⟨A, C, h2, mi_more h3 hB (Nat.le_refl _)⟩, h4, h5⟩
 ·exact h
theorem ent_expr : EnteredP 71 := by intro args w; simp [go_sem]
theorem ent_unary : EnteredP 100 := by intro args w; simp [go_sem]
abbrev tkO (k : Int) (x : ByteArray) (p : Nat) (f : Bool) : Obj := .cells #[.int .i64 k, .string x, .int .i64 (p : Int), .bool f] 75
set_option maxHeartbeats 8000000 in
set_option maxRecDepth 100000 in
theorem first_any (P z N : Nat) (ex : Nat → Nat → List Tk → Rd Nd) (hex : RdOk 71 P z N (ex 1)) (tk : Int) (tx : ByteArray) (tp : Nat) (tf : Bool) (l : List Tk) (d : Nat) (w : World) (h : PS w P z l d) (hl : l.length < N) (hd : d + 1 ≤ 300) :
  Calls Tryz.prog 113 #[.pointer (some ⟨P, 0, none⟩), .agg #[.int .i64 tk, .string tx, .int .i64 (tp : Int), .bool tf]] w (RPost NV w P z d (first z ex d ⟨tk, tx, tp, tf⟩ l)) := by
 have hlt := h.lt
 have HST : Hid (StX w (w.heap.size + 1) ((w.alloc (tkO tk tx tp tf)).alloc ndZ) P z d l) := by
  have hb0 : Below w.heap.size w (w.alloc (tkO tk tx tp tf)) := (Below.refl _ _).alloc (Nat.le_refl _) _
  have hb1 := ndz_below (w.alloc (tkO tk tx tp tf))
  have hs : (w.alloc (tkO tk tx tp tf)).heap.size = w.heap.size + 1 := by simp
  exact ⟨(Bes.of hb0 P).then_ hb1, (h.later hb0).later hb1, ⟨_, _, _, _, by have := ndz_box (w.alloc (tkO tk tx tp tf)); rwa [hs] at this⟩, by omega, hlt⟩
 have HTB : Hid (Box4 ((w.alloc (tkO tk tx tp tf)).alloc ndZ) w.heap.size 75 (.int .i64 tk) (.string tx) (.int .i64 (tp : Int)) (.bool tf)) := (box4_new w _ _ _ _ _).later (ndz_below _)
 have hsp : first z ex d ⟨tk, tx, tp, tf⟩ l = first z ex d ⟨tk, tx, tp, tf⟩ l := rfl
 conv at hsp => rhs; unfold first
 have HU1 : Hid ((⟨#[41]⟩ : ByteArray).toList = [41]) := by show _ = _; rw [ByteArray.toList_eq]
 have HDP : Hid (∀ W, PS W P z l d → Calls Tryz.prog 89 #[.pointer (some ⟨P, 0, none⟩), .int .i64 ((1 : Nat) : Int), .func (.func 71) #[.pointer (some ⟨P, 0, none⟩)] #[]] W (RPost NV W P z d (ex 1 (d + 1) l))) :=
   fun W hW => deeper_any P z N _ (ex 1) 1 l d W hW (reads_of W ent_expr hex) hl hd
 have hwP : w.heap.size ≠ P := by omega
 clear h hex
 by_cases k2 : tk = 2
 ·subst k2
  rw [if_pos rfl] at hsp
  have HSP := Lib.hid hsp
  clear hsp
  go_enter Tryz.func113, Tryz.ntmps113
  go_wp2_with fail
  refine (node_any 26 tx none 0 0 _).mono ?_
  rintro e w1 ⟨rfl, hb⟩
  replace HST := Lib.hid (HST.out.quiet hb)
  clear hb
  obtain ⟨⟨r0, r1, r2, r3, y0, y1, y2, y3⟩, g0, g1, g2, g3⟩ := HST.out.frz
  try unfold e0
  go_wp2
  have hfin := HST.out.ret (B0 := (w.heap.size + 2)) HSP.out (rfl : 0 = F.len .nil) (nil_fs (S := Mi (w.heap.size + 2) _)) (fun _ _ _ _ => mi_set4 (nil_fs (S := Mi (w.heap.size + 2) _)) (.inl (by omega)) _ _ _ _)
  refine bodyPost_ret (results_cell_row rfl _ _ (w.heap.size + 1) 24 _ (0, 0) _ rfl hfin.1 Tryz.underlying24 rfl hi_nd) rfl ?_
  exact nb_nv hfin.2 (by omega)
 rw [if_neg k2] at hsp
 have b2 : (tk == 2) = false := beq_eq_false_iff_ne.2 k2
 by_cases k3 : tk = 3
 ·subst k3
  rw [if_pos rfl] at hsp
  have HSP := Lib.hid hsp
  clear hsp
  go_enter Tryz.func113, Tryz.ntmps113
  go_wp2_with fail
  refine (node_any 27 tx none 0 0 _).mono ?_
  rintro e w1 ⟨rfl, hb⟩
  replace HST := Lib.hid (HST.out.quiet hb)
  clear hb
  obtain ⟨⟨r0, r1, r2, r3, y0, y1, y2, y3⟩, g0, g1, g2, g3⟩ := HST.out.frz
  try unfold e0
  go_wp2
  have hfin := HST.out.ret (B0 := (w.heap.size + 2)) HSP.out (rfl : 0 = F.len .nil) (nil_fs (S := Mi (w.heap.size + 2) _)) (fun _ _ _ _ => mi_set4 (nil_fs (S := Mi (w.heap.size + 2) _)) (.inl (by omega)) _ _ _ _)
  refine bodyPost_ret (results_cell_row rfl _ _ (w.heap.size + 1) 24 _ (0, 0) _ rfl hfin.1 Tryz.underlying24 rfl hi_nd) rfl ?_
  exact nb_nv hfin.2 (by omega)
 rw [if_neg k3] at hsp
 have b3 : (tk == 3) = false := beq_eq_false_iff_ne.2 k3
 clear k2 k3
 cases b4 : (tx.toList == [40]) with
 | false =>
  rw [if_neg (isT_no b4)] at hsp
  have HSP := Lib.hid hsp
  clear hsp
  go_enter Tryz.func113, Tryz.ntmps113
  go_wp2_with fail
  refine (node_any 9 tx none 0 0 _).mono ?_
  rintro e w1 ⟨rfl, hb⟩
  replace HST := Lib.hid (HST.out.quiet hb)
  clear hb
  obtain ⟨⟨r0, r1, r2, r3, y0, y1, y2, y3⟩, g0, g1, g2, g3⟩ := HST.out.frz
  try unfold e0
  go_wp2
  have hfin := HST.out.ret (B0 := (w.heap.size + 2)) HSP.out (rfl : 0 = F.len .nil) (nil_fs (S := Mi (w.heap.size + 2) _)) (fun _ _ _ _ => mi_set4 (nil_fs (S := Mi (w.heap.size + 2) _)) (.inl (by omega)) _ _ _ _)
  refine bodyPost_ret (results_cell_row rfl _ _ (w.heap.size + 1) 24 _ (0, 0) _ rfl hfin.1 Tryz.underlying24 rfl hi_nd) rfl ?_
  exact nb_nv hfin.2 (by omega)
 | true =>
  rw [if_pos (isT_yes b4)] at hsp
  cases hr : ex 1 (d + 1) l with
  | bad p er =>
   rw [hr, Rd.bind_bad] at hsp
   rw [hr] at HDP
   have HSP := Lib.hid hsp
   clear hsp hr
   go_enter Tryz.func113, Tryz.ntmps113
   go_wp2_with fail
   refine (calls_bad (HDP.out _ HST.out.ps) rfl).mono ?_
   rintro e w1 ⟨rfl, hbe⟩
   have HE := Lib.hid (HST.out.bes.trans hbe)
   clear hbe
   go_wp2
   exact ⟨rfl, rpost_bad HSP.out HE.out⟩
  | ok n l2 =>
   obtain ⟨nk, nx, ny, nc⟩ := n
   rw [hr, Rd.bind_ok] at hsp
   rw [hr] at HDP
   clear hr
   cases hw : Parse.want z [41] l2 with
   | bad p er =>
    rw [hw, Rd.bind_bad] at hsp
    have HSP := Lib.hid hsp
    have HW := Lib.hid hw
    clear hsp hw
    go_enter Tryz.func113, Tryz.ntmps113
    go_wp2_with fail
    refine (calls_ok (HDP.out _ HST.out.ps) rfl).mono ?_
    rintro e W ⟨v, rfl, ⟨A, C, rfl, hf⟩, hps, hbe⟩
    have hf' := mi_more (B0' := w.heap.size + 2) hf HST.out.size (Nat.le_refl _)
    replace HST := Lib.hid (HST.out.read hbe hps)
    generalize hm : nc.len = m at *
    have Hm := Lib.hid hm
    have HF := Lib.hid hf'
    clear hf hf' hps hbe hm
    have hWP : W.heap.size ≠ P := by have := HST.out.size; omega
    have HX := Lib.hid (box4_new W 24 (.int .i64 nk) (.string nx) (.string ny) (.slice A m C))
    have hPB : P < w.heap.size + 2 := by omega
    have hNPHX := hWP
    have HGR := Lib.hid HST.out.size
    have hb := (Below.refl (W).heap.size (W)).alloc (Nat.le_refl _) (.cells #[.int .i64 nk, .string nx, .string ny, .slice A m C] 24)
    replace HST := Lib.hid (HST.out.quiet hb)
    replace HF := Lib.hid (fsq HF.out hb)
    clear hb
    go_wp2_with fail
    refine (calls_bad (want_at HST.out.ps HU1.out (by decide)) HW.out).mono ?_
    rintro e w1 ⟨rfl, hbe⟩
    have HE := Lib.hid (HST.out.bes.trans hbe)
    clear hbe
    go_wp2
    exact ⟨rfl, rpost_bad HSP.out HE.out⟩
   | ok x l3 =>
    rw [hw, Rd.bind_ok] at hsp
    have HSP := Lib.hid hsp
    have HW := Lib.hid hw
    clear hsp hw
    go_enter Tryz.func113, Tryz.ntmps113
    go_wp2_with fail
    refine (calls_ok (HDP.out _ HST.out.ps) rfl).mono ?_
    rintro e W ⟨v, rfl, ⟨A, C, rfl, hf⟩, hps, hbe⟩
    have hf' := mi_more (B0' := w.heap.size + 2) hf HST.out.size (Nat.le_refl _)
    replace HST := Lib.hid (HST.out.read hbe hps)
    generalize hm : nc.len = m at *
    have Hm := Lib.hid hm
    have HF := Lib.hid hf'
    clear hf hf' hps hbe hm
    have hWP : W.heap.size ≠ P := by have := HST.out.size; omega
    have HX := Lib.hid (box4_new W 24 (.int .i64 nk) (.string nx) (.string ny) (.slice A m C))
    have hPB : P < w.heap.size + 2 := by omega
    have hNPHX := hWP
    have HGR := Lib.hid HST.out.size
    have hb := (Below.refl (W).heap.size (W)).alloc (Nat.le_refl _) (.cells #[.int .i64 nk, .string nx, .string ny, .slice A m C] 24)
    replace HST := Lib.hid (HST.out.quiet hb)
    replace HF := Lib.hid (fsq HF.out hb)
    clear hb
    go_wp2_with fail
    refine (calls_ok (want_at HST.out.ps HU1.out (by decide)) HW.out).mono ?_
    rintro e W2 ⟨v, rfl, rfl, hps, hbe⟩
    replace HST := Lib.hid (HST.out.read hbe hps)
    replace HF := Lib.hid (fsr HF.out hbe hPB)
    replace HX := Lib.hid (HX.out.bes hbe hNPHX)
    clear hps hbe
    obtain ⟨q0, q1, q2, q3⟩ := HX.out.cells
    have hne : W.heap.size ≠ w.heap.size + 1 := by have := HGR.out; omega
    have hne2 : w.heap.size + 1 ≠ W.heap.size := by omega
    obtain ⟨⟨r0, r1, r2, r3, y0, y1, y2, y3⟩, g0, g1, g2, g3⟩ := HST.out.frz
    try unfold e0
    go_wp2
    have hfin := HST.out.ret (B0 := (w.heap.size + 2)) HSP.out Hm.out.symm HF.out (fun _ _ _ _ => mi_set4 HF.out (.inl (by omega)) _ _ _ _)
    refine bodyPost_ret (results_cell_row rfl _ _ (w.heap.size + 1) 24 _ (0, 0) _ rfl hfin.1 Tryz.underlying24 rfl hi_nd) rfl ?_
    exact nb_nv hfin.2 (by omega)
end Go.Proofs.YtaiihnniblibaaaGreatDoor.Parse

/-
 Layer 6 (parse): a row of one node, and a row behind it, joined.
-/
namespace Go.Proofs.YtaiihnniblibaaaGreatDoor.Parse
open Go.ChangeShapes Go.WideShapes Go.ChangeAt Go.RowKit Tree MemT Mem
set_option linter.unusedVariables false

theorem ndC'_len (p : Nd × Value) : (ndC' p).length = 4 := rfl
def toL' : F → List Nd
 | .nil => []
 | .cons k x y c r => ⟨k, x, y, c⟩ :: toL' r
theorem ofL'_toL' : ∀ f : F, ofL' (toL' f) = f
 | .nil => rfl
 | .cons k x y c r => by simp only [toL', ofL', oneF, ofL'_toL' r]
theorem fs_cells' {w : World} {S : Nat → Prop} : ∀ {f : F} {b off n C : Nat}, Fs w S (.slice (some ⟨b, off, none⟩) n C) f →
  ∃ ps : List (Nd × Value), ps.map (·.1) = toL' f ∧ ps.length = n ∧ (∀ j u, (ps.flatMap ndC')[j]? = some u → w.cell? ⟨b, off + j, none⟩ = some u) ∧ ∀ p ∈ ps, Fs w S p.2 p.1.c
 | .nil, b, off, n, C, ⟨A, C', e, _⟩ => by
  injection e with _ e2 _
  subst e2
  exact ⟨[], rfl, rfl, fun j u hu => by simp at hu, fun p hp => by cases hp⟩
 | .cons k x y c r, b, off, n, C, ⟨b', off', n', C', s, e, h1, h2, h3, hS, c0, c1, c2, c3, hk, hr⟩ => by
  injection e with e1 e2 e3
  injection e1 with e1
  injection e1 with e4 e5
  subst e4; subst e5; subst e2; subst e3
  obtain ⟨ps, p1, p2, p3, p4⟩ := fs_cells' (hr (some ⟨b, off + 4, none⟩) (.inr rfl))
  refine ⟨(⟨k, x, y, c⟩, s) :: ps, by rw [List.map_cons, p1]; rfl, by rw [List.length_cons, p2], fun j u hu => ?_, fun p hp => ?_⟩
  ·rw [List.flatMap_cons] at hu
   by_cases hj : j < 4
   ·rw [List.getElem?_append_left (by rw [ndC'_len]; exact hj)] at hu
    match j, hj, hu with
    | 0, _, hu => cases hu; exact c0
    | 1, _, hu => cases hu; exact c1
    | 2, _, hu => cases hu; exact c2
    | 3, _, hu => cases hu; exact c3
   ·rw [List.getElem?_append_right (by rw [ndC'_len]; omega), ndC'_len] at hu
    have := p3 (j - 4) u hu
    rwa [show off + 4 + (j - 4) = off + j by omega] at this
  ·rcases List.mem_cons.1 hp with rfl | hp
   ·exact hk
   ·exact p4 p hp
theorem run_append_nil2 {P : Program} (w : World) (t ty e : TypeId) (i : TypeInfo) (ht : P.underlying t = some (.slice e)) (hi : P.info? e = some i) (b : Addr) (n cap : Nat) (hn : n ≤ cap) (A : Option Addr) (c : Nat) :
  (Builtin.append_ #[t, t] ty #[.slice (some b) n cap, .slice A 0 c]).run P w = .ok (.slice (some b) n cap) w := by
 cases A with
 | none => simp [Builtin.append_, run_underlying ht, sizeOf, typeInfo, hi, Builtin.lenOf, Builtin.firstCells, hn, storeCells]
 | some a => simp [Builtin.append_, run_underlying ht, sizeOf, typeInfo, hi, Builtin.lenOf, Builtin.firstCells, hn, storeCells, loadCells, loadCellsFrom]

/-- A row of one node in a block of its own, and a row behind it. -/
def Row1X (B0 g g' : Nat) (n : Nd) (v : Value) (w : World) : Prop := ∃ b, v = .slice (some ⟨b, 0, none⟩) 1 1 ∧ Fs w (Mx B0 g g' w.heap.size) (.slice (some ⟨b, 0, none⟩) 1 1) (one n)
def cRow1X {P g : Nat} (B0 g' : Nat) (hP : P < B0) (n : Nd) : Cd (Bes2 P g) := ⟨Row1X B0 g g' n, fun v W W' h ⟨b, e, hf⟩ => ⟨b, e, mx_bes2 hf h hP⟩⟩
theorem app_two (w : World) (ty : TypeId) (P B0 g g' b C : Nat) (hP : P < B0) (hB : B0 ≤ w.heap.size) (hg : g < w.heap.size) (hg' : g' < w.heap.size) (n : Nd) (c : F) (A : Option Addr) (h1 : Fs w (Mx B0 g g' w.heap.size) (.slice (some ⟨b, 0, none⟩) 1 1) (one n)) (h2 : Fs w (Mx B0 g g' w.heap.size) (.slice A c.len C) c) (hc : c.len ≤ 10000000) :
  ∃ v' w', (Builtin.append_ #[22, 22] ty #[.slice (some ⟨b, 0, none⟩) 1 1, .slice A c.len C]).run Tryz.prog w = .ok v' w' ∧ Below w.heap.size w w' ∧ RowX B0 g g' (oneF n c) v' w' := by
 obtain ⟨i0, hi0, hz0, hz1, hz2⟩ := nd_parts
 have hT := Tryz.underlying22
 cases hcn : c with
 | nil =>
  refine ⟨_, w, run_append_nil2 (P := Tryz.prog) w _ ty _ i0 hT hi0 ⟨b, 0, none⟩ 1 1 (Nat.le_refl _) A C, Below.refl _ _, _, _, rfl, ?_⟩
  exact h1
 | cons k x y c0 r =>
  have hlen : 0 < c.len := by rw [hcn]; simp [F.len]
  rw [← hcn]
  obtain ⟨b2, off2, hA⟩ : ∃ b2 off2, A = some ⟨b2, off2, none⟩ := by
   rw [hcn] at h2
   obtain ⟨b2, off2, n2, C2, s2, e, _⟩ := h2
   injection e with e1 _ _
   exact ⟨b2, off2, e1⟩
  subst hA
  obtain ⟨ps1, a1, a2, a3, a4⟩ := fs_cells' h1
  obtain ⟨ps2, b1, b2', b3, b4⟩ := fs_cells' h2
  have ad : ∀ (q o j : Nat), (⟨q, o, none⟩ : Addr).add j = ⟨q, o + j, none⟩ := fun q o j => by unfold Addr.add; split <;> simp_all
  have hmul : (1 + c.len) * 64 ≤ 10000001 * 64 := Nat.mul_le_mul (by omega) (Nat.le_refl _)
  obtain ⟨v', w', hrun, hown, hgr⟩ := run_append_arg_grows (P := Tryz.prog) (w := w) 22 ty 24 i0 _ 4 64 hT hi0 hz0 hz1 hz2 rfl (by decide) ⟨b, 0, none⟩ 1 1 (ps1.flatMap ndC') (by rw [flat_len ndC'_len, a2]) (fun j u hu => by rw [ad]; exact a3 j u hu)
   ⟨b2, off2, none⟩ c.len C (ps2.flatMap ndC') (by rw [flat_len ndC'_len, b2']) (fun j u hu => by rw [ad]; exact b3 j u hu) (by omega) (by unfold maxLen; omega) (by omega)
  have hbl : Below w.heap.size w w' := ⟨hgr.os, hgr.tape, hgr.output, hgr.size, fun k hk => hgr.block k hk (by simp)⟩
  refine ⟨v', w', hrun, hbl, ?_⟩
  rcases hown.2 with ⟨_, h0⟩ | ⟨q, cap, cur, rfl, hq0, hq, q1, q2, q3, q4⟩
  ·omega
  ·have hl := hown.lt q rfl
   have hcl := hown.cells (g := q) rfl
   have hln : (oneF n c).len = 1 + c.len := by simp [oneF, F.len]; omega
   have e : oneF n c = ofL' ((ps1 ++ ps2).map (·.1)) := by
    rw [List.map_append, a1, b1]
    simp only [one, oneF, toL', List.cons_append, List.nil_append, ofL', ofL'_toL']
   refine ⟨some ⟨q, 0, none⟩, cap, by rw [hln], ?_⟩
   rw [hln, e]
   refine fs_row' q ⟨by omega, hl.2, by omega, by omega⟩ (ps1 ++ ps2) 0 _ cap (by rw [List.length_append, a2, b2']) q1 q2 (fun j u hu => ?_) (fun p hp => ?_) _ (.inr rfl)
   ·rw [List.flatMap_append] at hu
    have := hcl j u hu
    rwa [ad] at this
   ·rcases List.mem_append.1 hp with hp | hp
    ·exact mx_later (a4 p hp) hbl hP
    ·exact mx_later (b4 p hp) hbl hP
theorem wp_app_two {o : Oper} {a : Act} {w : World} {K : Act → World → Prop} {Q : Exit → Act → World → Prop} (s x : Operand)
  (ho : o.op = .call { callee := .builtin .append, args := #[s, x], argTypes := #[22, 22] }) (P B0 g g' b C : Nat) (hP : P < B0) (hB : B0 ≤ w.heap.size) (hg : g < w.heap.size) (hg' : g' < w.heap.size) (n : Nd) (c : F) (A : Option Addr) (hs : a.eval s = .slice (some ⟨b, 0, none⟩) 1 1) (hx : a.eval x = .slice A c.len C)
  (h1 : Fs w (Mx B0 g g' w.heap.size) (.slice (some ⟨b, 0, none⟩) 1 1) (one n)) (h2 : Fs w (Mx B0 g g' w.heap.size) (.slice A c.len C) c) (hc : c.len ≤ 10000000)
  (hK : ∀ v' w', Below w.heap.size w w' → RowX B0 g g' (oneF n c) v' w' → K (a.put o.dst v') w') : Oper.wp Tryz.prog o a w K Q := by
 obtain ⟨v', w', hrun, r1, r2⟩ := app_two w o.type P B0 g g' b C hP hB hg hg' n c A h1 h2 hc
 unfold Oper.wp
 simp [execOp, ho, resolve, invoke, builtin, hs, hx, hrun, Result.andThen]
 exact hK v' w' r1 r2
end Go.Proofs.YtaiihnniblibaaaGreatDoor.Parse
