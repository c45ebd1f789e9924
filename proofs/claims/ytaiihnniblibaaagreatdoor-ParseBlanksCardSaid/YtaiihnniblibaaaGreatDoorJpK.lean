import Derived.Test.YtaiihnniblibaaaGreatDoorJpG
import Derived.Test.YtaiihnniblibaaaGreatDoorJpJ

/-
  Layer 6 (parse), plain mathematics: the readers' fuel suffices: what is thrown is an error.
-/
namespace Go.Proofs.YtaiihnniblibaaaGreatDoor.Parse
open Tree
set_option linter.unusedVariables false

/-- Nothing that is thrown is no error. -/
def Nz {α : Type} (x : Rd α) : Prop := ∀ p e, x = .bad p e → e ≠ 0
section
variable {α β : Type} {z d n m : Nat} {l : List Tk}
theorem Nz.ok {a : α} {r : List Tk} : Nz (Rd.ok a r) := by intro p e h; cases h
theorem Nz.b5 {p : Nat} : Nz (Rd.bad p 5 : Rd α) := by intro q e h; injection h with _ h; omega
theorem Nz.b6 {p : Nat} : Nz (Rd.bad p 6 : Rd α) := by intro q e h; injection h with _ h; omega
theorem Nz.bind {x : Rd α} {f : α → List Tk → Rd β} (hx : Nz x) (hl : Lt m x) (hf : ∀ a r, r.length < m → Nz (f a r)) : Nz (x.bind f) := by
  intro p e h
  cases x with
  | bad q er => exact hx p e (by cases h; rfl)
  | ok a r1 => exact hf a r1 (hl a r1 rfl) p e h
theorem Nz.bind0 {x : Rd α} {f : α → List Tk → Rd β} (hx : Nz x) (hf : ∀ a r, Nz (f a r)) : Nz (x.bind f) := by
  intro p e h
  cases x with
  | bad q er => exact hx p e (by cases h; rfl)
  | ok a r1 => exact hf a r1 p e h
theorem Nz.ite {c : Prop} [Decidable c] {x y : Rd α} (hx : c → Nz x) (hy : ¬ c → Nz y) : Nz (if c then x else y) := by
  split
  · exact hx (by assumption)
  · exact hy (by assumption)
theorem nz_beg {f : Bool} : Nz (beg z f d l) := Nz.ite (fun _ => Nz.ite (fun _ => Nz.b6) fun _ => Nz.ok) fun _ => Nz.b5
theorem nz_must {f : Bool} : Nz (must z f l) := Nz.ite (fun _ => Nz.ok) fun _ => Nz.b5
theorem nz_want {u : List UInt8} : Nz (Parse.want z u l) := Nz.ite (fun _ => Nz.ok) fun _ => Nz.b5
theorem nz_name : Nz (name z l) := Nz.ite (fun _ => Nz.ok) fun _ => Nz.b5
theorem nz_over : Nz (Parse.over z l) := Nz.ite (fun _ => Nz.ok) fun _ => Nz.ite (fun _ => Nz.ite (fun _ => Nz.ok) fun _ => Nz.ok) fun _ => Nz.b5
/-- A reader that throws errors only, at rows shorter than so many. -/
def NzF (n : Nat) (rd : Nat → List Tk → Rd Nd) : Prop := ∀ d l, l.length < n → Nz (rd d l)
theorem nz_item {rd : Nat → List Tk → Rd Nd} (hd : Dec rd) (h : NzF n rd) : NzF n (item z rd) := fun d l hl =>
  Nz.ite (fun _ => Nz.bind0 nz_beg fun _ _ => Nz.ok) fun _ => Nz.bind0 (h d l hl) fun _ r => Nz.bind0 nz_over fun _ _ => Nz.ok
theorem nz_items {it : List Tk → Rd Nd} (hd : ∀ l, Lt l.length (it l)) (h : ∀ l, l.length < n → Nz (it l)) : ∀ (f : Nat) (l : List Tk), l.length < f → l.length < n → Nz (items z it f l)
  | 0, _, h, _ => by omega
  | f + 1, l, hf, hn => Nz.ite (fun _ => Nz.ok) fun _ => Nz.bind (h l hn) (hd l) fun _ r hr => Nz.bind0 (nz_items hd h f r (by omega) (by omega)) fun _ _ => Nz.ok
theorem nz_braces {rd : Nat → List Tk → Rd Nd} (hd : Dec rd) (h : NzF n rd) (hl : l.length < n) : Nz (braces z rd d l) :=
  Nz.bind nz_beg (lt_beg' hl) fun _ r hr => Nz.bind0 (nz_items (fun l => lt_item hd _ l) (fun l hl => nz_item hd h _ l hl) _ r (Nat.lt_succ_self _) hr) fun _ _ => Nz.bind0 nz_want fun _ _ => Nz.ok
theorem nz_comma : Nz (comma z l) := Nz.ite (fun _ => Nz.ok) fun _ => nz_want
theorem lt_comma (h : l.length < m) : Lt m (comma z l) := Lt.ite (fun _ => Lt.ok h) fun _ => lt_want h
theorem nz_args {rd : List Tk → Rd Nd} (hd : ∀ l, Lt l.length (rd l)) (h : ∀ l, l.length < n → Nz (rd l)) : ∀ (f : Nat) (l : List Tk), l.length < f → l.length < n → Nz (args z rd f l)
  | 0, _, h, _ => by omega
  | f + 1, l, hf, hn => Nz.ite (fun _ => Nz.ok) fun _ => Nz.bind (h l hn) (hd l) fun _ r hr => Nz.bind nz_comma (lt_comma hr) fun _ r2 h2 => Nz.bind0 (nz_args hd h f r2 (by omega) (by omega)) fun _ _ => Nz.ok
theorem nz_list {rd : Nat → List Tk → Rd Nd} (hd : Dec rd) (h : NzF n rd) (hl : l.length < n) : Nz (list z rd d l) :=
  Nz.bind nz_want (lt_want hl) fun _ r hr => Nz.bind0 (nz_args (fun l a r e => hd _ l a r e) (fun l hl => h _ l hl) _ r (Nat.lt_succ_self _) hr) fun _ _ => Nz.bind0 nz_want fun _ _ => Nz.ok
theorem nz_typed {k : Int} {ty : Nat → List Tk → Rd Nd} (h : NzF n ty) : NzF n (typed z k ty) := fun d l hl => Nz.bind nz_beg (lt_beg' hl) fun _ r hr => Nz.bind0 (h d r hr) fun _ _ => Nz.ok
theorem nz_typRest {ty : Nat → List Tk → Rd Nd} (hd : Dec ty) (h : NzF n ty) {t : Tk} (hl : l.length < n) : Nz (typRest z ty d t l) :=
  Nz.ite (fun _ => Nz.bind0 (h _ _ hl) fun _ _ => Nz.ok) fun _ => Nz.ite (fun _ => Nz.bind nz_want (lt_want hl) fun _ _ h1 => Nz.bind0 (h _ _ h1) fun _ _ => Nz.ok) fun _ =>
  Nz.ite (fun _ => Nz.bind nz_want (lt_want hl) fun _ _ h1 => Nz.bind (h _ _ h1) (hd.lt h1) fun _ _ h2 => Nz.bind nz_want (lt_want h2) fun _ _ h3 => Nz.bind0 (h _ _ h3) fun _ _ => Nz.ok) fun _ =>
  Nz.ite (fun _ => Nz.bind0 (nz_braces (typed_dec hd) (nz_typed h) hl) fun _ _ => Nz.ok) fun _ => Nz.ok
theorem nz_typR (z : Nat) : ∀ f, NzF f (typR z f)
  | 0 => fun d l h => by omega
  | f + 1 => fun d l hl => Nz.bind nz_beg (lt_beg begT_ne) fun t r hr => nz_typRest (typR_dec z f) (nz_typR z f) (by omega)
theorem nz_tyR : Nz (tyR z d l) := nz_typR z _ d l (Nat.lt_succ_self _)

def NzE (n : Nat) (ex : Nat → Nat → List Tk → Rd Nd) : Prop := ∀ k, 0 < k → NzF n (ex k)
theorem nz_first {ex : Nat → Nat → List Tk → Rd Nd} (h : NzE n ex) {t : Tk} (hl : l.length < n) : Nz (first z ex d t l) :=
  Nz.ite (fun _ => Nz.ok) fun _ => Nz.ite (fun _ => Nz.ok) fun _ => Nz.ite (fun _ => Nz.bind0 (h 1 (by decide) _ _ hl) fun _ _ => Nz.bind0 nz_want fun _ _ => Nz.ok) fun _ => Nz.ok
theorem lt_tl {u : List UInt8} (hu : u ≠ []) (h : isT (Parse.hd z l) u = true) : l.tail.length < l.length := tail_lt (isT_ne hu h)
theorem nz_behind {ex : Nat → Nat → List Tk → Rd Nd} (hd : ∀ k, Dec (ex k)) (h : NzE n ex) : ∀ (f : Nat) (nd : Nd) (l : List Tk), l.length < f → l.length < n → Nz (behind z ex d f nd l)
  | 0, _, _, h, _ => by omega
  | f + 1, nd, l, hf, hn => by
    unfold behind
    refine Nz.ite (fun e => ?_) fun _ => Nz.ite (fun e => ?_) fun _ => Nz.ite (fun e => ?_) fun _ => Nz.ok
    · have hl : Lt l.length (list z (ex 1) d l) := by
        unfold list Parse.want
        rw [if_pos e, Rd.bind_ok]
        have ht := lt_tl (by decide) e
        exact Lt.bind (lt_args (fun l a r e => hd 1 _ l a r e) _ ht) fun _ _ h2 => Lt.bind (lt_want h2) fun _ _ h3 => Lt.ok h3
      exact Nz.bind (nz_list (hd 1) (h 1 (by decide)) hn) hl fun _ r hr => nz_behind hd h f _ r (by omega) (by omega)
    · have ht := lt_tl (by decide) e
      exact Nz.bind (h 1 (by decide) _ _ (by omega)) ((hd 1).lt ht) fun _ r hr => Nz.bind nz_want (lt_want hr) fun _ r hr => nz_behind hd h f _ r (by omega) (by omega)
    · have ht := lt_tl (by decide) e
      exact Nz.bind nz_name (lt_name ht) fun _ r hr => nz_behind hd h f _ r (by omega) (by omega)
theorem nz_unR {ex : Nat → Nat → List Tk → Rd Nd} (hd : ∀ k, Dec (ex k)) (h : NzE n ex) : ∀ (f d : Nat) (l : List Tk), l.length < f → l.length < n + 1 → Nz (unR z ex f d l)
  | 0, _, _, h, _ => by omega
  | f + 1, d, l, hf, hn => Nz.bind nz_beg (lt_beg begU_ne) fun t r hr => Nz.ite (fun _ => Nz.bind0 (nz_unR hd h f _ r (by omega) (by omega)) fun _ _ => Nz.ok) fun _ =>
    Nz.bind (nz_first h (by omega)) (lt_first hd (Nat.lt_succ_self _)) fun nd r2 h2 => nz_behind hd h _ nd r2 (Nat.lt_succ_self _) (by omega)
theorem nz_loopB {ex : Nat → Nat → List Tk → Rd Nd} (hd : ∀ k, Dec (ex k)) (h : NzE n ex) {least : Nat} (hle : 0 < least) : ∀ (f : Nat) (nd : Nd) (l : List Tk), l.length < f → l.length < n → Nz (loopB z ex least d f nd l)
  | 0, _, _, h, _ => by omega
  | f + 1, nd, l, hf, hn => by
    unfold loopB
    refine Nz.ite (fun e => ?_) fun _ => Nz.ok
    have hne : l ≠ [] := fun q => by
      subst q
      have : level (Parse.hd z []).x = 0 := by show level e0 = 0; decide +kernel
      omega
    have ht := tail_lt hne
    exact Nz.bind (h _ (Nat.succ_pos _) _ _ (by omega)) ((hd _).lt ht) fun _ r hr => nz_loopB hd h hle f _ r (by omega) (by omega)
theorem nz_bindR (z : Nat) : ∀ f, NzE f (bindR z f)
  | 0 => fun k _ d l h => by omega
  | f + 1 => fun least hle d l hl => Nz.bind (nz_unR (bindR_dec z f) (nz_bindR z f) _ d l (Nat.lt_succ_self _) hl) (fun n r e => unR_dec (bindR_dec z f) _ d l n r e) fun nd r hr =>
    nz_loopB (bindR_dec z f) (nz_bindR z f) hle _ nd r (Nat.lt_succ_self _) (by omega)
theorem nz_exR : Nz (exR z d l) := nz_bindR z _ 1 (by decide) d l (Nat.lt_succ_self _)
theorem nz_varR : Nz (varR z d l) := Nz.bind0 nz_beg fun _ _ => Nz.bind0 nz_name fun _ _ => Nz.bind0 (Nz.ite (fun _ => Nz.ok) fun _ => nz_tyR) fun _ _ => Nz.bind0 (Nz.ite (fun _ => nz_exR) fun _ => Nz.ok) fun _ _ => Nz.ok
theorem nz_blockR {st : Nat → List Tk → Rd Nd} (hd : Dec st) (h : NzF n st) (hl : l.length < n) : Nz (blockR z st d l) := Nz.bind0 (nz_braces hd h hl) fun _ _ => Nz.ok
/-- Behind the first token: as many may be left as the readers of statements bear. -/
theorem nz_blockB {st : Nat → List Tk → Rd Nd} (hd : Dec st) (h : NzF n st) (hl : l.length < n + 1) : Nz (blockR z st d l) := by
  unfold blockR braces
  refine Nz.bind0 (Nz.bind nz_beg (lt_beg (isT_ne (by decide))) fun _ r hr => ?_) fun _ _ => Nz.ok
  exact Nz.bind0 (nz_items (fun l => lt_item hd _ l) (fun l hl => nz_item hd h _ l hl) _ r (Nat.lt_succ_self _) (show r.length < n by omega)) fun _ _ => Nz.bind0 nz_want fun _ _ => Nz.ok
theorem nz_branchR {st : Nat → List Tk → Rd Nd} (hd : Dec st) (h : NzF n st) : ∀ (f d : Nat) (l : List Tk), l.length < f → l.length < n + 1 → Nz (branchR z st f d l)
  | 0, _, _, h, _ => by omega
  | f + 1, d, l, hf, hn => Nz.bind nz_beg (lt_beg (isT_ne (by decide))) fun _ r1 h1 => Nz.bind nz_exR ((exR_dec z).lt h1) fun _ r2 h2 => Nz.bind (nz_blockR hd h (by omega)) (lt_blockR hd h2) fun _ r3 h3 =>
    Nz.bind0 (Nz.ite (fun e => Nz.ite (fun _ => nz_branchR hd h f _ _ (by have := lt_tl (by decide) e; omega) (by have := lt_tl (by decide) e; omega)) fun _ => nz_blockR hd h (by have := lt_tl (by decide) e; omega)) fun _ => Nz.ok) fun _ _ => Nz.ok
theorem nz_forR {st : Nat → List Tk → Rd Nd} (hd : Dec st) (h : NzF n st) (hl : l.length < n + 1) : Nz (forR z st d l) :=
  Nz.bind nz_beg (lt_beg (isT_ne (by decide))) fun _ r1 h1 => Nz.bind (Nz.ite (fun _ => Nz.ok) fun _ => nz_exR) (Lt.ite (fun _ => Lt.ok h1) fun _ => (exR_dec z).lt h1) fun _ r2 h2 => Nz.bind0 (nz_blockR hd h (by omega)) fun _ _ => Nz.ok
theorem nz_commas : ∀ (f : Nat) (l : List Tk), l.length < f → Nz (commas z d f l)
  | 0, _, h => by omega
  | f + 1, l, hf => Nz.ite (fun e => Nz.bind nz_exR ((exR_dec z).lt (lt_tl (by decide) e)) fun _ r hr => Nz.bind0 (nz_commas f r (by omega)) fun _ _ => Nz.ok) fun _ => Nz.ok
theorem nz_retR : Nz (retR z d l) := Nz.bind0 nz_beg fun _ r => Nz.ite (fun _ => Nz.ok) fun _ => Nz.bind0 nz_exR fun _ r => Nz.bind0 (nz_commas _ r (Nat.lt_succ_self _)) fun _ _ => Nz.ok
theorem nz_jumpR {k : Int} : Nz (jumpR z k d l) := Nz.bind0 nz_beg fun _ _ => Nz.ok
theorem nz_simpleR : Nz (simpleR z d l) := Nz.bind0 nz_exR fun _ _ => Nz.ite (fun _ => Nz.bind0 nz_must fun _ _ => Nz.bind0 nz_exR fun _ _ => Nz.ok) fun _ => Nz.ite (fun _ => Nz.bind0 nz_must fun _ _ => Nz.bind0 nz_exR fun _ _ => Nz.ok) fun _ =>
  Nz.ite (fun _ => Nz.bind0 nz_must fun _ _ => Nz.ok) fun _ => Nz.bind0 nz_must fun _ _ => Nz.ok
theorem nz_stR (z : Nat) : ∀ f, NzF f (stR z f)
  | 0 => fun d l h => by omega
  | f + 1 => fun d l hl => Nz.ite (fun _ => nz_varR) fun _ => Nz.ite (fun _ => nz_blockB (stR_dec z f) (nz_stR z f) hl) fun _ => Nz.ite (fun _ => nz_branchR (stR_dec z f) (nz_stR z f) _ d l (Nat.lt_succ_self _) hl) fun _ =>
    Nz.ite (fun _ => nz_forR (stR_dec z f) (nz_stR z f) hl) fun _ => Nz.ite (fun _ => nz_retR) fun _ => Nz.ite (fun _ => nz_jumpR) fun _ => Nz.ite (fun _ => nz_jumpR) fun _ => nz_simpleR
theorem nz_stmR : Nz (stmR z d l) := nz_stR z _ d l (Nat.lt_succ_self _)
theorem nz_list' {rd : Nat → List Tk → Rd Nd} (hd : Dec rd) (h : ∀ d l, Nz (rd d l)) : Nz (list z rd d l) := nz_list (n := l.length + 1) hd (fun d l _ => h d l) (Nat.lt_succ_self _)
theorem nz_typed' {k : Int} : Nz (typed z k (tyR z) d l) := nz_typed (n := l.length + 1) (fun _ _ _ => nz_tyR) d l (Nat.lt_succ_self _)
theorem nz_blockR' : Nz (blockR z (stmR z) d l) := nz_blockR (n := l.length + 1) (stmR_dec z) (fun _ _ _ => nz_stmR) (Nat.lt_succ_self _)
theorem nz_funcR : Nz (funcR z d l) := Nz.bind0 nz_beg fun _ _ => Nz.bind0 (Nz.ite (fun _ => Nz.bind0 nz_typed' fun _ _ => Nz.bind0 nz_want fun _ _ => Nz.ok) fun _ => Nz.ok) fun _ _ =>
  Nz.bind0 nz_name fun _ _ => Nz.bind0 (nz_list' (typed_dec (tyR_dec z)) fun _ _ => nz_typed') fun _ _ => Nz.bind0 (Nz.ite (fun _ => Nz.ok) fun _ => nz_tyR) fun _ _ => Nz.bind0 nz_blockR' fun _ _ => Nz.ok
theorem nz_declR : Nz (declR z d l) := Nz.ite (fun _ => Nz.bind0 nz_name fun _ _ => Nz.ok) fun _ => Nz.ite (fun _ => Nz.bind0 nz_must fun _ _ => Nz.ok) fun _ =>
  Nz.ite (fun _ => Nz.bind0 nz_name fun _ _ => Nz.bind0 nz_want fun _ _ => Nz.bind0 nz_exR fun _ _ => Nz.ok) fun _ => Nz.ite (fun _ => Nz.bind0 nz_name fun _ _ => Nz.bind0 nz_tyR fun _ _ => Nz.ok) fun _ => Nz.ite (fun _ => nz_varR) fun _ => nz_funcR
theorem nz_itemD : Nz (item z (declR z) d l) := nz_item (n := l.length + 1) (declR_dec z) (fun _ _ _ => nz_declR) d l (Nat.lt_succ_self _)
theorem nz_rows {ws : List (List UInt8)} : ∀ (f : Nat) (l : List Tk), l.length < f → Nz (rows z ws f l)
  | 0, _, h => by omega
  | f + 1, l, hf => Nz.ite (fun _ => Nz.bind nz_itemD (lt_item (declR_dec z) 0 l) fun _ r hr => Nz.bind0 (nz_rows f r (by omega)) fun _ _ => Nz.ok) fun _ => Nz.ok
theorem nz_fileR : Nz (fileR z l) := Nz.bind0 (nz_rows _ _ (Nat.lt_succ_self _)) fun _ _ => Nz.bind0 nz_must fun _ _ => Nz.bind0 nz_itemD fun _ _ => Nz.bind0 (nz_rows _ _ (Nat.lt_succ_self _)) fun _ _ =>
  Nz.bind0 (nz_rows _ _ (Nat.lt_succ_self _)) fun _ _ => Nz.bind0 nz_must fun _ _ => Nz.ok
end
end Go.Proofs.YtaiihnniblibaaaGreatDoor.Parse

/-
  Layer 6 (parse), plain mathematics: rows of tokens that the parser can't tell apart, and what may stand behind them.
-/
namespace Go.Proofs.YtaiihnniblibaaaGreatDoor.Parse
open Tree
set_option linter.unusedVariables false

/-- An end's text: nothing, or a semicolon. -/
def EndX (x : ByteArray) : Prop := x.toList = [] ∨ x.toList = [59]
/-- Tokens that the parser can't tell apart. -/
structure Sm (t u : Tk) : Prop where
  k : t.kind = u.kind
  x : t.kind ≠ 6 → t.x = u.x
  f : t.kind = 5 → t.first = u.first
  e : t.kind = 6 → EndX t.x ∧ EndX u.x
/-- The same row, behind which s stands. -/
inductive Ap (s : List Tk) : List Tk → List Tk → Prop
  | nil : Ap s [] s
  | cons {t u : Tk} {l l' : List Tk} : Sm t u → Ap s l l' → Ap s (t :: l) (u :: l')
/-- The texts that are asked for where a row may end. -/
def askU : List (List UInt8) := [[45], [33], [94], [42], [38], [43], [91], [109, 97, 112], [115, 116, 114, 117, 99, 116], [40], [125], [123], [41], [44], [93], [46], [61], [101, 108, 115, 101], [105, 102],
  [58, 61], [43, 61], [45, 61], [42, 61], [47, 61], [37, 61], [43, 43], [45, 45]]
structure Lk (t u : Tk) : Prop where
  q : ∀ w ∈ askU, isT t w = isT u w
  n : isNm t = isNm u
  l : level t.x = level u.x
  k2 : t.kind = 2 ↔ u.kind = 2
  k3 : t.kind = 3 ↔ u.kind = 3
  k6 : t.kind = 6 ↔ u.kind = 6
  k5 : (t.kind = 5 ∧ t.first = false) ↔ (u.kind = 5 ∧ u.first = false)
/-- Nothing that could belong to what stands ahead. -/
def Quiet (s : List Tk) : Prop := ∀ z z', Lk (Parse.hd z []) (Parse.hd z' s)

theorem e0_list : e0.toList = [] := by unfold e0; rw [ByteArray.toList_eq]
theorem endx_isT {t : Tk} {w : List UInt8} (h : EndX t.x) (h0 : w ≠ []) (h1 : w ≠ [59]) : isT t w = false := by
  unfold isT
  rcases h with e | e
  · rw [e]; exact beq_eq_false_iff_ne.2 fun q => h0 q.symm
  · rw [e]; exact beq_eq_false_iff_ne.2 fun q => h1 q.symm
theorem level_endx {x : ByteArray} (h : EndX x) : level x = 0 := by
  unfold level
  rcases h with e | e <;> rw [e] <;> decide
theorem Sm.is {t u : Tk} (h : Sm t u) {w : List UInt8} (h0 : w ≠ []) (h1 : w ≠ [59]) : isT t w = isT u w := by
  by_cases h6 : t.kind = 6
  · obtain ⟨a, b⟩ := h.e h6
    rw [endx_isT a h0 h1, endx_isT b h0 h1]
  · unfold isT; rw [h.x h6]
theorem Sm.nm {t u : Tk} (h : Sm t u) : isNm t = isNm u := by
  by_cases h6 : t.kind = 6
  · unfold isNm; rw [← h.k, h6]; rfl
  · unfold isNm; rw [← h.k, h.x h6]
theorem Sm.lv {t u : Tk} (h : Sm t u) : level t.x = level u.x := by
  by_cases h6 : t.kind = 6
  · obtain ⟨a, b⟩ := h.e h6
    rw [level_endx a, level_endx b]
  · rw [h.x h6]
theorem askU_ok : ∀ w ∈ askU, w ≠ [] ∧ w ≠ [59] := by decide
theorem Sm.lk {t u : Tk} (h : Sm t u) : Lk t u where
  q := fun w hw => h.is (askU_ok w hw).1 (askU_ok w hw).2
  n := h.nm
  l := h.lv
  k2 := by rw [h.k]
  k3 := by rw [h.k]
  k6 := by rw [h.k]
  k5 := by
    constructor
    · rintro ⟨a, b⟩; exact ⟨by rw [← h.k]; exact a, by rw [← h.f a]; exact b⟩
    · rintro ⟨a, b⟩; exact ⟨by rw [h.k]; exact a, by rw [h.f (by rw [h.k]; exact a)]; exact b⟩
theorem Sm.isS {t u : Tk} (h : Sm t u) : isSign t = isSign u := by
  unfold isSign
  rw [h.is (by decide) (by decide), h.is (w := [33]) (by decide) (by decide), h.is (w := [94]) (by decide) (by decide), h.is (w := [42]) (by decide) (by decide), h.is (w := [38]) (by decide) (by decide), h.is (w := [43]) (by decide) (by decide)]
theorem Lk.isS {t u : Tk} (h : Lk t u) : isSign t = isSign u := by
  unfold isSign
  rw [h.q [45] (by decide), h.q [33] (by decide), h.q [94] (by decide), h.q [42] (by decide), h.q [38] (by decide), h.q [43] (by decide)]
theorem Lk.begT {t u : Tk} (h : Lk t u) : Parse.begT t = Parse.begT u := by
  unfold Parse.begT
  rw [h.q [42] (by decide), h.q [91] (by decide), h.q [109, 97, 112] (by decide), h.q [115, 116, 114, 117, 99, 116] (by decide), h.n]
theorem beq_iff {a b k : Int} (h : a = k ↔ b = k) : (a == k) = (b == k) := by
  by_cases e : a = k
  · rw [beq_iff_eq.2 e, beq_iff_eq.2 (h.1 e)]
  · rw [beq_eq_false_iff_ne.2 e, beq_eq_false_iff_ne.2 fun q => e (h.2 q)]
theorem Lk.begU {t u : Tk} (h : Lk t u) : Parse.begU t = Parse.begU u := by
  unfold Parse.begU
  rw [h.q [40] (by decide), h.n, h.isS, beq_iff h.k2, beq_iff h.k3]
theorem Lk.asg {t u : Tk} (h : Lk t u) : asgT t = asgT u := by
  unfold asgT
  rw [h.q [61] (by decide), h.q [43, 61] (by decide), h.q [45, 61] (by decide), h.q [42, 61] (by decide), h.q [47, 61] (by decide), h.q [37, 61] (by decide)]
theorem Lk.inc {t u : Tk} (h : Lk t u) : incT t = incT u := by
  unfold incT
  rw [h.q [43, 43] (by decide), h.q [45, 45] (by decide)]
/-- A token of which something is asked and holds is no end. -/
theorem Sm.x_of {t u : Tk} (h : Sm t u) {w : List UInt8} (h0 : w ≠ []) (h1 : w ≠ [59]) (hw : isT t w = true) : t.x = u.x :=
  h.x fun e => by rw [endx_isT (h.e e).1 h0 h1] at hw; cases hw
theorem Sm.x_nm {t u : Tk} (h : Sm t u) (hw : isNm t = true) : t.x = u.x :=
  h.x fun e => by unfold isNm at hw; rw [e] at hw; cases hw
theorem Sm.x_asg {t u : Tk} (h : Sm t u) (hw : asgT t = true) : t.x = u.x := h.x fun e => by
  have := (h.e e).1
  unfold asgT at hw
  rw [endx_isT this (by decide) (by decide), endx_isT this (w := [43, 61]) (by decide) (by decide), endx_isT this (w := [45, 61]) (by decide) (by decide), endx_isT this (w := [42, 61]) (by decide) (by decide), endx_isT this (w := [47, 61]) (by decide) (by decide), endx_isT this (w := [37, 61]) (by decide) (by decide)] at hw
  cases hw
theorem Sm.x_inc {t u : Tk} (h : Sm t u) (hw : incT t = true) : t.x = u.x := h.x fun e => by
  have := (h.e e).1
  unfold incT at hw
  rw [endx_isT this (by decide) (by decide), endx_isT this (w := [45, 45]) (by decide) (by decide)] at hw
  cases hw
theorem Sm.x_lv {t u : Tk} (h : Sm t u) (hw : 0 < level t.x) : t.x = u.x := h.x fun e => by
  rw [level_endx (h.e e).1] at hw; cases hw
theorem Sm.x_begT {t u : Tk} (h : Sm t u) (hw : Parse.begT t = true) : t.x = u.x := h.x fun e => by
  have := (h.e e).1
  unfold Parse.begT isNm at hw
  rw [e, endx_isT this (by decide) (by decide), endx_isT this (w := [91]) (by decide) (by decide), endx_isT this (w := [109, 97, 112]) (by decide) (by decide), endx_isT this (w := [115, 116, 114, 117, 99, 116]) (by decide) (by decide)] at hw
  cases hw
theorem Sm.x_begU {t u : Tk} (h : Sm t u) (hw : Parse.begU t = true) : t.x = u.x := h.x fun e => by
  have := (h.e e).1
  unfold Parse.begU isNm isSign at hw
  rw [e, endx_isT this (w := [40]) (by decide) (by decide), endx_isT this (w := [45]) (by decide) (by decide), endx_isT this (w := [33]) (by decide) (by decide), endx_isT this (w := [94]) (by decide) (by decide), endx_isT this (w := [42]) (by decide) (by decide), endx_isT this (w := [38]) (by decide) (by decide), endx_isT this (w := [43]) (by decide) (by decide)] at hw
  cases hw

def Rl (s : List Tk) {α : Type} (R R' : Rd α) : Prop := ∀ a r, R = .ok a r → ∃ r', R' = .ok a r' ∧ Ap s r r'
section
variable {s : List Tk} {α β : Type} {z z' d : Nat} {l l' : List Tk}
theorem Rl.bind {R R' : Rd α} {f f' : α → List Tk → Rd β} (h : Rl s R R') (hf : ∀ a r r', Ap s r r' → Rl s (f a r) (f' a r')) : Rl s (R.bind f) (R'.bind f') := by
  intro b r e
  cases R with
  | bad p er => cases e
  | ok a r1 =>
    obtain ⟨r2, h1, h2⟩ := h a r1 rfl
    rw [h1]
    exact hf a r1 r2 h2 b r e
theorem Rl.ok {a : α} (h : Ap s l l') : Rl s (.ok a l) (.ok a l') := by
  intro b r e
  simp only [Rd.ok.injEq] at e
  obtain ⟨rfl, rfl⟩ := e
  exact ⟨_, rfl, h⟩
theorem Rl.bad {p : Nat} {e : Int} {R' : Rd α} : Rl s (.bad p e) R' := by intro b r h; cases h
theorem Rl.ite {c c' : Prop} [Decidable c] [Decidable c'] {x y x' y' : Rd α} (hc : c ↔ c') (hx : c → Rl s x x') (hy : ¬ c → Rl s y y') : Rl s (if c then x else y) (if c' then x' else y') := by
  by_cases h : c
  · rw [if_pos h, if_pos (hc.1 h)]; exact hx h
  · rw [if_neg h, if_neg fun q => h (hc.2 q)]; exact hy h
theorem Ap.len (h : Ap s l l') : l.length ≤ l'.length := by
  induction h with
  | nil => exact Nat.zero_le _
  | cons _ _ ih => simp only [List.length_cons]; omega
theorem Ap.hd (hq : Quiet s) (h : Ap s l l') (z z' : Nat) : Lk (Parse.hd z l) (Parse.hd z' l') := by
  cases h with
  | nil => exact hq z z'
  | cons h _ => exact h.lk
theorem Ap.sm (h : Ap s l l') (hl : l ≠ []) (z z' : Nat) : Sm (Parse.hd z l) (Parse.hd z' l') := by
  cases h with
  | nil => exact absurd rfl hl
  | cons h _ => exact h
theorem Ap.tail (h : Ap s l l') (hl : l ≠ []) : Ap s l.tail l'.tail := by
  cases h with
  | nil => exact absurd rfl hl
  | cons _ h => exact h
theorem Rl.dec {R R' : Rd α} (h : Lt l.length R) (k : l ≠ [] → Rl s R R') : Rl s R R' := fun a r e => k (fun q => by
  have := h a r e
  subst q
  exact absurd this (Nat.not_lt_zero _)) a r e
theorem isb {a b : Bool} (h : a = b) : a = true ↔ b = true := by rw [h]
theorem asg_ne (e : asgT (Parse.hd z l) = true) : l ≠ [] := fun q => by subst q; simp [asgT, Parse.hd, isT, e0] at e
theorem inc_ne (e : incT (Parse.hd z l) = true) : l ≠ [] := fun q => by subst q; simp [incT, Parse.hd, isT, e0] at e
theorem rl_mustB {f : Bool} {g g' : Unit → List Tk → Rd β} (h : Ap s l l') (hg : Rl s (g () l) (g' () l')) : Rl s ((must z f l).bind g) ((must z' f l').bind g') := by
  unfold must
  split
  · exact hg
  · exact Rl.bad
theorem rl_beg {f f' : Bool} {g g' : Tk → List Tk → Rd β} (e : f = f') (hl : f = true → l ≠ []) (h : Ap s l l') (hg : ∀ t t' r r', f = true → Parse.hd z l = t → Sm t t' → Ap s r r' → Rl s (g t r) (g' t' r')) :
    Rl s ((beg z f d l).bind g) ((beg z' f' d l').bind g') := by
  subst e
  unfold beg
  by_cases hf : f = true
  · rw [if_pos hf, if_pos hf]
    by_cases hd : 256 < d
    · rw [if_pos hd]; exact Rl.bad
    · rw [if_neg hd, if_neg hd]
      exact hg _ _ _ _ hf rfl (h.sm (hl hf) z z') (h.tail (hl hf))
  · rw [if_neg hf]; exact Rl.bad
theorem rl_jumpR {k : Int} (hl : l ≠ []) (h : Ap s l l') : Rl s (jumpR z k d l) (jumpR z' k d l') := rl_beg rfl (fun _ => hl) h fun _ _ r r' _ _ _ hp => Rl.ok hp
end
section
variable {s : List Tk} {α β : Type} {z z' d : Nat} {l l' : List Tk} (hq : Quiet s)
include hq
theorem Ap.t (h : Ap s l l') {w : List UInt8} (hw : w ∈ askU) : isT (Parse.hd z l) w = true ↔ isT (Parse.hd z' l') w = true := isb ((h.hd hq z z').q w hw)
theorem rl_want {u : List UInt8} (hu : u ∈ askU) (h : Ap s l l') : Rl s (Parse.want z u l) (Parse.want z' u l') :=
  Rl.ite (h.t hq hu) (fun e => Rl.ok (h.tail (isT_ne (askU_ok u hu).1 e))) fun _ => Rl.bad
theorem rl_name (h : Ap s l l') : Rl s (name z l) (name z' l') :=
  Rl.ite (isb (h.hd hq z z').n) (fun e => by
    have hl := nm_ne e
    rw [(h.sm hl z z').x_nm e]
    exact Rl.ok (h.tail hl)) fun _ => Rl.bad
theorem rl_over (h : Ap s l l') : Rl s (Parse.over z l) (Parse.over z' l') := by
  refine Rl.ite (h.t hq (by decide)) (fun e => Rl.ok h) fun _ => Rl.ite (h.hd hq z z').k6 (fun e => ?_) fun _ => Rl.bad
  have hl : l ≠ [] := fun q => by subst q; cases e
  have h1 := h.tail hl
  refine Rl.ite (h1.hd hq z z').k5 (fun e => ?_) fun _ => Rl.ok h1
  have hl1 : l.tail ≠ [] := fun q => by rw [q] at e; cases e.1
  rw [(h1.sm hl1 z z').x (by rw [e.1]; decide)]
  exact Rl.ok (h1.tail hl1)

/-- Readers that read the same. -/
def FR (s : List Tk) (rd rd' : Nat → List Tk → Rd Nd) : Prop := ∀ d l l', Ap s l l' → Rl s (rd d l) (rd' d l')
theorem rl_item {rd rd' : Nat → List Tk → Rd Nd} (hr : FR s rd rd') (hd : Dec rd) : FR s (item z rd) (item z' rd') := fun d l l' h => Rl.dec (lt_item hd d l) fun hl => by
  have hs := h.sm hl z z'
  refine Rl.ite (by rw [hs.k]) (fun e => rl_beg rfl (fun _ => hl) h fun t t' r r' _ e2 ht hp => ?_) fun _ => (hr d l l' h).bind fun n r r' hp => (rl_over hq hp).bind fun y r r' hp => Rl.ok hp
  rw [ht.x (by rw [← e2, e]; decide)]
  exact Rl.ok hp
theorem rl_items {it it' : List Tk → Rd Nd} (hi : ∀ l l', Ap s l l' → Rl s (it l) (it' l')) : ∀ (f f' : Nat) (l l' : List Tk), f ≤ f' → Ap s l l' → Rl s (items z it f l) (items z' it' f' l')
  | 0, _, _, _, _, _ => Rl.bad
  | f + 1, 0, _, _, h, _ => by omega
  | f + 1, f' + 1, l, l', hf, h => Rl.ite (h.t hq (by decide)) (fun _ => Rl.ok h) fun _ => (hi l l' h).bind fun n r r' hp => (rl_items hi f f' r r' (by omega) hp).bind fun c r r' hp => Rl.ok hp
theorem rl_braces {rd rd' : Nat → List Tk → Rd Nd} (hr : FR s rd rd') (hd : Dec rd) (h : Ap s l l') : Rl s (braces z rd d l) (braces z' rd' d l') :=
  rl_beg ((h.hd hq z z').q [123] (by decide)) (isT_ne (by decide)) h fun t t' r r' _ _ _ hp => (rl_items hq (fun l l' h => rl_item hq hr hd _ l l' h) _ _ r r' (by have := hp.len; omega) hp).bind fun c r r' hp => (rl_want hq (by decide) hp).bind fun _ r r' hp => Rl.ok hp
theorem rl_comma (h : Ap s l l') : Rl s (comma z l) (comma z' l') := Rl.ite (h.t hq (by decide)) (fun _ => Rl.ok h) fun _ => rl_want hq (by decide) h
theorem rl_args {rd rd' : List Tk → Rd Nd} (hi : ∀ l l', Ap s l l' → Rl s (rd l) (rd' l')) : ∀ (f f' : Nat) (l l' : List Tk), f ≤ f' → Ap s l l' → Rl s (args z rd f l) (args z' rd' f' l')
  | 0, _, _, _, _, _ => Rl.bad
  | f + 1, 0, _, _, h, _ => by omega
  | f + 1, f' + 1, l, l', hf, h => Rl.ite (h.t hq (by decide)) (fun _ => Rl.ok h) fun _ => (hi l l' h).bind fun n r r' hp => (rl_comma hq hp).bind fun _ r r' hp => (rl_args hi f f' r r' (by omega) hp).bind fun c r r' hp => Rl.ok hp
theorem rl_list {rd rd' : Nat → List Tk → Rd Nd} (hr : FR s rd rd') (h : Ap s l l') : Rl s (list z rd d l) (list z' rd' d l') :=
  (rl_want hq (by decide) h).bind fun _ r r' hp => (rl_args hq (fun l l' h => hr _ l l' h) _ _ r r' (by have := hp.len; omega) hp).bind fun c r r' hp => (rl_want hq (by decide) hp).bind fun _ r r' hp => Rl.ok hp

theorem rl_typed {k : Int} {ty ty' : Nat → List Tk → Rd Nd} (hr : FR s ty ty') : FR s (typed z k ty) (typed z' k ty') := fun d l l' h =>
  rl_beg (h.hd hq z z').n nm_ne h fun t t' r r' e e2 ht hp => (hr d r r' hp).bind fun n r r' hp => by
    rw [ht.x_nm (by rw [← e2]; exact e)]
    exact Rl.ok hp
theorem rl_typRest {ty ty' : Nat → List Tk → Rd Nd} (hr : FR s ty ty') (hd : Dec ty) {t t' : Tk} (ht : Sm t t') (hb : Parse.begT t = true) (h : Ap s l l') : Rl s (typRest z ty d t l) (typRest z' ty' d t' l') := by
  refine Rl.ite (isb (ht.is (by decide) (by decide))) (fun _ => (hr _ _ _ h).bind fun n r r' hp => Rl.ok hp) fun _ => ?_
  refine Rl.ite (isb (ht.is (by decide) (by decide))) (fun _ => (rl_want hq (by decide) h).bind fun _ r r' hp => (hr _ _ _ hp).bind fun n r r' hp => Rl.ok hp) fun _ => ?_
  refine Rl.ite (isb (ht.is (by decide) (by decide))) (fun _ => (rl_want hq (by decide) h).bind fun _ r r' hp => (hr _ _ _ hp).bind fun k r r' hp => (rl_want hq (by decide) hp).bind fun _ r r' hp => (hr _ _ _ hp).bind fun n r r' hp => Rl.ok hp) fun _ => ?_
  refine Rl.ite (isb (ht.is (by decide) (by decide))) (fun _ => (rl_braces hq (rl_typed hq hr) (typed_dec hd) h).bind fun c r r' hp => Rl.ok hp) fun _ => ?_
  rw [ht.x_begT hb]
  exact Rl.ok h
theorem rl_typR : ∀ (f f' d : Nat) (l l' : List Tk), f ≤ f' → Ap s l l' → Rl s (typR z f d l) (typR z' f' d l')
  | 0, _, _, _, _, _, _ => Rl.bad
  | f + 1, 0, _, _, _, h, _ => by omega
  | f + 1, f' + 1, d, l, l', hf, h => rl_beg (h.hd hq z z').begT begT_ne h fun t t' r r' e e2 ht hp =>
    rl_typRest hq (fun d l l' h => rl_typR f f' d l l' (by omega) h) (typR_dec z f) ht (by rw [← e2]; exact e) hp
theorem rl_tyR : FR s (tyR z) (tyR z') := fun d l l' h => rl_typR hq _ _ d l l' (by have := h.len; omega) h

def FE (s : List Tk) (ex ex' : Nat → Nat → List Tk → Rd Nd) : Prop := ∀ k, 0 < k → FR s (ex k) (ex' k)
theorem rl_first {ex ex' : Nat → Nat → List Tk → Rd Nd} (hr : FE s ex ex') {t t' : Tk} (ht : Sm t t') (hb : Parse.begU t = true) (h : Ap s l l') : Rl s (first z ex d t l) (first z' ex' d t' l') := by
  have hx := ht.x_begU hb
  unfold first
  rw [← hx]
  exact Rl.ite (by rw [ht.k]) (fun _ => Rl.ok h) fun _ => Rl.ite (by rw [ht.k]) (fun _ => Rl.ok h) fun _ =>
    Rl.ite (isb (ht.is (by decide) (by decide))) (fun _ => (hr _ (by decide) _ _ _ h).bind fun n r r' hp => (rl_want hq (by decide) hp).bind fun _ r r' hp => Rl.ok hp) fun _ => Rl.ok h
theorem rl_behind {ex ex' : Nat → Nat → List Tk → Rd Nd} (hr : FE s ex ex') : ∀ (f f' : Nat) (n : Nd) (l l' : List Tk), f ≤ f' → Ap s l l' → Rl s (behind z ex d f n l) (behind z' ex' d f' n l')
  | 0, _, _, _, _, _, _ => Rl.bad
  | f + 1, 0, _, _, _, h, _ => by omega
  | f + 1, f' + 1, n, l, l', hf, h => by
    unfold behind
    refine Rl.ite (h.t hq (by decide)) (fun _ => (rl_list hq (hr 1 (by decide)) h).bind fun c r r' hp => rl_behind hr f f' _ r r' (by omega) hp) fun _ => ?_
    refine Rl.ite (h.t hq (by decide)) (fun e => (hr _ (by decide) _ _ _ (h.tail (isT_ne (by decide) e))).bind fun m r r' hp => (rl_want hq (by decide) hp).bind fun _ r r' hp => rl_behind hr f f' _ r r' (by omega) hp) fun _ => ?_
    exact Rl.ite (h.t hq (by decide)) (fun e => (rl_name hq (h.tail (isT_ne (by decide) e))).bind fun x r r' hp => rl_behind hr f f' _ r r' (by omega) hp) fun _ => Rl.ok h
theorem rl_unR {ex ex' : Nat → Nat → List Tk → Rd Nd} (hr : FE s ex ex') : ∀ (f f' d : Nat) (l l' : List Tk), f ≤ f' → Ap s l l' → Rl s (unR z ex f d l) (unR z' ex' f' d l')
  | 0, _, _, _, _, _, _ => Rl.bad
  | f + 1, 0, _, _, _, h, _ => by omega
  | f + 1, f' + 1, d, l, l', hf, h => rl_beg (h.hd hq z z').begU begU_ne h fun t t' r r' e e2 ht hp => by
    have hb : Parse.begU t = true := by rw [← e2]; exact e
    refine Rl.ite (isb ht.isS) (fun _ => ?_) fun _ => (rl_first hq hr ht hb hp).bind fun n r r' hp => rl_behind hq hr _ _ n r r' (by have := hp.len; omega) hp
    rw [(hp.hd hq z z').isS, ht.x_begU hb]
    exact (rl_unR hr f f' _ r r' (by omega) hp).bind fun n r r' hp => Rl.ok hp
theorem rl_loopB {ex ex' : Nat → Nat → List Tk → Rd Nd} (hr : FE s ex ex') {least : Nat} (hle : 0 < least) : ∀ (f f' : Nat) (n : Nd) (l l' : List Tk), f ≤ f' → Ap s l l' → Rl s (loopB z ex least d f n l) (loopB z' ex' least d f' n l')
  | 0, _, _, _, _, _, _ => Rl.bad
  | f + 1, 0, _, _, _, h, _ => by omega
  | f + 1, f' + 1, n, l, l', hf, h => by
    unfold loopB
    refine Rl.ite (by rw [(h.hd hq z z').l]) (fun e => ?_) fun _ => Rl.ok h
    have hl : l ≠ [] := fun q => by
      subst q
      have : level (Parse.hd z []).x = 0 := level_endx (.inl e0_list)
      omega
    have hx : (Parse.hd z l).x = (Parse.hd z' l').x := (h.sm hl z z').x_lv (by omega)
    rw [hx]
    exact (hr _ (Nat.succ_pos _) _ _ _ (h.tail hl)).bind fun m r r' hp => rl_loopB hr hle f f' _ r r' (by omega) hp
theorem rl_bindR : ∀ (f f' : Nat), f ≤ f' → FE s (bindR z f) (bindR z' f')
  | 0, _, _ => fun _ _ _ _ _ _ => Rl.bad
  | f + 1, 0, h => by omega
  | f + 1, f' + 1, hf => fun least hle d l l' h =>
    (rl_unR hq (rl_bindR f f' (by omega)) _ _ d l l' (by have := h.len; omega) h).bind fun n r r' hp => rl_loopB hq (rl_bindR f f' (by omega)) hle _ _ n r r' (by have := hp.len; omega) hp
theorem rl_exR : FR s (exR z) (exR z') := fun d l l' h => rl_bindR hq _ _ (by have := h.len; omega) 1 (by decide) d l l' h

theorem rl_varR : FR s (varR z) (varR z') := fun d l l' h => Rl.dec (fun n r e => varR_dec z d l n r e) fun hl =>
  rl_beg ((h.sm hl z z').is (by decide) (by decide)) (fun _ => hl) h fun _ _ r r' _ _ _ hp => (rl_name hq hp).bind fun x r r' hp =>
  (Rl.ite (hp.t hq (by decide)) (fun _ => Rl.ok hp) fun _ => rl_tyR hq _ _ _ hp).bind fun t r r' hp =>
  (Rl.ite (hp.t hq (by decide)) (fun e => rl_exR hq _ _ _ (hp.tail (isT_ne (by decide) e))) fun _ => Rl.ok hp).bind fun v r r' hp => Rl.ok hp
theorem rl_blockR {st st' : Nat → List Tk → Rd Nd} (hr : FR s st st') (hd : Dec st) : FR s (blockR z st) (blockR z' st') := fun d l l' h => (rl_braces hq hr hd h).bind fun c r r' hp => Rl.ok hp
theorem rl_branchR {st st' : Nat → List Tk → Rd Nd} (hr : FR s st st') (hd : Dec st) : ∀ (f f' d : Nat) (l l' : List Tk), f ≤ f' → Ap s l l' → Rl s (branchR z st f d l) (branchR z' st' f' d l')
  | 0, _, _, _, _, _, _ => Rl.bad
  | f + 1, 0, _, _, _, h, _ => by omega
  | f + 1, f' + 1, d, l, l', hf, h => Rl.dec (fun n r e => branchR_dec hd (f + 1) d l n r e) fun hl =>
    rl_beg ((h.sm hl z z').is (by decide) (by decide)) (fun _ => hl) h fun _ _ r r' _ _ _ hp => (rl_exR hq _ _ _ hp).bind fun c r r' hp => (rl_blockR hq hr hd _ _ _ hp).bind fun b r r' hp =>
    (Rl.ite (hp.t hq (by decide)) (fun e => by
      have hp1 := hp.tail (isT_ne (by decide) e)
      exact Rl.ite (hp1.t hq (by decide)) (fun _ => rl_branchR hr hd f f' _ _ _ (by omega) hp1) fun _ => rl_blockR hq hr hd _ _ _ hp1) fun _ => Rl.ok hp).bind fun o r r' hp => Rl.ok hp
theorem rl_forR {st st' : Nat → List Tk → Rd Nd} (hr : FR s st st') (hd : Dec st) : FR s (forR z st) (forR z' st') := fun d l l' h => Rl.dec (fun n r e => forR_dec hd d l n r e) fun hl =>
  rl_beg ((h.sm hl z z').is (by decide) (by decide)) (fun _ => hl) h fun _ _ r r' _ _ _ hp => (Rl.ite (hp.t hq (by decide)) (fun _ => Rl.ok hp) fun _ => rl_exR hq _ _ _ hp).bind fun c r r' hp =>
  (rl_blockR hq hr hd _ _ _ hp).bind fun b r r' hp => Rl.ok hp
theorem rl_commas : ∀ (f f' : Nat) (l l' : List Tk), f ≤ f' → Ap s l l' → Rl s (commas z d f l) (commas z' d f' l')
  | 0, _, _, _, _, _ => Rl.bad
  | f + 1, 0, _, _, h, _ => by omega
  | f + 1, f' + 1, l, l', hf, h => Rl.ite (h.t hq (by decide)) (fun e => (rl_exR hq _ _ _ (h.tail (isT_ne (by decide) e))).bind fun n r r' hp => (rl_commas f f' r r' (by omega) hp).bind fun c r r' hp => Rl.ok hp) fun _ => Rl.ok h
theorem rl_retR : FR s (retR z) (retR z') := fun d l l' h => Rl.dec (fun n r e => retR_dec z d l n r e) fun hl =>
  rl_beg ((h.sm hl z z').is (by decide) (by decide)) (fun _ => hl) h fun _ _ r r' _ _ _ hp =>
  Rl.ite (or_congr (hp.hd hq z z').k6 (hp.t hq (by decide))) (fun _ => Rl.ok hp) fun _ => (rl_exR hq _ _ _ hp).bind fun n r r' hp => (rl_commas hq _ _ r r' (by have := hp.len; omega) hp).bind fun c r r' hp => Rl.ok hp
theorem rl_simpleR : FR s (simpleR z) (simpleR z') := fun d l l' h => (rl_exR hq _ _ _ h).bind fun n r r' hp => by
  refine Rl.ite (hp.t hq (by decide)) (fun e => rl_mustB hp ?_) fun _ => Rl.ite (isb (hp.hd hq z z').asg) (fun e => rl_mustB hp ?_) fun _ => Rl.ite (isb (hp.hd hq z z').inc) (fun e => rl_mustB hp ?_) fun _ => rl_mustB hp (Rl.ok hp)
  · have hl := isT_ne (by decide) e
    rw [(hp.sm hl z z').x_of (by decide) (by decide) e]
    exact (rl_exR hq _ _ _ (hp.tail hl)).bind fun m r r' hp => Rl.ok hp
  · have hl := asg_ne e
    rw [(hp.sm hl z z').x_asg e]
    exact (rl_exR hq _ _ _ (hp.tail hl)).bind fun m r r' hp => Rl.ok hp
  · have hl := inc_ne e
    rw [(hp.sm hl z z').x_inc e]
    exact Rl.ok (hp.tail hl)
theorem rl_stRest {st st' : Nat → List Tk → Rd Nd} (hr : FR s st st') (hd : Dec st) : FR s (stRest z st) (stRest z' st') := fun d l l' h => Rl.dec (fun n r e => stRest_dec hd d l n r e) fun hl => by
  have hs := h.sm hl z z'
  refine Rl.ite (isb (hs.is (by decide) (by decide))) (fun _ => rl_varR hq _ _ _ h) fun _ => Rl.ite (isb (hs.is (by decide) (by decide))) (fun _ => rl_blockR hq hr hd _ _ _ h) fun _ => ?_
  refine Rl.ite (isb (hs.is (by decide) (by decide))) (fun _ => rl_branchR hq hr hd _ _ _ _ _ (by have := h.len; omega) h) fun _ => Rl.ite (isb (hs.is (by decide) (by decide))) (fun _ => rl_forR hq hr hd _ _ _ h) fun _ => ?_
  refine Rl.ite (isb (hs.is (by decide) (by decide))) (fun _ => rl_retR hq _ _ _ h) fun _ => Rl.ite (isb (hs.is (by decide) (by decide))) (fun _ => rl_jumpR hl h) fun _ => ?_
  exact Rl.ite (isb (hs.is (by decide) (by decide))) (fun _ => rl_jumpR hl h) fun _ => rl_simpleR hq _ _ _ h
theorem rl_stR : ∀ (f f' : Nat), f ≤ f' → FR s (stR z f) (stR z' f')
  | 0, _, _ => fun _ _ _ _ => Rl.bad
  | f + 1, 0, h => by omega
  | f + 1, f' + 1, hf => rl_stRest hq (rl_stR f f' (by omega)) (stR_dec z f)
theorem rl_stmR : FR s (stmR z) (stmR z') := fun d l l' h => rl_stR hq _ _ (by have := h.len; omega) d l l' h

theorem rl_funcR : FR s (funcR z) (funcR z') := fun d l l' h => Rl.dec (fun n r e => funcR_dec z d l n r e) fun hl => by
  refine rl_beg ((h.sm hl z z').is (by decide) (by decide)) (fun _ => hl) h fun _ _ r r' _ _ _ hp => ?_
  refine Rl.bind ?_ fun rc r r' hp => (rl_name hq hp).bind fun x r r' hp => (rl_list hq (rl_typed hq (rl_tyR hq)) hp).bind fun ps r r' hp => ?_
  · exact Rl.ite (hp.t hq (by decide)) (fun e => (rl_typed hq (rl_tyR hq) _ _ _ (hp.tail (isT_ne (by decide) e))).bind fun n r r' hp => (rl_want hq (by decide) hp).bind fun _ r r' hp => Rl.ok hp) fun _ => Rl.ok hp
  refine Rl.bind ?_ fun t r r' hp => (rl_blockR hq (rl_stmR hq) (stmR_dec z) _ _ _ hp).bind fun b r r' hp => Rl.ok hp
  exact Rl.ite (hp.t hq (by decide)) (fun _ => Rl.ok hp) fun _ => rl_tyR hq _ _ _ hp
theorem rl_declR : FR s (declR z) (declR z') := fun d l l' h => Rl.dec (fun n r e => declR_dec z d l n r e) fun hl => by
  have hs := h.sm hl z z'
  have ht := h.tail hl
  refine Rl.ite (isb (hs.is (by decide) (by decide))) (fun _ => (rl_name hq ht).bind fun x r r' hp => Rl.ok hp) fun _ => ?_
  refine Rl.ite (isb (hs.is (by decide) (by decide))) (fun _ => ?_) fun _ => ?_
  · unfold must
    by_cases h3 : ((Parse.hd z l.tail).kind == 3) = true
    · have h3' : ((Parse.hd z' l'.tail).kind == 3) = true := by rw [← beq_iff (ht.hd hq z z').k3]; exact h3
      have hn : l.tail ≠ [] := fun q => by rw [q] at h3; cases h3
      rw [if_pos h3, if_pos h3']
      show Rl s (Rd.ok _ _) (Rd.ok _ _)
      rw [(ht.sm hn z z').x (by have := beq_iff_eq.1 h3; omega)]
      exact Rl.ok (ht.tail hn)
    · rw [if_neg h3]; exact Rl.bad
  refine Rl.ite (isb (hs.is (by decide) (by decide))) (fun _ => (rl_name hq ht).bind fun x r r' hp => (rl_want hq (by decide) hp).bind fun _ r r' hp => (rl_exR hq _ _ _ hp).bind fun n r r' hp => Rl.ok hp) fun _ => ?_
  refine Rl.ite (isb (hs.is (by decide) (by decide))) (fun _ => (rl_name hq ht).bind fun x r r' hp => (rl_tyR hq _ _ _ hp).bind fun n r r' hp => Rl.ok hp) fun _ => ?_
  exact Rl.ite (isb (hs.is (by decide) (by decide))) (fun _ => rl_varR hq _ _ _ h) fun _ => rl_funcR hq _ _ _ h
end
end Go.Proofs.YtaiihnniblibaaaGreatDoor.Parse

/-
  Layer 6 (parse), plain mathematics: a file's rows, and what stands behind it.
-/
namespace Go.Proofs.YtaiihnniblibaaaGreatDoor.Parse
open Tree
set_option linter.unusedVariables false

theorem appF_assoc : ∀ a b c : F, appF (appF a b) c = appF a (appF b c)
  | .nil, _, _ => rfl
  | .cons k x y d r, b, c => by simp only [appF, appF_assoc r b c]
theorem appF_one (n : Nd) (a b : F) : appF (oneF n a) b = oneF n (appF a b) := rfl
theorem bind_id {α : Type} (R : Rd α) : (R.bind fun a r => .ok a r) = R := by cases R <;> rfl

/-- Words with which items begin. -/
def WsOk (ws : List (List UInt8)) : Prop := ∀ u ∈ ws, u ≠ [] ∧ u ≠ [59]
def rowC (z : Nat) (ws : List (List UInt8)) (l : List Tk) : Prop := (Parse.hd z l).kind = 5 ∨ (ws.any fun u => isT (Parse.hd z l) u) = true
instance (z : Nat) (ws : List (List UInt8)) (l : List Tk) : Decidable (rowC z ws l) := by unfold rowC; exact inferInstance
theorem rows_step (z : Nat) (ws : List (List UInt8)) (f : Nat) (l : List Tk) : rows z ws (f + 1) l = if rowC z ws l then (item z (declR z) 0 l).bind fun n l => (rows z ws f l).bind fun c l => .ok (oneF n c) l else .ok .nil l := rfl
theorem rowC_nil {z : Nat} {ws : List (List UInt8)} (hw : WsOk ws) : ¬ rowC z ws [] := by
  rintro (h | h)
  · cases h
  · simp only [List.any_eq_true] at h
    obtain ⟨u, hu, h⟩ := h
    exact isT_ne (hw u hu).1 h rfl
theorem rowC_sm {z z' : Nat} {ws : List (List UInt8)} (hw : WsOk ws) {l l' : List Tk} (h : Sm (Parse.hd z l) (Parse.hd z' l')) : rowC z ws l ↔ rowC z' ws l' := by
  unfold rowC
  rw [h.k]
  have : (ws.any fun u => isT (Parse.hd z l) u) = (ws.any fun u => isT (Parse.hd z' l') u) := by
    induction ws with
    | nil => rfl
    | cons u ws ih =>
      simp only [List.any_cons]
      rw [h.is (hw u (by simp)).1 (hw u (by simp)).2, ih fun v hv => hw v (by simp [hv])]
  rw [this]
theorem bind_ok {α β : Type} {R : Rd α} {g : α → List Tk → Rd β} {b : β} {r : List Tk} (h : R.bind g = .ok b r) : ∃ a r1, R = .ok a r1 ∧ g a r1 = .ok b r := by
  cases R with
  | ok a r1 => exact ⟨a, r1, rfl, h⟩
  | bad p e => cases h
theorem rowsR_ok {z : Nat} {ws : List (List UInt8)} {f : Nat} {l r : List Tk} {c : F} (h : rows z ws f l = .ok c r) : ∃ g, f = g + 1 ∧ ((¬ rowC z ws l ∧ c = .nil ∧ r = l) ∨
    (rowC z ws l ∧ ∃ n r1 c1, item z (declR z) 0 l = .ok n r1 ∧ rows z ws g r1 = .ok c1 r ∧ c = oneF n c1)) := by
  cases f with
  | zero => cases h
  | succ g =>
    refine ⟨g, rfl, ?_⟩
    rw [rows_step] at h
    by_cases hc : rowC z ws l
    · rw [if_pos hc] at h
      obtain ⟨n, r1, h1, h⟩ := bind_ok h
      obtain ⟨c1, r2, h2, h⟩ := bind_ok h
      simp only [Rd.ok.injEq] at h
      obtain ⟨rfl, rfl⟩ := h
      exact .inr ⟨hc, n, r1, c1, h1, h2, rfl⟩
    · rw [if_neg hc] at h
      simp only [Rd.ok.injEq] at h
      exact .inl ⟨hc, h.1.symm, h.2.symm⟩
theorem rows_no {z : Nat} {ws : List (List UInt8)} {f : Nat} {l : List Tk} (h : ¬ rowC z ws l) : rows z ws (f + 1) l = .ok .nil l := by rw [rows_step, if_neg h]
theorem rows_yes {z : Nat} {ws : List (List UInt8)} {f : Nat} {l r1 r : List Tk} {n : Nd} {c : F} (h : rowC z ws l) (h1 : item z (declR z) 0 l = .ok n r1) (h2 : rows z ws f r1 = .ok c r) : rows z ws (f + 1) l = .ok (oneF n c) r := by
  rw [rows_step, if_pos h, h1, Rd.bind_ok, h2, Rd.bind_ok]
theorem item_lt {z : Nat} {l r : List Tk} {n : Nd} (h : item z (declR z) 0 l = .ok n r) : r.length < l.length := lt_item (declR_dec z) 0 l n r h
theorem rows_fuel {z : Nat} {ws : List (List UInt8)} : ∀ (f : Nat) {g : Nat} {l r : List Tk} {c : F}, rows z ws f l = .ok c r → l.length < g → rows z ws g l = .ok c r
  | 0, _, _, _, _, h, _ => by cases h
  | f + 1, 0, _, _, _, _, h => by omega
  | f + 1, g + 1, l, r, c, h, hg => by
    obtain ⟨f', e, h | ⟨hc, n, r1, c1, h1, h2, rfl⟩⟩ := rowsR_ok h
    · obtain ⟨hc, rfl, rfl⟩ := h
      exact rows_no hc
    · obtain rfl : f = f' := by omega
      have := item_lt h1
      exact rows_yes hc h1 (rows_fuel f h2 (by omega))
/-- A row, behind which s stands. -/
theorem rows_ap {s : List Tk} (hq : Quiet s) {z z' : Nat} {ws : List (List UInt8)} (hw : WsOk ws) : ∀ (f : Nat) {f' : Nat} {l l' r : List Tk} {c : F}, rows z ws f l = .ok c r → Ap s l l' → l'.length < f' →
    (r ≠ [] ∧ ∃ r', rows z' ws f' l' = .ok c r' ∧ Ap s r r') ∨ (r = [] ∧ ∃ g, s.length < g ∧ ∀ c2 r2, rows z' ws g s = .ok c2 r2 → rows z' ws f' l' = .ok (appF c c2) r2)
  | 0, _, _, _, _, _, h, _, _ => by cases h
  | f + 1, 0, _, _, _, _, _, _, h => by omega
  | f + 1, f' + 1, l, l', r, c, h, ha, hf => by
    obtain ⟨f1, e, h | ⟨hc, n, r1, c1, h1, h2, rfl⟩⟩ := rowsR_ok h
    · obtain ⟨hc, rfl, rfl⟩ := h
      cases ha with
      | nil => exact .inr ⟨rfl, f' + 1, hf, fun c2 r2 e => e⟩
      | cons ht ha => exact .inl ⟨List.cons_ne_nil _ _, _, rows_no fun q => hc ((rowC_sm hw (z := z) (z' := z') (l := _ :: _) (l' := _ :: _) ht).2 q), .cons ht ha⟩
    · obtain rfl : f = f1 := by omega
      have hl : l ≠ [] := fun q => by subst q; exact rowC_nil hw hc
      obtain ⟨r1', h1', ha1⟩ := rl_item hq (rl_declR hq) (declR_dec z) 0 l l' ha n r1 h1
      have hlt := item_lt h1'
      have hc' := (rowC_sm hw (ha.sm hl z z')).1 hc
      rcases rows_ap hq hw f h2 ha1 (show r1'.length < f' by omega) with ⟨hr, r', h3, ha3⟩ | ⟨hr, g, hg, k⟩
      · exact .inl ⟨hr, r', rows_yes hc' h1' h3, ha3⟩
      · exact .inr ⟨hr, g, hg, fun c2 r2 e => rows_yes hc' h1' (k c2 r2 e)⟩

/-- What stands behind: remarks and declarations. -/
def Decls (z : Nat) (s : List Tk) (c : F) : Prop := ∀ g, s.length < g → rows z wDecl g s = .ok c []
theorem wImp_ok : WsOk wImp := by unfold WsOk; decide
theorem wDecl_ok : WsOk wDecl := by unfold WsOk; decide
theorem isT_two {t : Tk} {u v : List UInt8} (h : isT t u = true) (hv : u ≠ v) : isT t v = false := by
  unfold isT at h ⊢
  rw [beq_iff_eq] at h
  rw [h]; simpa using hv
theorem decls_imp {z : Nat} : ∀ (g : Nat) {g' : Nat} {l : List Tk} {c : F}, rows z wDecl g l = .ok c [] → l.length < g' → ∃ ci cd r1, rows z wImp g' l = .ok ci r1 ∧ (∀ g2, r1.length < g2 → rows z wDecl g2 r1 = .ok cd []) ∧ c = appF ci cd
  | 0, _, _, _, h, _ => by cases h
  | g + 1, 0, _, _, _, h => by omega
  | g + 1, g' + 1, l, c, h, hg => by
    obtain ⟨f', e, h' | ⟨hc, n, r1, c1, h1, h2, rfl⟩⟩ := rowsR_ok h
    · obtain ⟨hc, rfl, rfl⟩ := h'
      exact ⟨.nil, .nil, [], rows_no (rowC_nil wImp_ok), fun g2 hg2 => by
        cases g2 with
        | zero => exact absurd hg2 (Nat.lt_irrefl _)
        | succ g2 => exact rows_no (rowC_nil wDecl_ok), rfl⟩
    · obtain rfl : g = f' := by omega
      have hlt := item_lt h1
      by_cases h5 : (Parse.hd z l).kind = 5
      · obtain ⟨ci, cd, r2, k1, k2, rfl⟩ := decls_imp g h2 (show r1.length < g' by omega)
        exact ⟨oneF n ci, cd, r2, rows_yes (.inl h5) h1 k1, k2, rfl⟩
      · refine ⟨.nil, oneF n c1, l, rows_no ?_, fun g2 hg2 => rows_fuel _ h hg2, rfl⟩
        rintro (q | q)
        · exact h5 q
        · rcases hc with hc | hc
          · exact h5 hc
          · simp only [wImp, wDecl, List.any_cons, List.any_nil, Bool.or_false, Bool.or_eq_true] at q hc
            rcases hc with hc | hc | hc | hc <;> rw [isT_two hc (by decide)] at q <;> cases q
theorem must_true {z : Nat} {l : List Tk} {f : Bool} (h : f = true) : must z f l = .ok () l := by unfold must; rw [if_pos h]
theorem must_is {z : Nat} {l r : List Tk} {f : Bool} {u : Unit} (h : must z f l = .ok u r) : f = true ∧ r = l := by
  unfold must at h
  split at h
  · simp only [Rd.ok.injEq] at h; exact ⟨by assumption, h.2.symm⟩
  · cases h
/-- A program behind which remarks and declarations stand. -/
theorem file_ap {s : List Tk} (hq : Quiet s) {z z' : Nat} {l l' r : List Tk} {c cs : F} (h : fileR z l = .ok c r) (ha : Ap s l l') (hs : Decls z' s cs) : fileR z' l' = .ok (appF c cs) [] := by
  unfold fileR at h ⊢
  obtain ⟨c1, r1, h1, g1⟩ := bind_ok h
  obtain ⟨u, r1', h2, g2⟩ := bind_ok g1
  obtain ⟨hp, rfl⟩ := must_is h2
  obtain ⟨p, r2, h3, g3⟩ := bind_ok g2
  obtain ⟨c2, r3, h4, g4⟩ := bind_ok g3
  obtain ⟨c3, r4, h5, g5⟩ := bind_ok g4
  obtain ⟨u', r4', h6, g6⟩ := bind_ok g5
  obtain ⟨h7, rfl⟩ := must_is h6
  have h7 : r4' = [] := List.eq_nil_of_length_eq_zero (of_decide_eq_true h7)
  subst h7
  simp only [Rd.ok.injEq] at g6
  obtain ⟨rfl, rfl⟩ := g6
  clear h g1 g2 g3 g4 g5
  have hne := isT_ne (by decide) hp
  rcases rows_ap hq (z' := z') (by intro u hu; cases hu) _ h1 ha (Nat.lt_succ_self _) with ⟨_, r1', k1, a1⟩ | ⟨e, _⟩
  case inr => exact absurd e hne
  have hp' : isT (Parse.hd z' r1') [112, 97, 99, 107, 97, 103, 101] = true := by rw [← (a1.sm hne z z').is (by decide) (by decide)]; exact hp
  obtain ⟨r2', k3, a2⟩ := rl_item hq (rl_declR hq) (declR_dec z) 0 _ _ a1 _ _ h3
  rw [k1, Rd.bind_ok, must_true hp', Rd.bind_ok, k3, Rd.bind_ok]
  have hend : ∀ c, ((must z' (decide (([] : List Tk).length = 0)) []).bind fun _ l => Rd.ok c l) = (Rd.ok c [] : Rd F) := fun c => rfl
  rcases rows_ap hq (z' := z') wImp_ok _ h4 a2 (Nat.lt_succ_self _) with ⟨_, r3', k4, a3⟩ | ⟨rfl, g, hg, k4⟩
  · rw [k4, Rd.bind_ok]
    rcases rows_ap hq (z' := z') wDecl_ok _ h5 a3 (Nat.lt_succ_self _) with ⟨e, _⟩ | ⟨_, g, hg, k5⟩
    · exact absurd rfl e
    · rw [k5 cs [] (hs g hg), Rd.bind_ok, hend]
      simp only [appF_assoc, appF_one]
  · obtain ⟨ci, cd, rs, j1, j2, rfl⟩ := decls_imp g (hs g hg) hg
    rw [k4 ci rs j1, Rd.bind_ok, j2 _ (Nat.lt_succ_self _), Rd.bind_ok, hend]
    have : c3 = .nil := by
      obtain ⟨f', e, h' | ⟨hc, _⟩⟩ := rowsR_ok h5
      · exact h'.2.1
      · exact absurd hc (rowC_nil wDecl_ok)
    subst this
    simp only [appF_assoc, appF_one, appF_nil]
theorem quiet_nil : Quiet [] := fun z z' => ⟨fun w hw => rfl, rfl, rfl, Iff.rfl, Iff.rfl, Iff.rfl, Iff.rfl⟩
theorem decls_nil (z : Nat) : Decls z [] .nil := fun g hg => by
  cases g with
  | zero => exact absurd hg (Nat.lt_irrefl _)
  | succ g => exact rows_no (rowC_nil wDecl_ok)
/-- A program of tokens that can't be told apart. -/
theorem file_sm {z z' : Nat} {l l' r : List Tk} {c : F} (h : fileR z l = .ok c r) (ha : Ap [] l l') : fileR z' l' = .ok c [] := by
  rw [file_ap quiet_nil h ha (decls_nil z'), appF_nil]
/-! ### The tokens -/
open Lex in
theorem tiles_semi : ∀ {ps : List (Int × List Int)} {l z : List Int}, Tiles l ps z → ∀ p ∈ ps, p.1 = 6 → p.2 = [59]
  | [], _, _, _, p, hp, _ => by cases hp
  | (k, t) :: ps, l, z, ⟨r, h1, h2, h3, h4⟩, p, hp, h6 => by
    rcases List.mem_cons.1 hp with e | e
    · subst e
      have h6 : k = 6 := h6
      subst h6
      cases l with
      | nil => simp [piece] at h2
      | cons c l' =>
        rw [piece_cons] at h2
        have hk := kd_cases c
        repeat' split at h2
        all_goals first
          | (exfalso; simp only [Prod.mk.injEq] at h2; omega)
          | (simp only [Prod.mk.injEq] at h2
             have hc := kd_semi.1 h2.1
             match t, h2.2, h1 with
             | [d], _, h1 => simp only [List.cons_append, List.nil_append, List.cons.injEq] at h1; rw [← h1.1, hc])
    · exact tiles_semi h4 p e h6
theorem parse_ok {xs : List Int} {n : Nd} {r : List Tk} (h : parseR xs = .ok n r) : Lex.lexE xs = 0 ∧ ∃ c, fileR xs.length ((Lex.toks xs).map tkOf) = .ok c r ∧ n = mkFile c := by
  unfold parseR at h
  split at h
  · rename_i h0
    refine ⟨h0, ?_⟩
    unfold fileN at h
    obtain ⟨c, r1, h1, h2⟩ := bind_ok h
    simp only [Rd.ok.injEq] at h2
    obtain ⟨rfl, rfl⟩ := h2
    exact ⟨c, h1, rfl⟩
  · cases h
theorem parse_is {xs : List Int} {c : F} {r : List Tk} (h0 : Lex.lexE xs = 0) (h : fileR xs.length ((Lex.toks xs).map tkOf) = .ok c r) : parseR xs = .ok (mkFile c) r := by
  unfold parseR; rw [if_pos h0]; exact filen_ok h
end Go.Proofs.YtaiihnniblibaaaGreatDoor.Parse
