/-
  Plain mathematics of layer 7 (doc): rows of plans and of documents, their pieces, how a plan is built. Nothing of the program is imported.
-/
import Derived.Lib.Bytes
namespace Go.Proofs.Ytpankfbdlakmcaa.Doc
set_option linter.unusedVariables false

/-- A row of plans, or of documents: the first one's kind, text and parts, and the rest. -/
inductive G where
  | nil
  | cons (k : Int) (x : ByteArray) (c r : G)

namespace G
def len : G → Nat
  | .nil => 0
  | .cons _ _ _ r => r.len + 1
def size : G → Nat
  | .nil => 0
  | .cons _ _ c r => c.size + r.size + 1
def drop : Nat → G → G
  | 0, f => f
  | _ + 1, .nil => .nil
  | n + 1, .cons _ _ _ r => r.drop n
theorem len_le_size : ∀ f : G, f.len ≤ f.size
  | .nil => Nat.le_refl _
  | .cons _ _ c r => by have := len_le_size r; simp only [len, size]; omega
theorem drop_nil : ∀ n : Nat, G.drop n .nil = .nil
  | 0 => rfl
  | _ + 1 => rfl
theorem drop_len : ∀ (n : Nat) (f : G), (f.drop n).len = f.len - n
  | 0, f => rfl
  | n + 1, .nil => by simp [drop, len]
  | n + 1, .cons _ _ _ r => by simp only [drop, len, drop_len n r]; omega
theorem drop_all : ∀ (n : Nat) (f : G), f.len ≤ n → f.drop n = .nil
  | n, .nil, _ => drop_nil n
  | 0, .cons _ _ _ r, h => by simp [len] at h
  | n + 1, .cons _ _ _ r, h => drop_all n r (by simp only [len] at h; omega)
theorem drop_cons : ∀ {n : Nat} {f : G}, n < f.len → ∃ k x c r, f.drop n = .cons k x c r ∧ f.drop (n + 1) = r
  | n, .nil, h => by simp [len] at h
  | 0, .cons k x c r, _ => ⟨k, x, c, r, rfl, rfl⟩
  | n + 1, .cons _ _ _ r, h => by
    obtain ⟨k, x, c, r', h1, h2⟩ := drop_cons (n := n) (f := r) (by simp only [len] at h; omega)
    exact ⟨k, x, c, r', h1, h2⟩
theorem drop_size : ∀ (n : Nat) (f : G), (f.drop n).size ≤ f.size
  | 0, f => Nat.le_refl _
  | n + 1, .nil => by simp [drop, size]
  | n + 1, .cons _ _ c r => by have := drop_size n r; simp only [drop, size]; omega
theorem kid_size {n : Nat} {f : G} {k : Int} {x : ByteArray} {c r : G} (h : f.drop n = .cons k x c r) : c.size + r.size + 1 ≤ f.size := by
  have := drop_size n f
  rw [h] at this
  exact this
theorem len_zero {f : G} (h : f.len = 0) : f = .nil := by
  cases f with
  | nil => rfl
  | cons => simp [len] at h
end G

/-- A node, without those behind it. -/
structure Nd where
  k : Int
  x : ByteArray
  c : G
def ofL : List Nd → G
  | [] => .nil
  | nd :: l => .cons nd.k nd.x nd.c (ofL l)
theorem ofL_len : ∀ l : List Nd, (ofL l).len = l.length
  | [] => rfl
  | nd :: l => by simp only [ofL, G.len, ofL_len l, List.length_cons]
def toL : G → List Nd
  | .nil => []
  | .cons k x c r => ⟨k, x, c⟩ :: toL r
theorem toL_len : ∀ f : G, (toL f).length = f.len
  | .nil => rfl
  | .cons k x c r => by simp only [toL, List.length_cons, G.len, toL_len r]
theorem ofL_toL : ∀ f : G, ofL (toL f) = f
  | .nil => rfl
  | .cons k x c r => by simp only [toL, ofL, ofL_toL r]
theorem toL_ofL : ∀ l : List Nd, toL (ofL l) = l
  | [] => rfl
  | nd :: l => by simp only [ofL, toL, toL_ofL l]
theorem toL_at : ∀ (f : G) (i : Nat) (nd : Nd), (toL f)[i]? = some nd → ∃ r, f.drop i = .cons nd.k nd.x nd.c r
  | .nil, i, nd, h => by simp [toL] at h
  | .cons k x c r, 0, nd, h => by
    simp only [toL, List.getElem?_cons_zero, Option.some.injEq] at h
    subst h
    exact ⟨r, rfl⟩
  | .cons k x c r, i + 1, nd, h => toL_at r i nd (by simpa [toL] using h)

/-! ### Pieces -/
abbrev Pc : Type := Int × ByteArray
def emp : ByteArray := ⟨#[]⟩
def opn (k : Int) : List Pc := if k = 0 then [] else [(k, emp)]
def cls (k : Int) : List Pc := if k = 0 then [] else [(k + 1, emp)]
def one (k : Int) (x : ByteArray) (n : Nat) (l : List Pc) : List Pc := if n = 0 then (if k = 0 then [] else [(k, x)]) else opn k ++ (l ++ cls k)
/-- A row of documents' pieces. -/
def pcs : G → List Pc
  | .nil => []
  | .cons k x c r => one k x c.len (pcs c) ++ pcs r
def pcs1 (nd : Nd) : List Pc := one nd.k nd.x nd.c.len (pcs nd.c)
theorem opn_len (k : Int) : (opn k).length ≤ 1 := by unfold opn; split <;> simp
theorem cls_len (k : Int) : (cls k).length ≤ 1 := by unfold cls; split <;> simp
theorem one_len (k : Int) (x : ByteArray) (n : Nat) (l : List Pc) : (one k x n l).length ≤ l.length + 2 := by
  unfold one
  have := opn_len k; have := cls_len k
  split
  · split <;> simp
  · simp only [List.length_append]; omega
theorem pcs_len : ∀ g : G, (pcs g).length ≤ 2 * g.size
  | .nil => Nat.le_refl _
  | .cons k x c r => by
    have h1 := pcs_len c; have h2 := pcs_len r; have h3 := one_len k x c.len (pcs c)
    simp only [pcs, List.length_append, G.size]; omega
theorem pcs_drop : ∀ {f : G} {i : Nat} {k : Int} {x : ByteArray} {c r : G}, f.drop i = .cons k x c r → pcs (f.drop i) = pcs1 ⟨k, x, c⟩ ++ pcs r := by
  intro f i k x c r h
  rw [h]; rfl
def appG : G → G → G
  | .nil, g => g
  | .cons k x c r, g => .cons k x c (appG r g)
theorem pcs_app : ∀ f g : G, pcs (appG f g) = pcs f ++ pcs g
  | .nil, g => rfl
  | .cons k x c r, g => by simp only [appG, pcs, pcs_app r g, List.append_assoc]
theorem ofL_app : ∀ l m : List Nd, ofL (l ++ m) = appG (ofL l) (ofL m)
  | [], m => rfl
  | nd :: l, m => by simp only [List.cons_append, ofL, appG, ofL_app l m]
theorem size_app : ∀ f g : G, (appG f g).size = f.size + g.size
  | .nil, g => by simp [appG, G.size]
  | .cons k x c r, g => by simp only [appG, G.size, size_app r g]; omega

/-! ### Rows -/
def noth (nd : Nd) : Bool := nd.k == 0 && nd.c.len == 0
def rowN (l : List Nd) : Nd :=
  match l.filter (fun nd => !noth nd) with
  | [nd] => nd
  | m => ⟨0, emp, ofL m⟩
theorem pcs_noth {nd : Nd} (h : noth nd = true) : pcs1 nd = [] := by
  unfold noth at h
  simp only [Bool.and_eq_true, beq_iff_eq] at h
  unfold pcs1 one
  rw [if_pos h.2, if_pos h.1]
theorem pcs_filter : ∀ l : List Nd, pcs (ofL (l.filter (fun nd => !noth nd))) = pcs (ofL l)
  | [] => rfl
  | nd :: l => by
    rw [List.filter_cons]
    cases h : noth nd with
    | true =>
      have := pcs_noth h
      simp only [Bool.not_true, Bool.false_eq_true, if_false, ofL, pcs]
      rw [pcs_filter l]
      show _ = pcs1 nd ++ _
      rw [this, List.nil_append]
    | false =>
      simp only [Bool.not_false, if_true, ofL, pcs]
      rw [pcs_filter l]
theorem pcs_row (l : List Nd) : pcs1 (rowN l) = pcs (ofL l) := by
  rw [← pcs_filter l]
  unfold rowN
  generalize l.filter (fun nd => !noth nd) = m
  match m with
  | [] => rfl
  | [nd] => show _ = pcs1 nd ++ []; rw [List.append_nil]
  | a :: b :: m =>
    show one 0 emp _ _ = _
    unfold one
    rw [if_neg (by simp [ofL, G.len])]
    show [] ++ (_ ++ []) = _
    rw [List.append_nil, List.nil_append]
def nsize (nd : Nd) : Nat := nd.c.size + 1
theorem ofL_filter_size : ∀ (l : List Nd) (p : Nd → Bool), (ofL (l.filter p)).size ≤ (ofL l).size
  | [], p => Nat.le_refl _
  | nd :: l, p => by
    have := ofL_filter_size l p
    rw [List.filter_cons]
    split <;> simp only [ofL, G.size] <;> omega
theorem row_size (l : List Nd) : nsize (rowN l) ≤ (ofL l).size + 1 := by
  have h := ofL_filter_size l (fun nd => !noth nd)
  unfold rowN
  generalize l.filter (fun nd => !noth nd) = m at *
  match m with
  | [] => simp [nsize, ofL, G.size]
  | [nd] => simp only [ofL, G.size] at h; show nd.c.size + 1 ≤ _; omega
  | a :: b :: m => show (ofL (a :: b :: m)).size + 1 ≤ _; omega

/-! ### Plans -/
def nestN (nd : Nd) : Nd := ⟨5, emp, .cons nd.k nd.x nd.c .nil⟩
def groupN (nd : Nd) : Nd := ⟨7, emp, .cons nd.k nd.x nd.c .nil⟩
def textN (x : ByteArray) : Nd := if x.toList = [] then ⟨0, emp, .nil⟩ else ⟨1, x, .nil⟩
def wrapN (k : Int) (nd : Nd) : Nd := if k = 5 then nestN nd else if k = 7 then groupN nd else nd
def builtN (k : Int) (x : ByteArray) (l : List Nd) : Nd :=
  if k = 1 then textN x else if k = 2 ∨ k = 3 ∨ k = 4 then ⟨k, emp, .nil⟩ else wrapN k (rowN l)
/-- A row of plans, built. -/
def bL : G → List Nd
  | .nil => []
  | .cons k x c r => builtN k x (bL c) :: bL r
def b1 (k : Int) (x : ByteArray) (c : G) : Nd := builtN k x (bL c)
theorem bL_len : ∀ g : G, (bL g).length = g.len
  | .nil => rfl
  | .cons k x c r => by simp only [bL, List.length_cons, G.len, bL_len r]

def wopn (k : Int) : List Pc := if k = 5 ∨ k = 7 then [(k, emp)] else []
def wcls (k : Int) : List Pc := if k = 5 ∨ k = 7 then [(k + 1, emp)] else []
def plOne (k : Int) (x : ByteArray) (l : List Pc) : List Pc :=
  if k = 1 then (if x.toList = [] then [] else [(1, x)]) else if k = 2 ∨ k = 3 ∨ k = 4 then [(k, emp)] else wopn k ++ (l ++ wcls k)
/-- A row of plans' pieces. -/
def plP : G → List Pc
  | .nil => []
  | .cons k x c r => plOne k x (plP c) ++ plP r
theorem pcs_wrap (k : Int) (nd : Nd) : pcs1 (wrapN k nd) = wopn k ++ (pcs1 nd ++ wcls k) := by
  unfold wrapN wopn wcls
  by_cases h5 : k = 5
  · subst h5
    show one 5 emp 1 (pcs1 nd ++ []) = _
    rw [List.append_nil]; rfl
  · rw [if_neg h5]
    by_cases h7 : k = 7
    · subst h7
      show one 7 emp 1 (pcs1 nd ++ []) = _
      rw [List.append_nil]; rfl
    · rw [if_neg h7, if_neg (by omega), if_neg (by omega), List.nil_append, List.append_nil]
theorem pcs_built (k : Int) (x : ByteArray) (l : List Nd) : pcs1 (builtN k x l) = plOne k x (pcs (ofL l)) := by
  unfold builtN plOne
  by_cases h1 : k = 1
  · rw [if_pos h1, if_pos h1]
    unfold textN
    by_cases hx : x.toList = []
    · rw [if_pos hx, if_pos hx]; rfl
    · rw [if_neg hx, if_neg hx]; rfl
  · rw [if_neg h1, if_neg h1]
    by_cases h2 : k = 2 ∨ k = 3 ∨ k = 4
    · rw [if_pos h2, if_pos h2]
      show one k emp 0 [] = _
      unfold one
      rw [if_pos rfl, if_neg (by omega)]
    · rw [if_neg h2, if_neg h2, pcs_wrap, pcs_row]
theorem pcs_bL : ∀ g : G, pcs (ofL (bL g)) = plP g
  | .nil => rfl
  | .cons k x c r => by
    show pcs1 (builtN k x (bL c)) ++ pcs (ofL (bL r)) = _
    rw [pcs_built, pcs_bL c, pcs_bL r]; rfl
theorem pcs_b1 (k : Int) (x : ByteArray) (c : G) : pcs1 (b1 k x c) = plOne k x (plP c) := by unfold b1; rw [pcs_built, pcs_bL]
theorem wrap_size (k : Int) (nd : Nd) : nsize (wrapN k nd) ≤ nsize nd + 1 := by
  unfold wrapN nestN groupN
  split
  · simp only [nsize, G.size]; omega
  · split
    · simp only [nsize, G.size]; omega
    · omega
theorem built_size (k : Int) (x : ByteArray) (l : List Nd) : nsize (builtN k x l) ≤ (ofL l).size + 2 := by
  unfold builtN
  split
  · unfold textN; split <;> simp [nsize, G.size]
  · split
    · simp [nsize, G.size]
    · have := wrap_size k (rowN l); have := row_size l; omega
theorem bL_size : ∀ g : G, (ofL (bL g)).size ≤ 2 * g.size
  | .nil => Nat.le_refl _
  | .cons k x c r => by
    have h1 := bL_size c; have h2 := bL_size r; have h3 := built_size k x (bL c)
    simp only [bL, ofL, G.size]
    unfold nsize at h3
    omega
theorem b1_size (k : Int) (x : ByteArray) (c : G) : nsize (b1 k x c) ≤ 2 * c.size + 2 := by
  have := bL_size c; have := built_size k x (bL c); unfold b1; omega

/-! ### Kinds -/
def okG : G → Prop
  | .nil => True
  | .cons k x c r => (0 ≤ k ∧ k ≤ 8) ∧ okG c ∧ okG r
def okN (nd : Nd) : Prop := (0 ≤ nd.k ∧ nd.k ≤ 8) ∧ okG nd.c
theorem okG_drop : ∀ {f : G} {i : Nat} {k : Int} {x : ByteArray} {c r : G}, okG f → f.drop i = .cons k x c r → okN ⟨k, x, c⟩ ∧ okG r
  | .nil, i, k, x, c, r, _, h => by rw [G.drop_nil] at h; cases h
  | .cons k' x' c' r', 0, k, x, c, r, ⟨h1, h2, h3⟩, h => by
    simp only [G.drop, G.cons.injEq] at h
    obtain ⟨rfl, rfl, rfl, rfl⟩ := h
    exact ⟨⟨h1, h2⟩, h3⟩
  | .cons k' x' c' r', i + 1, k, x, c, r, ⟨_, _, h3⟩, h => okG_drop h3 h
theorem okG_ofL : ∀ {l : List Nd}, (∀ nd ∈ l, okN nd) → okG (ofL l)
  | [], _ => trivial
  | nd :: l, h => ⟨(h nd (List.mem_cons_self ..)).1, (h nd (List.mem_cons_self ..)).2, okG_ofL fun n hn => h n (List.mem_cons_of_mem _ hn)⟩
theorem okN_row {l : List Nd} (h : ∀ nd ∈ l, okN nd) : okN (rowN l) := by
  have hf : ∀ nd ∈ l.filter (fun nd => !noth nd), okN nd := fun nd hn => h nd (List.mem_filter.1 hn).1
  unfold rowN
  generalize l.filter (fun nd => !noth nd) = m at *
  match m, hf with
  | [], _ => exact ⟨by decide, trivial⟩
  | [nd], hf => exact hf nd (List.mem_cons_self ..)
  | a :: b :: m, hf => exact ⟨(show (0 : Int) ≤ 0 ∧ (0 : Int) ≤ 8 from ⟨by decide, by decide⟩), okG_ofL hf⟩
theorem okN_nest {nd : Nd} (h : okN nd) : okN (nestN nd) := ⟨(show (0 : Int) ≤ 5 ∧ (5 : Int) ≤ 8 from ⟨by decide, by decide⟩), h.1, h.2, trivial⟩
theorem okN_group {nd : Nd} (h : okN nd) : okN (groupN nd) := ⟨(show (0 : Int) ≤ 7 ∧ (7 : Int) ≤ 8 from ⟨by decide, by decide⟩), h.1, h.2, trivial⟩
theorem okN_text (x : ByteArray) : okN (textN x) := by
  unfold textN
  split
  · exact ⟨(show (0 : Int) ≤ 0 ∧ (0 : Int) ≤ 8 from ⟨by decide, by decide⟩), trivial⟩
  · exact ⟨(show (0 : Int) ≤ 1 ∧ (1 : Int) ≤ 8 from ⟨by decide, by decide⟩), trivial⟩
theorem okN_built {k : Int} {x : ByteArray} {l : List Nd} (h : ∀ nd ∈ l, okN nd) : okN (builtN k x l) := by
  unfold builtN
  split
  · exact okN_text x
  · split
    · rename_i h2
      exact ⟨by show 0 ≤ k ∧ k ≤ 8; omega, trivial⟩
    · unfold wrapN
      split
      · exact okN_nest (okN_row h)
      · split
        · exact okN_group (okN_row h)
        · exact okN_row h
theorem okN_bL : ∀ (g : G), ∀ nd ∈ bL g, okN nd
  | .nil, nd, h => by cases h
  | .cons k x c r, nd, h => by
    simp only [bL, List.mem_cons] at h
    rcases h with rfl | h
    · exact okN_built (okN_bL c)
    · exact okN_bL r nd h
theorem okN_b1 (k : Int) (x : ByteArray) (c : G) : okN (b1 k x c) := okN_built (okN_bL c)

/-! ### The document's own way: at most so many pieces, at most so many plans -/
def rpOne (k : Int) (x : ByteArray) (l : List Pc) : List Pc :=
  if k = 1 then (if x.toList = [] then [] else [(1, x)]) else if k = 2 ∨ k = 3 ∨ k = 4 then [(k, emp)] else l ++ wcls k
def rpL : G → Nat → List Pc → List Pc
  | .nil, _, acc => acc
  | .cons k x c r, m, acc => if acc.length < m then rpL r m (acc ++ rpOne k x (rpL c (m - acc.length) (wopn k))) else acc
def rp1 (k : Int) (x : ByteArray) (c : G) (m : Nat) : List Pc := rpOne k x (rpL c m (wopn k))
theorem wopn_len (k : Int) : (wopn k).length ≤ 1 := by unfold wopn; split <;> simp
theorem wcls_len (k : Int) : (wcls k).length = (wopn k).length := by unfold wcls wopn; split <;> rfl
theorem rpOne_len {k : Int} {x : ByteArray} {l : List Pc} {m : Nat} (hm : 1 ≤ m) (h : l.length + (wopn k).length ≤ 2 * m) : (rpOne k x l).length ≤ 2 * m := by
  unfold rpOne
  split
  · split <;> simp <;> omega
  · split
    · simp; omega
    · rw [List.length_append, wcls_len]; exact h
theorem rpL_len : ∀ (c : G) (m e : Nat) (acc : List Pc), e ≤ acc.length → acc.length + e ≤ 2 * m → (rpL c m acc).length + e ≤ 2 * m
  | .nil, m, e, acc, _, h => h
  | .cons k x c r, m, e, acc, he, h => by
    unfold rpL
    split
    · rename_i hlt
      have hw := wopn_len k
      have h1 := rpL_len c (m - acc.length) (wopn k).length (wopn k) (Nat.le_refl _) (by omega)
      have h2 := rpOne_len (k := k) (x := x) (m := m - acc.length) (by omega) h1
      refine rpL_len r m e _ (by rw [List.length_append]; omega) (by rw [List.length_append]; omega)
    · exact h
theorem rp1_len (k : Int) (x : ByteArray) (c : G) (m : Nat) (hm : 1 ≤ m) : (rp1 k x c m).length ≤ 2 * m := by
  have hw := wopn_len k
  exact rpOne_len hm (rpL_len c m (wopn k).length (wopn k) (Nat.le_refl _) (by omega))
theorem plOne_is (k : Int) (x : ByteArray) (l : List Pc) : plOne k x l = rpOne k x (wopn k ++ l) := by
  unfold plOne rpOne
  rw [List.append_assoc]
theorem plOne_len {k : Int} {x : ByteArray} {l : List Pc} (h1 : k ≠ 1) (h2 : ¬ (k = 2 ∨ k = 3 ∨ k = 4)) : (plOne k x l).length = 2 * (wopn k).length + l.length := by
  unfold plOne
  rw [if_neg h1, if_neg h2, List.length_append, List.length_append, wcls_len]; omega
theorem rpL_full : ∀ (c : G) (m : Nat) (acc : List Pc), acc.length + (plP c).length ≤ m → rpL c m acc = acc ++ plP c
  | .nil, m, acc, _ => by simp [rpL, plP]
  | .cons k x c r, m, acc, h => by
    simp only [plP, List.length_append] at h
    unfold rpL
    by_cases hlt : acc.length < m
    · rw [if_pos hlt]
      have e : rpOne k x (rpL c (m - acc.length) (wopn k)) = plOne k x (plP c) := by
        rw [plOne_is]
        by_cases h1 : k = 1
        · unfold rpOne; rw [if_pos h1, if_pos h1]
        · by_cases h2 : k = 2 ∨ k = 3 ∨ k = 4
          · unfold rpOne; rw [if_neg h1, if_neg h1, if_pos h2, if_pos h2]
          · rw [plOne_len h1 h2] at h
            rw [rpL_full c _ _ (by omega)]
      rw [e, rpL_full r m _ (by rw [List.length_append]; omega), List.append_assoc]; rfl
    · rw [if_neg hlt]
      have h0 : plOne k x (plP c) ++ plP r = [] := List.eq_nil_of_length_eq_zero (by rw [List.length_append]; omega)
      show acc = acc ++ (plOne k x (plP c) ++ plP r)
      rw [h0, List.append_nil]
theorem plOne_len2 (k : Int) (x : ByteArray) (l : List Pc) : (plOne k x l).length ≤ l.length + 2 := by
  by_cases h1 : k = 1
  · unfold plOne; rw [if_pos h1]; split <;> simp
  · by_cases h2 : k = 2 ∨ k = 3 ∨ k = 4
    · unfold plOne; rw [if_neg h1, if_pos h2]; simp
    · rw [plOne_len h1 h2]; have := wopn_len k; omega
theorem plP_len : ∀ g : G, (plP g).length ≤ 2 * g.size
  | .nil => Nat.le_refl _
  | .cons k x c r => by
    have h1 := plP_len c; have h2 := plP_len r; have h3 := plOne_len2 k x (plP c)
    simp only [plP, List.length_append, G.size]; omega
theorem rp1_full (k : Int) (x : ByteArray) (c : G) (m : Nat) (h : 2 * (c.size + 1) ≤ m) : rp1 k x c m = plOne k x (plP c) := by
  have h1 := plP_len c; have h3 := wopn_len k
  unfold rp1
  rw [plOne_is, rpL_full c m _ (by omega)]

def szL : G → Nat → Nat → Nat
  | .nil, _, n => n
  | .cons _ _ c r, m, n => if n < m then szL r m (n + szL c (m - n) 1) else n
theorem szL_ge : ∀ (c : G) (m n : Nat), n ≤ szL c m n
  | .nil, m, n => Nat.le_refl _
  | .cons _ _ c r, m, n => by
    unfold szL
    split
    · exact Nat.le_trans (Nat.le_add_right _ _) (szL_ge r m _)
    · exact Nat.le_refl _
theorem szL_le : ∀ (c : G) (m n : Nat), n ≤ m → szL c m n ≤ m
  | .nil, m, n, h => h
  | .cons _ _ c r, m, n, h => by
    unfold szL
    split
    · refine szL_le r m _ ?_
      have := szL_le c (m - n) 1 (by omega)
      omega
    · exact h
theorem szL_is : ∀ (c : G) (m n : Nat), szL c m n < m → szL c m n = n + c.size
  | .nil, m, n, h => by simp [szL, G.size]
  | .cons _ _ c r, m, n, h => by
    unfold szL at h ⊢
    by_cases hlt : n < m
    · rw [if_pos hlt] at h ⊢
      have h1 := szL_ge r m (n + szL c (m - n) 1)
      have h2 := szL_is c (m - n) 1 (by omega)
      rw [szL_is r m _ h, h2]
      simp only [G.size]; omega
    · rw [if_neg hlt] at h; omega
end Go.Proofs.Ytpankfbdlakmcaa.Doc
