/-
  Plain mathematics of layer 5 (tree): rows of trees, how they nest, which are right. Nothing of the program is imported.
-/
import Derived.Lib.Bytes
namespace Go.Proofs.YtmknghhgcecafaaDoor.Tree
set_option linter.unusedVariables false

/-- A row of trees: the first one's kind, text, trail and Kids, and the rest. -/
inductive F where
  | nil
  | cons (k : Int) (x y : ByteArray) (c r : F)

namespace F
def len : F → Nat
  | .nil => 0
  | .cons _ _ _ _ r => r.len + 1
def size : F → Nat
  | .nil => 0
  | .cons _ _ _ c r => c.size + r.size + 1
def drop : Nat → F → F
  | 0, f => f
  | _ + 1, .nil => .nil
  | n + 1, .cons _ _ _ _ r => r.drop n
theorem len_le_size : ∀ f : F, f.len ≤ f.size
  | .nil => Nat.le_refl _
  | .cons _ _ _ c r => by have := len_le_size r; simp only [len, size]; omega
theorem drop_nil : ∀ n : Nat, F.drop n .nil = .nil
  | 0 => rfl
  | _ + 1 => rfl
theorem drop_len : ∀ (n : Nat) (f : F), (f.drop n).len = f.len - n
  | 0, f => rfl
  | n + 1, .nil => by simp [drop, len]
  | n + 1, .cons _ _ _ _ r => by simp only [drop, len, drop_len n r]; omega
theorem drop_drop : ∀ (n m : Nat) (f : F), (f.drop n).drop m = f.drop (n + m)
  | 0, m, f => by rw [Nat.zero_add]; rfl
  | n + 1, m, .nil => by simp only [drop_nil]
  | n + 1, m, .cons _ _ _ _ r => by rw [show n + 1 + m = (n + m) + 1 by omega]; simp only [drop, drop_drop n m r]
theorem drop_all : ∀ (n : Nat) (f : F), f.len ≤ n → f.drop n = .nil
  | n, .nil, _ => drop_nil n
  | 0, .cons _ _ _ _ r, h => by simp [len] at h
  | n + 1, .cons _ _ _ _ r, h => drop_all n r (by simp only [len] at h; omega)
theorem drop_cons : ∀ {n : Nat} {f : F}, n < f.len → ∃ k x y c r, f.drop n = .cons k x y c r ∧ f.drop (n + 1) = r
  | n, .nil, h => by simp [len] at h
  | 0, .cons k x y c r, _ => ⟨k, x, y, c, r, rfl, rfl⟩
  | n + 1, .cons _ _ _ _ r, h => by
    obtain ⟨k, x, y, c, r', h1, h2⟩ := drop_cons (n := n) (f := r) (by simp only [len] at h; omega)
    exact ⟨k, x, y, c, r', h1, h2⟩
theorem len_zero {f : F} (h : f.len = 0) : f = .nil := by
  cases f with
  | nil => rfl
  | cons => simp [len] at h
theorem cons_of {f : F} {n : Nat} (h : f.len = n + 1) : ∃ k x y c r, f = .cons k x y c r ∧ r.len = n := by
  cases f with
  | nil => simp [len] at h
  | cons k x y c r => exact ⟨k, x, y, c, r, rfl, by simp only [len] at h; omega⟩
end F

/-- How strongly an operator binds. -/
def level (s : ByteArray) : Nat :=
  if s.toList == [124, 124] then 1
  else if s.toList == [38, 38] then 2
  else if s.toList == [61, 61] || s.toList == [33, 61] || s.toList == [60] || s.toList == [60, 61] || s.toList == [62] || s.toList == [62, 61] then 3
  else if s.toList == [43] || s.toList == [45] || s.toList == [124] || s.toList == [94] then 4
  else if s.toList == [42] || s.toList == [47] || s.toList == [37] || s.toList == [60, 60] || s.toList == [62, 62] || s.toList == [38] || s.toList == [38, 94] then 5
  else 0
theorem level_le (s : ByteArray) : level s ≤ 5 := by unfold level; repeat' split <;> try omega

/-- Does a Kid of kind kk and text kx stand in parentheses at place i of a parent of kind pk and text px? -/
def paren (pk : Int) (px : ByteArray) (i : Nat) (kk : Int) (kx : ByteArray) : Bool :=
  if pk = 29 then (if i = 0 then kk == 29 && decide (level kx < level px) else if i = 1 then kk == 29 && decide (level kx ≤ level px) else false)
  else if pk = 28 then kk == 29 || kk == 28
  else if pk = 30 ∨ pk = 31 ∨ pk = 32 then decide (i = 0) && (kk == 29 || kk == 28)
  else false

/-- How much deeper than its parent a Kid stands, but for parentheses. -/
def more (pk : Int) (i : Nat) (kk : Int) : Nat :=
  if pk = 28 ∨ pk = 10 ∨ pk = 11 ∨ pk = 12 ∨ pk = 13 ∨ pk = 15 ∨ pk = 17 then 1
  else if pk = 30 ∨ pk = 31 then (if 0 < i then 1 else 0)
  else if pk = 18 then (if i = 2 ∧ kk = 18 then 1 else 0)
  else 0
def down (pk : Int) (px : ByteArray) (i : Nat) (kk : Int) (kx : ByteArray) : Nat := (if paren pk px i kk kx then 1 else 0) + more pk i kk
theorem down_le (pk : Int) (px : ByteArray) (i : Nat) (kk : Int) (kx : ByteArray) : down pk px i kk kx ≤ 2 := by
  unfold down more
  repeat' split
  all_goals omega

def holds (k : Int) : Bool := k == 1 || k == 17 || k == 13

def isTyp (k : Int) (_ : ByteArray) : Bool := k == 9 || k == 10 || k == 11 || k == 12 || k == 13
def isVal (k : Int) (_ : ByteArray) : Bool := k == 9 || k == 26 || k == 27 || k == 28 || k == 29 || k == 30 || k == 31 || k == 32
def isPlc (k : Int) (x : ByteArray) : Bool := k == 9 || k == 31 || k == 32 || (k == 28 && x.toList == [42])
def isStm (k : Int) (_ : ByteArray) : Bool := k == 5 || k == 8 || k == 17 || k == 18 || k == 19 || k == 20 || k == 21 || k == 22 || k == 23 || k == 24 || k == 25
def isDecl (k : Int) (_ : ByteArray) : Bool := k == 4 || k == 5 || k == 6 || k == 7 || k == 8
/-- One of some kinds. -/
def isOf (l : List Int) (k : Int) (_ : ByteArray) : Bool := l.any fun j => k == j

/-- A part of a row of Kids: all up to the first that doesn't pass, or one that passes. -/
inductive Pt where
  | many (p : Int → ByteArray → Bool)
  | one (l : List (Int → ByteArray → Bool))

def dropM (p : Int → ByteArray → Bool) : F → F
  | .nil => .nil
  | .cons k x y c r => if p k x then dropM p r else .cons k x y c r
def Pt.take : Pt → F → Option F
  | .many p, f => some (dropM p f)
  | .one l, .nil => none
  | .one l, .cons k x _ _ r => if l.any (fun p => p k x) then some r else none
def rowOK : List Pt → F → Bool
  | [], .nil => true
  | [], .cons .. => false
  | p :: ps, f => match p.take f with
    | none => false
    | some g => rowOK ps g

/-- The Kids that a kind asks. -/
def kidsOK (k : Int) (x : ByteArray) (f : F) : Bool :=
  if k = 1 then rowOK [.many (isOf [8]), .one [isOf [2]], .many (isOf [3, 8]), .many isDecl] f
  else if k = 2 ∨ k = 3 ∨ k = 8 ∨ k = 9 ∨ k = 26 ∨ k = 27 ∨ k = 24 ∨ k = 25 ∨ k = 33 then decide (f.len = 0)
  else if k = 4 ∨ k = 28 ∨ k = 32 then rowOK [.one [isVal]] f
  else if k = 5 then rowOK [.one [isTyp, isOf [33]], .one [isVal, isOf [33]]] f && !rowOK [.one [isOf [33]], .one [isOf [33]]] f
  else if k = 6 ∨ k = 10 ∨ k = 11 ∨ k = 14 ∨ k = 16 then rowOK [.one [isTyp]] f
  else if k = 7 then rowOK [.one [isOf [16], isOf [33]], .one [isOf [15]], .one [isTyp, isOf [33]], .one [isOf [17]]] f
  else if k = 12 then rowOK [.one [isTyp], .one [isTyp]] f
  else if k = 13 then rowOK [.many (isOf [14, 8])] f
  else if k = 15 then rowOK [.many (isOf [16])] f
  else if k = 17 then rowOK [.many isStm] f
  else if k = 18 then rowOK [.one [isVal], .one [isOf [17]], .one [isOf [17, 18], isOf [33]]] f
  else if k = 19 then rowOK [.one [isVal, isOf [33]], .one [isOf [17]]] f
  else if k = 20 then rowOK [.many isVal] f
  else if k = 21 then (if x.toList == [58, 61] then rowOK [.one [isOf [9]], .one [isVal]] f else rowOK [.one [isPlc], .one [isVal]] f)
  else if k = 22 then rowOK [.one [isPlc]] f
  else if k = 23 then rowOK [.one [isOf [30]]] f
  else if k = 29 ∨ k = 31 then rowOK [.one [isVal], .one [isVal]] f
  else if k = 30 then rowOK [.one [isVal], .many isVal] f
  else false

/-- The text that a kind asks; nm: is it a name, tk: is it one token of a kind? -/
def textOK (nm : ByteArray → Bool) (tk : ByteArray → Int → Bool) (k : Int) (x : ByteArray) : Bool :=
  if k = 2 ∨ k = 4 ∨ k = 5 ∨ k = 6 ∨ k = 7 ∨ k = 14 ∨ k = 16 ∨ k = 9 ∨ k = 32 then nm x
  else if k = 3 ∨ k = 27 then tk x 3
  else if k = 26 then tk x 2
  else if k = 8 then tk x 5
  else if k = 21 then (x.toList == [61] || x.toList == [58, 61] || x.toList == [43, 61] || x.toList == [45, 61] || x.toList == [42, 61] || x.toList == [47, 61] || x.toList == [37, 61])
  else if k = 22 then (x.toList == [43, 43] || x.toList == [45, 45])
  else if k = 28 then (x.toList == [45] || x.toList == [33] || x.toList == [94] || x.toList == [42] || x.toList == [38] || x.toList == [43])
  else if k = 29 then decide (0 < level x)
  else x.toList == []
def trailOK (tk : ByteArray → Int → Bool) (k : Int) (y : ByteArray) (item : Bool) : Bool := y.toList == [] || (item && (k != 8 && tk y 5))
def fitsN (nm : ByteArray → Bool) (tk : ByteArray → Int → Bool) (k : Int) (x y : ByteArray) (c : F) (item : Bool) : Bool := textOK nm tk k x && (trailOK tk k y item && kidsOK k x c)

section
variable (nm : ByteArray → Bool) (tk : ByteArray → Int → Bool)
/-- Are a parent's Kids right, from place i on, which stands so deep? -/
def kidsR : (pk : Int) → (px : ByteArray) → (it : Bool) → (d : Nat) → (i : Nat) → F → Bool
  | _, _, _, _, _, .nil => true
  | pk, px, it, d, i, .cons k x y c r => (decide (d + down pk px i k x ≤ 256) && fitsN nm tk k x y c it && kidsR k x (holds k) (d + down pk px i k x) 0 c) && kidsR pk px it d (i + 1) r
/-- Is a node right, with all below it, that stands so deep? -/
def nodeR (k : Int) (x y : ByteArray) (c : F) (it : Bool) (d : Nat) : Bool := decide (d ≤ 256) && fitsN nm tk k x y c it && kidsR nm tk k x (holds k) d 0 c
def rightT (k : Int) (x y : ByteArray) (c : F) : Bool := k == 1 && nodeR nm tk k x y c false 0
theorem kidsR_cons (pk : Int) (px : ByteArray) (it : Bool) (d i : Nat) (k : Int) (x y : ByteArray) (c r : F) :
    kidsR nm tk pk px it d i (.cons k x y c r) = (nodeR nm tk k x y c it (d + down pk px i k x) && kidsR nm tk pk px it d (i + 1) r) := by
  simp only [kidsR, nodeR]
end

/-- Two rows that are the same. -/
def same : F → F → Bool
  | .nil, .nil => true
  | .cons k x y c r, .cons k' x' y' c' r' => (k == k' && x.toList == x'.toList && y.toList == y'.toList && same c c') && same r r'
  | _, _ => false
theorem ba_toList {a b : ByteArray} (h : a.toList = b.toList) : a = b := by
  rw [ByteArray.toList_eq, ByteArray.toList_eq] at h
  cases a; cases b; simp at h; rw [h]
theorem same_refl : ∀ f : F, same f f = true
  | .nil => rfl
  | .cons k x y c r => by simp [same, same_refl c, same_refl r]
theorem same_eq : ∀ {f g : F}, same f g = true → f = g
  | .nil, .nil, _ => rfl
  | .nil, .cons .., h => by simp [same] at h
  | .cons .., .nil, h => by simp [same] at h
  | .cons k x y c r, .cons k' x' y' c' r', h => by
    simp only [same, Bool.and_eq_true, beq_iff_eq] at h
    obtain ⟨⟨⟨⟨h1, h2⟩, h3⟩, h4⟩, h5⟩ := h
    rw [h1, ba_toList h2, ba_toList h3, same_eq h4, same_eq h5]

/-- A node. -/
structure Nd where
  k : Int
  x : ByteArray
  y : ByteArray
  c : F
def Nd.size (n : Nd) : Nat := n.c.size + 1
/-- A row's nodes, each ahead of its Kids. -/
def nodes : F → List Nd
  | .nil => []
  | .cons k x y c r => ⟨k, x, y, c⟩ :: (nodes c ++ nodes r)
theorem nodes_len : ∀ f : F, (nodes f).length = f.size
  | .nil => rfl
  | .cons k x y c r => by simp only [nodes, F.size, List.length_cons, List.length_append, nodes_len c, nodes_len r]
end Go.Proofs.YtmknghhgcecafaaDoor.Tree
