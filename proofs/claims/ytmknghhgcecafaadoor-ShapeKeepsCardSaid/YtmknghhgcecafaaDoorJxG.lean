import Derived.Test.YtmknghhgcecafaaDoorJxE
import Derived.Lib.ItoaMem
import Derived.Test.YtmknghhgcecafaaDoorShelf
import Derived.Test.YtmknghhgcecafaaDoorShapePart
import Derived.Lib.AppendStr
import Derived.Lib.OwnKind
import Derived.Lib.ItoaLen
import Derived.Test.YtmknghhgcecafaaDoorShapeSpec
import Derived.Maps.OwnSet
import Derived.Laws.IdiomStrings

/-
  Plain mathematics of layer 10 (shape): what is alike is told by words that hold a node's own and its Kids' numbers.
-/
namespace Go.Proofs.YtmknghhgcecafaaDoor.Shape
open Tree
set_option linter.unusedVariables false

/-! ### Numerals -/
theorem dig_in (u : Nat) : ∀ b ∈ Lib.decDigits u, 48 ≤ b.toNat ∧ b.toNat ≤ 57 := by
  induction u using Nat.strongRecOn with
  | _ u ih =>
    intro b hb
    by_cases h : u < 10
    · rw [Lib.decDigits, dif_pos h] at hb
      rw [List.mem_singleton.1 hb, UInt8.toNat_ofNat']
      omega
    · rw [Lib.decDigits, dif_neg h] at hb
      rcases List.mem_append.1 hb with hb | hb
      · exact ih (u / 10) (by omega) b hb
      · rw [List.mem_singleton.1 hb, UInt8.toNat_ofNat']
        omega
def valD (l : List UInt8) : Nat := l.foldl (fun a b => a * 10 + (b.toNat - 48)) 0
theorem val_dig (u : Nat) : valD (Lib.decDigits u) = u := by
  induction u using Nat.strongRecOn with
  | _ u ih =>
    by_cases h : u < 10
    · rw [Lib.decDigits, dif_pos h]
      show 0 * 10 + ((UInt8.ofNat (48 + u)).toNat - 48) = u
      rw [UInt8.toNat_ofNat']
      omega
    · rw [Lib.decDigits, dif_neg h]
      unfold valD
      rw [List.foldl_append]
      show valD (Lib.decDigits (u / 10)) * 10 + ((UInt8.ofNat (48 + u % 10)).toNat - 48) = u
      rw [ih (u / 10) (by omega), UInt8.toNat_ofNat']
      omega
theorem dig_inj {u v : Nat} (h : Lib.decDigits u = Lib.decDigits v) : u = v := by rw [← val_dig u, ← val_dig v, h]
theorem dig_ne (u : Nat) : Lib.decDigits u ≠ [] := by
  intro h
  have := Lib.decDigits_length u
  rw [h] at this
  have := Lib.nDigits_pos u
  simp at *
  omega
theorem itoa_in (z : Int) : ∀ b ∈ Lib.itoa z, b ≠ 32 := by
  intro b hb e
  subst e
  unfold Lib.itoa at hb
  split at hb
  · rcases List.mem_cons.1 hb with h | h
    · exact absurd h (by decide)
    · exact absurd (dig_in _ _ h).1 (by decide)
  · exact absurd (dig_in _ _ hb).1 (by decide)
theorem itoa_inj {a b : Int} (h : Lib.itoa a = Lib.itoa b) : a = b := by
  have key : ∀ u v : Nat, (45 : UInt8) :: Lib.decDigits u ≠ Lib.decDigits v := fun u v e => by
    have : (45 : UInt8) ∈ Lib.decDigits v := by rw [← e]; exact List.mem_cons_self
    exact absurd (dig_in _ _ this).1 (by decide)
  unfold Lib.itoa at h
  split at h <;> split at h
  · injection h with _ h
    have := dig_inj h
    omega
  · exact absurd h (key _ _)
  · exact absurd h.symm (key _ _)
  · have := dig_inj h
    omega
/-- A number with its end. -/
def numB (z : Int) : List UInt8 := Lib.itoa z ++ [32]
theorem cut32 : ∀ (l m s t : List UInt8), (∀ b ∈ l, b ≠ 32) → (∀ b ∈ m, b ≠ 32) → l ++ 32 :: s = m ++ 32 :: t → l = m ∧ s = t
  | [], [], s, t, _, _, h => by injection h with _ h; exact ⟨rfl, h⟩
  | [], b :: m, s, t, _, hm, h => by
    injection h with h _
    exact absurd h.symm (hm b List.mem_cons_self)
  | a :: l, [], s, t, hl, _, h => by
    injection h with h _
    exact absurd h (hl a List.mem_cons_self)
  | a :: l, b :: m, s, t, hl, hm, h => by
    injection h with h1 h2
    obtain ⟨h3, h4⟩ := cut32 l m s t (fun c hc => hl c (List.mem_cons_of_mem _ hc)) (fun c hc => hm c (List.mem_cons_of_mem _ hc)) h2
    exact ⟨by rw [h1, h3], h4⟩
theorem num_cut {a b : Int} {s t : List UInt8} (h : numB a ++ s = numB b ++ t) : a = b ∧ s = t := by
  unfold numB at h
  simp only [List.append_assoc, List.singleton_append] at h
  obtain ⟨h1, h2⟩ := cut32 _ _ s t (itoa_in a) (itoa_in b) h
  exact ⟨itoa_inj h1, h2⟩
/-- A text with its length ahead. -/
def txtB (x : ByteArray) : List UInt8 := numB (x.size : Int) ++ x.data.toList
theorem txt_cut {x y : ByteArray} {s t : List UInt8} (h : txtB x ++ s = txtB y ++ t) : x = y ∧ s = t := by
  unfold txtB at h
  simp only [List.append_assoc] at h
  obtain ⟨h1, h2⟩ := num_cut h
  have hl : x.data.toList.length = y.data.toList.length := by
    have h1 : ((x.size : Nat) : Int) = ((y.size : Nat) : Int) := h1
    have e : x.size = y.size := by omega
    rw [Array.length_toList, Array.length_toList]
    exact e
  obtain ⟨h3, h4⟩ := List.append_inj h2 hl
  refine ⟨?_, h4⟩
  apply ByteArray.ext
  exact Array.toList_inj.1 h3
/-- The own words of a node. -/
def ownB (k : Int) (x y : ByteArray) : List UInt8 := numB k ++ (txtB x ++ txtB y)
def kidB (ms : List Nat) : List UInt8 := ms.flatMap fun (m : Nat) => numB (m : Int)
theorem num_ne (z : Int) : numB z ≠ [] := by unfold numB; simp
theorem kid_inj : ∀ {l m : List Nat}, kidB l = kidB m → l = m
  | [], [], _ => rfl
  | [], b :: m, h => by
    exfalso
    have h : [] = numB (b : Int) ++ kidB m := h
    have := congrArg List.length h
    have h2 := num_ne (b : Int)
    cases hn : numB (b : Int) with
    | nil => exact h2 hn
    | cons c r => rw [hn] at this; simp at this
  | a :: l, [], h => by
    exfalso
    have h : numB (a : Int) ++ kidB l = [] := h
    have := congrArg List.length h
    have h2 := num_ne (a : Int)
    cases hn : numB (a : Int) with
    | nil => exact h2 hn
    | cons c r => rw [hn] at this; simp at this
  | a :: l, b :: m, h => by
    have h : numB (a : Int) ++ kidB l = numB (b : Int) ++ kidB m := h
    obtain ⟨h1, h2⟩ := num_cut h
    rw [kid_inj h2, show a = b by omega]
def wordB (k : Int) (x y : ByteArray) (ms : List Nat) : List UInt8 := ownB k x y ++ kidB ms
theorem word_inj {k k' : Int} {x y x' y' : ByteArray} {ms ms' : List Nat} (h : wordB k x y ms = wordB k' x' y' ms') : k = k' ∧ x = x' ∧ y = y' ∧ ms = ms' := by
  unfold wordB ownB at h
  simp only [List.append_assoc] at h
  obtain ⟨h1, h⟩ := num_cut h
  obtain ⟨h2, h⟩ := txt_cut h
  obtain ⟨h3, h⟩ := txt_cut h
  exact ⟨h1, h2, h3, kid_inj h⟩

/-! ### The numbers that are given on the way -/
/-- A row's trees. -/
def tops : F → List Nd
  | .nil => []
  | .cons k x y c r => ⟨k, x, y, c⟩ :: tops r
theorem tops_len : ∀ f : F, (tops f).length = f.len
  | .nil => rfl
  | .cons k x y c r => by simp only [tops, List.length_cons, F.len, tops_len r]
theorem tops_inj : ∀ {f g : F}, tops f = tops g → f = g
  | .nil, .nil, _ => rfl
  | .nil, .cons .., h => by simp [tops] at h
  | .cons .., .nil, h => by simp [tops] at h
  | .cons k x y c r, .cons k' x' y' c' r', h => by
    simp only [tops, List.cons.injEq, Nd.mk.injEq] at h
    obtain ⟨⟨h1, h2, h3, h4⟩, h5⟩ := h
    rw [h1, h2, h3, h4, tops_inj h5]
theorem first_same {dict : List Nd} (hn : dict.Nodup) {i : Nat} {n : Nd} (h : dict[i]? = some n) : firstAt dict n = i := by
  obtain ⟨hi, e⟩ := List.getElem?_eq_some_iff.1 h
  refine firstAt_is (Nat.le_of_lt hi) (fun b hb s hs => ?_) (.inr ⟨n, h, sameN_iff.2 rfl⟩)
  cases hs' : sameN s n with
  | false => rfl
  | true =>
    exfalso
    rw [sameN_iff.1 hs'] at hs
    obtain ⟨hb', e'⟩ := List.getElem?_eq_some_iff.1 hs
    exact List.pairwise_iff_getElem.1 hn b i hb' hi hb (e'.trans e.symm)
theorem first_mem {dict : List Nd} {n : Nd} (h : n ∈ dict) : dict[firstAt dict n]? = some n := by
  have hlt : firstAt dict n < dict.length := List.findIdx_lt_length_of_exists ⟨n, h, sameN_iff.2 rfl⟩
  have ht : sameN (dict[firstAt dict n]'hlt) n = true := List.findIdx_getElem (w := hlt)
  rw [List.getElem?_eq_getElem hlt, sameN_iff.1 ht]
theorem first_snoc {dict : List Nd} {n t : Nd} (h : t ∈ dict) : firstAt (dict ++ [n]) t = firstAt dict t := by
  unfold firstAt
  rw [List.findIdx_append, if_pos]
  exact List.findIdx_lt_length_of_exists ⟨t, h, sameN_iff.2 rfl⟩
/-- A node's words, when its Kids are known. -/
def keyN (dict : List Nd) (n : Nd) : List UInt8 := wordB n.k n.x n.y ((tops n.c).map (firstAt dict))
structure Dict (KS : List (List UInt8)) (dict : List Nd) : Prop where
  len : dict.length = KS.length
  nodup : dict.Nodup
  key : ∀ (i : Nat) (n : Nd), dict[i]? = some n → KS[i]? = some (keyN dict n)
  kids : ∀ n ∈ dict, ∀ t ∈ tops n.c, t ∈ dict
theorem Dict.nil : Dict [] [] := ⟨rfl, List.nodup_nil, fun i n h => (by simp at h), fun n h => (by cases h)⟩
theorem Dict.find {KS : List (List UInt8)} {dict : List Nd} (h : Dict KS dict) {n : Nd} (hn : ∀ t ∈ tops n.c, t ∈ dict) {i : Nat} (hk : KS[i]? = some (keyN dict n)) : dict[i]? = some n := by
  have hi : i < dict.length := by rw [h.len]; exact (List.getElem?_eq_some_iff.1 hk).1
  obtain ⟨m, hm⟩ : ∃ m, dict[i]? = some m := ⟨_, List.getElem?_eq_getElem hi⟩
  have h1 := h.key i m hm
  rw [hk] at h1
  injection h1 with h1
  obtain ⟨e1, e2, e3, e4⟩ := word_inj h1
  have hmm := h.kids m (List.mem_of_getElem? hm)
  have e5 : tops n.c = tops m.c := by
    have hb : ∀ (l l' : List Nd), (∀ t ∈ l, t ∈ dict) → (∀ t ∈ l', t ∈ dict) → l.map (firstAt dict) = l'.map (firstAt dict) → l = l' := by
      intro l
      induction l with
      | nil => intro l' _ _ e; cases l' with | nil => rfl | cons => simp at e
      | cons a l ih =>
        intro l' h1 h2 e
        cases l' with
        | nil => simp at e
        | cons b l' =>
          simp only [List.map_cons, List.cons.injEq] at e
          have ha := first_mem (h1 a List.mem_cons_self)
          have hb := first_mem (h2 b List.mem_cons_self)
          rw [e.1] at ha
          rw [Option.some.inj (ha.symm.trans hb), ih l' (fun t ht => h1 t (List.mem_cons_of_mem _ ht)) (fun t ht => h2 t (List.mem_cons_of_mem _ ht)) e.2]
    exact hb _ _ hn hmm e4
  rw [hm]
  obtain ⟨mk, mx, my, mc⟩ := m
  obtain ⟨nk, nx, ny, nc⟩ := n
  simp only at e1 e2 e3 e5
  rw [e1, e2, e3, tops_inj e5]
theorem Dict.push {KS : List (List UInt8)} {dict : List Nd} (h : Dict KS dict) {n : Nd} (hn : ∀ t ∈ tops n.c, t ∈ dict) (hk : keyN dict n ∉ KS) : Dict (KS ++ [keyN dict n]) (dict ++ [n]) := by
  have hnd : n ∉ dict := fun hm => by
    obtain ⟨i, hi⟩ := List.getElem?_of_mem hm
    exact hk (List.mem_of_getElem? (h.key i n hi))
  have hkey : ∀ m, (∀ t ∈ tops m.c, t ∈ dict) → keyN (dict ++ [n]) m = keyN dict m := fun m hm => by
    unfold keyN
    congr 1
    exact List.map_congr_left fun t ht => first_snoc (hm t ht)
  refine ⟨by simp [h.len], ?_, fun i m hm => ?_, fun m hm t ht => ?_⟩
  · rw [List.nodup_append]
    exact ⟨h.nodup, by simp, fun a ha b hb e => hnd (by rw [← List.mem_singleton.1 hb, ← e]; exact ha)⟩
  · by_cases hi : i < dict.length
    · rw [List.getElem?_append_left hi] at hm
      rw [List.getElem?_append_left (by rw [← h.len]; exact hi), hkey m (h.kids m (List.mem_of_getElem? hm))]
      exact h.key i m hm
    · rw [List.getElem?_append_right (by omega)] at hm
      have h0 : i - dict.length = 0 := by
        have := (List.getElem?_eq_some_iff.1 hm).1
        simp at this
        omega
      rw [h0] at hm
      injection hm with hm
      subst hm
      rw [List.getElem?_append_right (by rw [← h.len]; omega), ← h.len, h0, hkey n hn]
      rfl
  · rcases List.mem_append.1 hm with hm | hm
    · exact List.mem_append_left _ (h.kids m hm t ht)
    · rw [List.mem_singleton.1 hm] at ht
      exact List.mem_append_left _ (hn t ht)
theorem Dict.at_ {KS : List (List UInt8)} {dict : List Nd} (h : Dict KS dict) {n : Nd} (hn : ∀ t ∈ tops n.c, t ∈ dict) (hk : keyN dict n ∈ KS) : ∃ i : Nat, KS[i]? = some (keyN dict n) ∧ dict[i]? = some n := by
  obtain ⟨i, hi⟩ := List.getElem?_of_mem hk
  exact ⟨i, hi, h.find hn hi⟩
theorem Dict.inj {KS : List (List UInt8)} {dict : List Nd} (h : Dict KS dict) {i j : Nat} {a : List UInt8} (hi : KS[i]? = some a) (hj : KS[j]? = some a) : i = j := by
  have hi' : i < dict.length := by rw [h.len]; exact (List.getElem?_eq_some_iff.1 hi).1
  obtain ⟨m, hm⟩ : ∃ m, dict[i]? = some m := ⟨_, List.getElem?_eq_getElem hi'⟩
  have h1 := h.key i m hm
  rw [hi] at h1
  injection h1 with h1
  rw [h1] at hj
  have h2 := h.find (h.kids m (List.mem_of_getElem? hm)) hj
  rw [← first_same h.nodup hm, first_same h.nodup h2]

/-! ### Numbers given anew, in the order in which they are first needed -/
theorem first_le (seen : List Nd) (n : Nd) : firstAt seen n ≤ seen.length := List.findIdx_le_length
theorem first_lt_mem {seen : List Nd} {n : Nd} (h : firstAt seen n < seen.length) : n ∈ seen := by
  have ht : sameN (seen[firstAt seen n]'h) n = true := List.findIdx_getElem (w := h)
  rw [← sameN_iff.1 ht]
  exact List.getElem_mem h
theorem first_of_mem {seen : List Nd} {n : Nd} (h : n ∈ seen) : firstAt seen n < seen.length := List.findIdx_lt_length_of_exists ⟨n, h, sameN_iff.2 rfl⟩
theorem first_new {seen : List Nd} {n : Nd} (h : firstAt seen n = seen.length) : firstAt (seen ++ [n]) n = seen.length := by
  unfold firstAt at h ⊢
  rw [List.findIdx_append, if_neg (by omega)]
  have : [n].findIdx (fun s => sameN s n) = 0 := by simp [List.findIdx_cons, sameN_iff.2 rfl]
  rw [this]
  omega
theorem first_other {seen : List Nd} {n t : Nd} (hn : firstAt seen n = seen.length) (ht : t ≠ n) : firstAt (seen ++ [n]) t = if firstAt seen t < seen.length then firstAt seen t else seen.length + 1 := by
  unfold firstAt
  rw [List.findIdx_append]
  by_cases h : seen.findIdx (fun s => sameN s t) < seen.length
  · rw [if_pos h, if_pos h]
  · rw [if_neg h, if_neg h]
    have : [n].findIdx (fun s => sameN s t) = 1 := by
      have : sameN n t = false := by
        cases hs : sameN n t with
        | false => rfl
        | true => exact absurd (sameN_iff.1 hs).symm ht
      simp [List.findIdx_cons, this]
    rw [this]
    omega
/-- What the table of turns holds: 0, or one more than where the node stands among those seen. -/
structure Turns (dict seen : List Nd) (turn : List Int) : Prop where
  len : turn.length = dict.length
  val : ∀ (m : Nat) (n : Nd), dict[m]? = some n → turn[m]? = some (if firstAt seen n < seen.length then ((firstAt seen n + 1 : Nat) : Int) else 0)
theorem Turns.start (dict : List Nd) : Turns dict [] (List.replicate dict.length 0) := ⟨List.length_replicate .., fun m n h => by
  rw [List.getElem?_replicate, if_pos (List.getElem?_eq_some_iff.1 h).1, if_neg (by simp)]⟩
theorem Turns.old {dict seen : List Nd} {turn : List Int} (h : Turns dict seen turn) {m : Nat} {n : Nd} (hm : dict[m]? = some n) {z : Int} (hz : turn[m]? = some z) (h0 : z ≠ 0) : z - 1 = ((firstAt seen n : Nat) : Int) ∧ seeN seen n = seen := by
  have hv := h.val m n hm
  rw [hz] at hv
  injection hv with hv
  split at hv
  · rename_i hlt
    refine ⟨by omega, ?_⟩
    unfold seeN
    rw [if_neg (by omega)]
  · exact absurd hv h0
theorem Turns.new {dict seen : List Nd} {turn : List Int} (hd : dict.Nodup) (h : Turns dict seen turn) {m : Nat} {n : Nd} (hm : dict[m]? = some n) (hz : turn[m]? = some 0) : firstAt seen n = seen.length ∧ seeN seen n = seen ++ [n] ∧ Turns dict (seeN seen n) (turn.set m ((seen.length + 1 : Nat) : Int)) := by
  have hv := h.val m n hm
  rw [hz] at hv
  injection hv with hv
  have hf : firstAt seen n = seen.length := by
    split at hv
    · rename_i hlt; omega
    · have := first_le seen n; omega
  have hs : seeN seen n = seen ++ [n] := by unfold seeN; rw [if_pos hf]
  refine ⟨hf, hs, by rw [List.length_set, h.len], fun m' n' hm' => ?_⟩
  rw [hs]
  by_cases e : m = m'
  · subst e
    rw [hm] at hm'
    injection hm' with hm'
    subst hm'
    have hml : m < turn.length := (List.getElem?_eq_some_iff.1 hz).1
    rw [List.getElem?_set_self hml, first_new hf, if_pos (by simp)]
  · have hne : n' ≠ n := fun e' => by
      subst e'
      have h1 := first_same hd hm
      have h2 := first_same hd hm'
      exact e (h1.symm.trans h2)
    rw [List.getElem?_set_ne e, h.val m' n' hm', first_other hf hne]
    by_cases hlt : firstAt seen n' < seen.length
    · rw [if_pos hlt, if_pos hlt, if_pos (by simp; omega)]
    · rw [if_neg hlt, if_neg hlt, if_neg (by simp)]
theorem markL_snoc : ∀ (L seen : List Nd) (n : Nd), markL seen (L ++ [n]) = ((markL seen L).1 ++ [firstAt (markL seen L).2 n], seeN (markL seen L).2 n)
  | [], seen, n => rfl
  | a :: L, seen, n => by
    simp only [List.cons_append, markL, markL_snoc L]
/-- The nodes seen when i trees have been gone through. -/
def seenF : Nat → List Nd → F → List Nd
  | 0, s, _ => s
  | _ + 1, s, .nil => s
  | i + 1, s, .cons k x y c r => seenF i (markL s (nodes (one k x y c))).2 r
theorem marksF_at : ∀ (i : Nat) (s : List Nd) (l : F) (k : Int) (x y : ByteArray) (c r : F), l.drop i = .cons k x y c r →
    (marksF s l)[i]? = some (markL (seenF i s l) (nodes (one k x y c))).1 ∧ seenF (i + 1) s l = (markL (seenF i s l) (nodes (one k x y c))).2
  | i, s, .nil, k, x, y, c, r, h => by rw [F.drop_nil] at h; cases h
  | 0, s, .cons k' x' y' c' r', k, x, y, c, r, h => by
    simp only [F.drop, F.cons.injEq] at h
    obtain ⟨rfl, rfl, rfl, rfl, rfl⟩ := h
    exact ⟨rfl, rfl⟩
  | i + 1, s, .cons k' x' y' c' r', k, x, y, c, r, h => by
    obtain ⟨h1, h2⟩ := marksF_at i (markL s (nodes (one k' x' y' c'))).2 r' k x y c r h
    exact ⟨by simpa [marksF, seenF] using h1, by simpa [seenF] using h2⟩
theorem marksF_len : ∀ (s : List Nd) (l : F), (marksF s l).length = l.len
  | s, .nil => rfl
  | s, .cons k x y c r => by simp only [marksF, List.length_cons, F.len, marksF_len _ r]
end Go.Proofs.YtmknghhgcecafaaDoor.Shape

/-
  Layer 10 (shape): words that are written behind a buffer of the call's own: appendNumber, ownWords.
-/
namespace Go.Proofs.YtmknghhgcecafaaDoor.Shape
open Go.ChangeShapes Go.WideShapes Go.ChangeAt Go.RowKit Mem Tree
set_option linter.unusedVariables false

theorem byte_info : (Tryd.prog.info? 5).map (fun i => (i.zero, i.size, i.bytes)) = some (some (.int .u8 0), 1, 1) := by kernel_rfl
def PowB (B : Nat) (w : World) : Prop := Lib.TabBelow Tryd.prog B w "internal/strconv.uint64pow10" .u64 Lib.pow10Tab
theorem PowB.on {B : Nat} {w w' : World} (h : PowB B w) (hb : Below B w w') : PowB B w' := Lib.TabBelow.on h hb
/-- The slice v is the call's own, from block B on, and holds the bytes l. -/
def Wd (w : World) (B : Nat) (v : Value) (l : List UInt8) : Prop := w.ownsRow B 5 1 v l.length (Lib.byteCells l)
/-- All but rows of bytes from B on are as they were. -/
structure Kp (B : Nat) (w w' : World) : Prop where
  bel : Below B w w'
  oth : Lib.OthersKept 5 none w w'
theorem Kp.refl (B : Nat) (w : World) : Kp B w w := ⟨Below.refl _ _, Lib.OthersKept.refl _ _ _⟩
theorem Kp.trans {B : Nat} {w w' w'' : World} (h : Kp B w w') (h' : Kp B w' w'') : Kp B w w'' := ⟨h.bel.trans h'.bel, h.oth.trans h'.oth⟩
theorem Kp.alloc {B : Nat} {w w' : World} (h : Kp B w w') (hB : B ≤ w.heap.size) (o : Obj) : Kp B w (w'.alloc o) := ⟨h.bel.trans ((bel1 w' o).mono (Nat.le_trans hB h.bel.size)), h.oth.alloc o⟩
theorem Kp.grown {B : Nat} {w w' : World} {e : TypeId} {n : Nat} {v : Value} {xs : List Value} (hB : B ≤ w.heap.size) (ho : w.ownsRow B 5 1 v n xs) (hg : w.grownBy w' v.ownBlock) : Kp B w w' :=
  ⟨⟨hg.os, hg.tape, hg.output, hg.size, fun k hk => hg.block k (Nat.lt_of_lt_of_le hk hB) fun e => by have := (ho.lt k e.symm).1; omega⟩, (Lib.OthersKept.refl _ _ w).grown hg (Lib.ownsRow_kind ho)⟩
/-- A block that holds no row of bytes. -/
theorem Kp.block {B k : Nat} {w w' : World} {o : Obj} (h : Kp B w w') (hk : w.heap[k]? = some o) (ho : ∀ c fz, o ≠ .cells c 5 fz) : w'.heap[k]? = some o := h.oth k o hk (by simp) ho
theorem byteC_append (l m : List UInt8) : Lib.byteCells (l ++ m) = Lib.byteCells l ++ Lib.byteCells m := by simp [Lib.byteCells]
set_option maxRecDepth 100000 in
set_option maxHeartbeats 4000000 in
theorem appNum_any (z : Int) (hz0 : -9223372036854775808 ≤ z) (hz1 : z ≤ 9223372036854775807) (v : Value) (l : List UInt8) (w : World) (B : Nat) (h : Wd w B v l) (hB : B ≤ w.heap.size) (hl : l.length ≤ 1000000000) (hp : PowB B w) :
    Calls Tryd.prog 31 #[v, .int .i64 z] w fun e w' => ∃ v', e = .returned v' ∧ Wd w' B v' (l ++ numB z) ∧ Kp B w w' := by
  obtain ⟨i0, hi0, hw0, hw1, hw2⟩ := info_parts byte_info
  have HA := Lib.hid (Tryd.strconv_AppendInt_10_laid B l.length z hz0 hz1 v (Lib.byteCells l) w h hB (by omega) hp)
  have hle := Lib.itoa_length_le z hz0 hz1
  have HLE := Lib.hid hle
  have HL := Lib.hid hl
  have HBB := Lib.hid hB
  obtain ⟨a, c, rfl, _, _⟩ := own_slice' h
  clear hz0 hz1 h hp hle hl hB
  go_enter Tryd.func31, Tryd.ntmps31
  go_wp2_with fail
  refine HA.out.mono ?_
  rintro e w1 ⟨v1, rfl, ho1, hb1, hk1⟩
  obtain ⟨a1, c1, rfl, _, _⟩ := own_slice' ho1
  have HO1 := Lib.hid ho1
  have HK1 : Hid (Kp B w w1) := ⟨hb1, hk1⟩
  clear ho1 hb1 hk1 HA
  go_wp2_with (at_builtin; refine wpList_append_own _ rfl _ _ 52 rfl B 5 i0 (.int .u8 0) 1 1 Tryd.underlying52 hi0 hw0 hw1 hw2 rfl (by decide) _ _ _ rfl (HO1.out.alloc _) ⟨w1.heap.size, 0, none⟩ 1 1 [Value.int .u8 32] rfl rfl (by intro j u' hj; match j, hj with | 0, hj => simp at hj; subst hj; simp [Addr.add]) (by intro u' hu'; simp at hu'; subst hu'; rfl) (by have := HL.out; have := HLE.out; unfold maxLen; omega) (by have := HL.out; have := HLE.out; omega) (by have := HBB.out; have := HK1.out.bel.size; simp; omega) ?_)
  intro v2 w2 ho2 hg2 _
  have hB1 : B ≤ w1.heap.size := Nat.le_trans HBB.out HK1.out.bel.size
  have HEND : Hid (Wd w2 B v2 (l ++ numB z) ∧ Kp B w w2) := by
    refine ⟨?_, (HK1.out.alloc HBB.out _).trans (Kp.grown (e := 5) (by simp; omega) (HO1.out.alloc _) hg2)⟩
    unfold Wd numB
    rw [byteC_append l, byteC_append, List.length_append, List.length_append, ← Nat.add_assoc]
    exact ho2
  clear ho2 hg2
  go_wp2
  go_ret
  exact ⟨v2, rfl, HEND.out⟩
/-- The two texts so far. -/
def txU (x y : ByteArray) (i : Nat) : List UInt8 := if i = 0 then [] else if i = 1 then txtB x else txtB x ++ txtB y
theorem blk_cells {w : World} {k : Nat} {cs : Array Value} {T : TypeId} (h : w.heap[k]? = some (.cells cs T (0, 0))) {j : Nat} {u : Value} (hj : cs[j]? = some u) : w.cell? ⟨k, j, none⟩ = some u := by
  simp [World.cell?, h, hj]
set_option maxRecDepth 100000 in
set_option maxHeartbeats 16000000 in
theorem ownWords_any (k : Int) (x y : ByteArray) (s : Value) (hk0 : -9223372036854775808 ≤ k) (hk1 : k ≤ 9223372036854775807) (hx : x.size ≤ 1000000) (hy : y.size ≤ 1000000) (v : Value) (l : List UInt8) (w : World) (B : Nat) (h : Wd w B v l) (hB : B ≤ w.heap.size) (hl : l.length ≤ 100000000) (hp : PowB B w) (hs : ∃ A n C, s = .slice A n C) :
    Calls Tryd.prog 30 #[v, .agg #[.int .i64 k, .string x, .string y, s]] w fun e w' => ∃ v', e = .returned v' ∧ Wd w' B v' (l ++ ownB k x y) ∧ Kp B w w' := by
  obtain ⟨As, ns, Cs, rfl⟩ := hs
  obtain ⟨i0, hi0, hw0, hw1, hw2⟩ := info_parts byte_info
  have hb0 := (Kp.refl B w).alloc hB (.cells #[.int .i64 k, .string x, .string y, .slice As ns Cs] 24)
  have h0 : (w.alloc (.cells #[.int .i64 k, .string x, .string y, .slice As ns Cs] 24)).heap[w.heap.size]? = some (.cells #[.int .i64 k, .string x, .string y, .slice As ns Cs] 24 (0, 0)) := heap_alloc_new w _
  obtain ⟨a, c, rfl, _, _⟩ := own_slice' h
  have HN := Lib.hid (appNum_any k hk0 hk1 _ l _ B (World.ownsRow.alloc h _) (Nat.le_trans hB hb0.bel.size) (by omega) (hp.on hb0.bel))
  have hq0 := blk_cells h0 (j := 0) rfl
  have HBB := Lib.hid hB
  have HL := Lib.hid hl
  have HP := Lib.hid hp
  have HK0 := Lib.hid hb0
  have HH0 := Lib.hid h0
  have HX := Lib.hid hx
  have HY := Lib.hid hy
  have HNL : Hid ((numB k).length ≤ 22) := by show _ ≤ _; unfold numB; rw [List.length_append]; have := Lib.itoa_length_le k hk0 hk1; simp; omega
  clear hk0 hk1 hx hy h hB hl hp hb0 h0
  go_enter Tryd.func30, Tryd.ntmps30
  go_wp2_with fail
  refine HN.out.mono ?_
  rintro e w1 ⟨v1, rfl, ho1, hk1⟩
  obtain ⟨l1, hl1⟩ : ∃ l1, l ++ numB k = l1 := ⟨_, rfl⟩
  rw [hl1] at ho1
  have HL1 := Lib.hid hl1
  obtain ⟨a1, c1, rfl, _, _⟩ := own_slice' ho1
  have HK1 := Lib.hid (HK0.out.trans hk1)
  have h1 := hk1.block HH0.out (by intro c fz e; injection e with _ e _; exact absurd e (by decide))
  obtain ⟨q1, q2⟩ := (⟨blk_cells h1 (j := 1) rfl, blk_cells h1 (j := 2) rfl⟩ : _ ∧ _)
  have HB1 : Hid (B ≤ w1.heap.size) := Nat.le_trans HBB.out HK1.out.bel.size
  have HW2 : Hid (Wd (w1.alloc (.cells #[.string x, .string y] 9)) B (.slice a1 l1.length c1) l1) := World.ownsRow.alloc ho1 _
  have HE0 : Hid (l1 = l ++ numB k ++ txU x y 0) := by show _ = l ++ numB k ++ []; rw [List.append_nil, HL1.out]
  have HK2 := Lib.hid (HK1.out.alloc HBB.out (.cells #[.string x, .string y] 9))
  have HLT : Hid ((w1.alloc (.cells #[.string x, .string y] 9)).heap[w1.heap.size]? = some (.cells #[.string x, .string y] 9 (0, 0))) := heap_alloc_new w1 _
  clear ho1 hk1 h1 hl1 HN HK0 HH0 HK1
  go_wp2
  clear q1 q2
  obtain ⟨gl, hgl⟩ : ∃ gl, w1.heap.size = gl := ⟨_, rfl⟩
  have HGL := Lib.hid hgl
  rw [hgl] at HLT
  try rw [hgl]
  obtain ⟨w2, hw2⟩ : ∃ w2, w1.alloc (.cells #[.string x, .string y] 9) = w2 := ⟨_, rfl⟩
  rw [hw2] at HW2 HK2 HLT
  try rw [hw2]
  clear hw2 hgl
  go_loopw [0, 17] (fun s0 s17 wr => ∃ (i : Nat) (v : Value) (lw : List UInt8), i ≤ 2 ∧ s0 = v ∧ s17 = .int .i64 (i : Int) ∧ Hid (lw = l ++ numB k ++ txU x y i) ∧ Hid (Wd wr B v lw) ∧ Hid (Kp B w2 wr)) (fun _ s _ => 2 - (intOf s).toNat)
  case atStart => exact ⟨0, _, l1, by decide, rfl, rfl, HE0.out, HW2.out, Kp.refl _ _⟩
  case round =>
    clear HW2
    obtain ⟨i, v, lw, hi, rfl, rfl, HLW, HW, HK⟩ := hrel
    obtain ⟨a3, c3, rfl, _, _⟩ := own_slice' HW.out
    by_cases hlt : i < 2
    · have hlt' : (i : Int) < 2 := by omega
      have hi00 : (0 : Int) ≤ (i : Int) := by omega
      obtain ⟨tt, ht1, ht2, ht3⟩ : ∃ tt : ByteArray, (#[.string x, .string y] : Array Value)[i]? = some (.string tt) ∧ tt.size ≤ 1000000 ∧ txU x y (i + 1) = txU x y i ++ txtB tt := by
        have h01 : i = 0 ∨ i = 1 := by omega
        rcases h01 with rfl | rfl
        · exact ⟨x, rfl, HX.out, by simp [txU]⟩
        · exact ⟨y, rfl, HY.out, by simp [txU]⟩
      have hlb := HK.out.block HLT.out (by intro c fz e; injection e with _ e _; exact absurd e (by decide))
      have hc := blk_cells hlb ht1
      have hsz : ((tt.size : Nat) : Int) ≤ 9223372036854775807 := by omega
      have hlen : lw.length ≤ 200000000 := by
        rw [HLW.out]
        have hnn : ∀ z : ByteArray, z.size ≤ 1000000 → (txtB z).length ≤ 1000022 := fun z hz => by
          unfold txtB numB
          have e : z.data.toList.length = z.size := Array.length_toList
          have := Lib.itoa_length_le (z.size : Int) (by omega) (by omega)
          rw [List.length_append, List.length_append, e]
          simp only [List.length_cons, List.length_nil]
          omega
        rw [List.length_append, List.length_append]
        have h1 := HNL.out
        have h2 := HL.out
        have h3 := hnn x HX.out
        have h4 := hnn y HY.out
        unfold txU
        split
        · simp; omega
        · split
          · omega
          · rw [List.length_append]; omega
      have HPR : Hid (PowB B wr) := (HP.out.on HK2.out.bel).on HK.out.bel
      have hBr : B ≤ wr.heap.size := Nat.le_trans (Nat.le_trans HBB.out HK2.out.bel.size) HK.out.bel.size
      have HN := Lib.hid (appNum_any (tt.size : Int) (by omega) hsz _ _ wr B HW.out hBr (by omega) HPR.out)
      have HLN := Lib.hid hlen
      have HTT := Lib.hid ht3
      have HTS := Lib.hid ht2
      have HI := Lib.hid hlt
      have HNT : Hid ((numB (tt.size : Int)).length ≤ 22) := by show _ ≤ _; unfold numB; rw [List.length_append]; have := Lib.itoa_length_le (tt.size : Int) (by omega) hsz; simp; omega
      clear ht1 ht2 ht3 hlb hlen hlt
      go_wp2_with fail
      refine HN.out.mono ?_
      rintro e w3 ⟨v3, rfl, ho3, hk3⟩
      obtain ⟨l4, hl4⟩ : ∃ l4, lw ++ numB (tt.size : Int) = l4 := ⟨_, rfl⟩
      rw [hl4] at ho3
      have HL4 := Lib.hid hl4
      have hln4 : l4.length ≤ 200000022 := by rw [← hl4, List.length_append]; have := HLN.out; have := HNT.out; omega
      have HLN4 := Lib.hid hln4
      obtain ⟨a4, c4, rfl, _, _⟩ := own_slice' ho3
      have HO3 := Lib.hid ho3
      have HK3 := Lib.hid hk3
      clear ho3 hk3 HN hc hl4 hln4
      go_wp2_with (at_builtin; refine Lib.wpList_append_own_string _ rfl _ _ 52 9 rfl B 5 i0 Tryd.underlying52 Tryd.underlying9 hi0 hw0 hw1 hw2 _ _ _ rfl HO3.out tt rfl (by have := HLN4.out; have := HTS.out; unfold maxLen; omega) (by have := HLN4.out; have := HTS.out; omega) (Nat.le_trans hBr HK3.out.bel.size) ?_)
      intro v5 w5 ho5 hg5 _
      have hk5 := Kp.grown (e := 5) (Nat.le_trans hBr HK3.out.bel.size) HO3.out hg5
      have HK5 := Lib.hid ((HK.out.trans HK3.out).trans hk5)
      have HW5 : Hid (Wd w5 B v5 (l4 ++ tt.data.toList)) := by
        show w5.ownsRow _ _ _ _ _ _
        rw [byteC_append, List.length_append, Array.length_toList]
        exact ho5
      have HE5 : Hid (l4 ++ tt.data.toList = l ++ numB k ++ txU x y (i + 1)) := by
        show _ = _
        rw [HTT.out, ← HL4.out, HLW.out]
        simp [txtB]
      clear ho5 hg5 hk5
      go_wp2
      go_roundw
      case rel => exact ⟨i + 1, v5, _, by have := HI.out; omega, rfl, by go_num, HE5.out, HW5.out, HK5.out⟩
      case measure => have := HI.out; simp [intOf]; omega
    · obtain rfl : i = 2 := by omega
      have HEND : Hid (Wd wr B (.slice a3 lw.length c3) (l ++ ownB k x y) ∧ Kp B w wr) := by
        refine ⟨?_, HK2.out.trans HK.out⟩
        have h := HW.out
        have e : lw = l ++ ownB k x y := by rw [HLW.out]; simp [txU, ownB]
        rw [← e]
        exact h
      clear HW HK hlt
      go_wp2
      go_ret
      exact ⟨_, rfl, HEND.out⟩
end Go.Proofs.YtmknghhgcecafaaDoor.Shape

/-
  Layer 10 (shape): what marksOf owns beside the words: the map of words, rows that are left alone while words are written.
-/
namespace Go.Proofs.YtmknghhgcecafaaDoor.Shape
open Go.ChangeShapes Go.WideShapes Go.ChangeAt Go.RowKit Mem Tree
set_option linter.unusedVariables false

/-! ### The map -/
abbrev Dm := DataW Unit
structure KM (D : Dm) (KS : List (List UInt8)) : Prop where
  tidy : Maps.Tidy D
  has : ∀ key, key ∈ KS → Maps.has D (.string key) = true
  hasN : ∀ key, key ∉ KS → Maps.has D (.string key) = false
  at_ : ∀ (i : Nat) key, KS[i]? = some key → ∀ z, D.atKey (.string key) z = .lit (.int .i64 (i : Int))
  size : Maps.size D = KS.length
theorem isKey (key : List UInt8) : WideAt.IsKeyLit (.string key) := by trivial
theorem KM.nil : KM (.map []) [] := ⟨Maps.tidy_empty, fun key h => (by cases h), fun key h => rfl, fun i key h => (by simp at h), rfl⟩
theorem KM.put {D : Dm} {KS : List (List UInt8)} (h : KM D KS) {key : List UInt8} (hk : key ∉ KS) (hn : KS.Nodup) : KM (D.put (.string key) (.lit (.int .i64 (KS.length : Int)))) (KS ++ [key]) := by
  have hne : ∀ k', k' ∈ KS → (Lit.string k') ≠ .string key := fun k' h' e => hk (by injection e with e; rw [← e]; exact h')
  refine ⟨h.tidy.put (isKey key) _, fun k' h' => ?_, fun k' h' => ?_, fun i k' h' z => ?_, ?_⟩
  · rcases List.mem_append.1 h' with h' | h'
    · rw [Maps.has_put_other (hne k' h')]; exact h.has k' h'
    · rw [List.mem_singleton.1 h']; exact Maps.has_put_same h.tidy.isMap (isKey key) _
  · have h1 : k' ∉ KS := fun q => h' (List.mem_append_left _ q)
    have h2 : k' ≠ key := fun q => h' (List.mem_append_right _ (by rw [q]; exact List.mem_singleton.2 rfl))
    rw [Maps.has_put_other (fun e => h2 (by injection e))]
    exact h.hasN k' h1
  · by_cases hi : i < KS.length
    · rw [List.getElem?_append_left hi] at h'
      rw [Maps.atKey_put_other (hne k' (List.mem_of_getElem? h'))]
      exact h.at_ i k' h' z
    · rw [List.getElem?_append_right (by omega)] at h'
      have h0 : i - KS.length = 0 := by
        have := (List.getElem?_eq_some_iff.1 h').1
        simp at this
        omega
      rw [h0] at h'
      injection h' with h'
      subst h'
      rw [Maps.atKey_put_same h.tidy.isMap (isKey key), show i = KS.length by omega]
  · rw [Maps.size_put h.tidy, h.hasN key hk, if_neg (by decide), h.size, List.length_append]
    rfl
/-- The map at block b reads as D. -/
def MapAt (w : World) (b n : Nat) (D : Dm) : Prop := w.ownsMap Tryd.prog 9 (plainElem Tryd.prog 3) b n D
theorem MapAt.kept {w w' : World} {b n : Nat} {D : Dm} (h : MapAt w b n D) (hb : w'.heap[b]? = w.heap[b]?) : MapAt w' b n D := by
  obtain ⟨es, clock, hh, r⟩ := h
  exact ⟨es, clock, hb.trans hh, r⟩
/-! ### Rows that are left alone while words are written -/
structure Oth (t : Thing) : Prop where
  blk : ∀ w k, t.H w → t.b = some k → ∃ o, w.heap[k]? = some o ∧ ∀ c fz, o ≠ .cells c 5 fz
  keep : ∀ w w', t.H w → (∀ k, t.b = some k → w'.heap[k]? = w.heap[k]?) → t.H w'
theorem oth_row {e : TypeId} {sz n : Nat} {v : Value} {xs : List Value} (he : e ≠ 5) : Oth (rowT e sz v n xs) := by
  refine ⟨fun w k h hk => ?_, fun w w' h hb => ?_⟩
  · rcases (show w.ownsRow 0 e sz v n xs from h).2 with ⟨rfl, _⟩ | ⟨g, cap, cur, rfl, _, hg, _⟩
    · cases hk
    · have hk : some g = some k := hk
      injection hk with hk
      subst hk
      exact ⟨_, hg, fun c fz e' => he (by injection e')⟩
  · have h : w.ownsRow 0 e sz v n xs := h
    refine ⟨h.1, ?_⟩
    rcases h.2 with h' | ⟨g, cap, cur, rfl, h1, hg, r⟩
    · exact .inl h'
    · exact .inr ⟨g, cap, cur, rfl, h1, (hb g rfl).trans hg, r⟩
theorem oth_inn {vs : List Value} {ks : List (List Nat)} : ∀ t ∈ inn vs ks, Oth t := by
  induction vs generalizing ks with
  | nil => intro t h; cases h
  | cons v vs ih =>
    intro t h
    cases ks with
    | nil => cases h
    | cons l ks =>
      rcases List.mem_cons.1 h with rfl | h
      · exact oth_row (by decide)
      · exact ih t h
theorem oth_pr {g : Nat} {vN vP vS vK : Value} {nN : Nat} {cN : List Value} {nP : Nat} {cP : List Value} {nS : Nat} {cS : List Value} {nK : Nat} {us vs : List Value} {ks : List (List Nat)} : ∀ t ∈ PR g vN vP vS vK nN cN nP cP nS cS nK us vs ks [], Oth t := by
  intro t h
  unfold PR at h
  simp only [List.append_nil, List.mem_cons] at h
  rcases h with rfl | rfl | rfl | rfl | rfl | h
  · exact oth_row (by decide)
  · exact oth_row (by decide)
  · exact oth_row (by decide)
  · exact oth_row (by decide)
  · exact oth_row (by decide)
  · exact oth_inn t h
/-- Words are written: the row of words (the first thing) is turned, the others stay. -/
theorem fam_words {w w' : World} {B : Nat} {R : List Thing} {v v' : Value} {l l' : List UInt8} (h : Fam w B (rowT 5 1 v l.length (Lib.byteCells l) :: R)) (hR : ∀ t ∈ R, Oth t) (hk : Kp B w w') (hv : Wd w' B v' l') : Fam w' B (rowT 5 1 v' l'.length (Lib.byteCells l') :: R) := by
  have keep : ∀ t ∈ R, t.H w' ∧ ∀ k, t.b = some k → w'.heap[k]? = w.heap[k]? := fun t ht => by
    have hH := h.h t (List.mem_cons_of_mem _ ht)
    have hb : ∀ k, t.b = some k → w'.heap[k]? = w.heap[k]? := fun k hk' => by
      obtain ⟨o, ho, hne⟩ := (hR t ht).blk w k hH hk'
      rw [ho]
      exact hk.block ho hne
    exact ⟨(hR t ht).keep w w' hH hb, hb⟩
  refine ⟨fun t ht => ?_, fun t ht k hk' => ?_, ?_, Nat.le_trans h.B hk.bel.size⟩
  · rcases List.mem_cons.1 ht with rfl | ht
    · show w'.ownsRow 0 _ _ _ _ _
      exact own_zero hv
    · exact (keep t ht).1
  · rcases List.mem_cons.1 ht with rfl | ht
    · exact (hv.lt k hk').1
    · exact h.ge t (List.mem_cons_of_mem _ ht) k hk'
  · rw [List.pairwise_cons]
    refine ⟨fun t ht => ?_, (List.pairwise_cons.1 h.ap).2⟩
    show v'.ownBlock = none ∨ v'.ownBlock ≠ t.b
    cases hvb : v'.ownBlock with
    | none => exact .inl rfl
    | some g =>
      right
      intro e
      obtain ⟨o, ho, hne⟩ := (hR t ht).blk w' g (keep t ht).1 e.symm
      obtain ⟨c, fz, hc⟩ := Lib.ownsRow_kind hv g hvb
      rw [hc] at ho
      exact hne c fz (Option.some.inj ho).symm
theorem wd_of {w : World} {B : Nat} {R : List Thing} {v : Value} {l : List UInt8} (h : Fam w B (rowT 5 1 v l.length (Lib.byteCells l) :: R)) : Wd w B v l := own_up (h.get (i := 0) rfl) fun k hk => h.ge _ List.mem_cons_self k hk
/-- words[:0] -/
theorem wd_cut {w : World} {B : Nat} {a : Option Addr} {n c : Nat} {l : List UInt8} (h : Wd w B (.slice a n c) l) (hB : B ≤ w.heap.size) : Wd w B (.slice a 0 c) [] := by
  refine ⟨rfl, ?_⟩
  rcases h.2 with ⟨e, h0⟩ | ⟨g, cap, cur, e, h1, hg, h2, h3, h4, _⟩
  · injection e with e1 e2 e3
    subst e1; subst e3
    exact .inl ⟨rfl, rfl⟩
  · injection e with e1 e2 e3
    subst e1; subst e3
    exact .inr ⟨g, c, cur, rfl, h1, hg, Nat.zero_le _, h3, h4, rfl⟩
theorem conv_wd {w : World} {B : Nat} {v : Value} {l : List UInt8} (h : Wd w B v l) : (convert 52 9 v).run Tryd.prog w = .ok (.string ⟨l.toArray⟩) w := by
  rcases h.2 with ⟨rfl, h0⟩ | ⟨g, cap, cur, rfl, _, hg, h3, h4, h5, h6⟩
  · obtain rfl : l = [] := List.eq_nil_of_length_eq_zero h0
    exact run_convert_bytes_nil w _ 5 Tryd.underlying52 Tryd.underlying5 0 0 _ Tryd.underlying9
  · refine run_convert_bytes_back w _ _ 5 ⟨g, 0, none⟩ cap l Tryd.underlying52 Tryd.underlying5 Tryd.underlying9 fun j hj => ?_
    exact World.ownsRow.cells h (g := g) rfl j _ (by simp [Lib.byteCells, List.getElem?_eq_getElem hj])
/-- What is written at the map: a family that lies above it stays. -/
theorem Fam.grownLow {w w' : World} {B g : Nat} {R : List Thing} (h : Fam w B R) (hg : g < B) (hG : w.grownBy w' (some g)) : Fam w' B R :=
  ⟨fun t ht => t.kept w _ (some g) (h.h t ht) hG (by cases hb : t.b with | none => exact .inl rfl | some k => exact .inr (by have := h.ge t ht k hb; intro e; injection e with e; omega)), h.ge, h.ap, Nat.le_trans h.B hG.size⟩
theorem grown_bel {w w' w'' : World} {g B : Nat} (h : w.grownBy w' (some g)) (hB : w.heap.size ≤ B) (hb : Below B w' w'') : w.grownBy w'' (some g) :=
  ⟨hb.os.trans h.os, hb.tape.trans h.tape, hb.output.trans h.output, Nat.le_trans h.size hb.size, fun k hk hne => (hb.block k (Nat.lt_of_lt_of_le hk hB)).trans (h.block k hk hne)⟩
theorem grown_both {w w' w'' : World} {g : Nat} (h : w.grownBy w' (some g)) (h' : w'.grownBy w'' (some g)) : w.grownBy w'' (some g) :=
  ⟨h'.os.trans h.os, h'.tape.trans h.tape, h'.output.trans h.output, Nat.le_trans h.size h'.size, fun k hk hne => (h'.block k (Nat.lt_of_lt_of_le hk h.size) hne).trans (h.block k hk hne)⟩
end Go.Proofs.YtmknghhgcecafaaDoor.Shape
