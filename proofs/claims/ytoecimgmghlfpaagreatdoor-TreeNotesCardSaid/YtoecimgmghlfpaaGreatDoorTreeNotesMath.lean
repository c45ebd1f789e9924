/-
  Plain mathematics of TreeNotes: a file's Kids with a remark put among them, or without remarks. Nothing of the program is imported.
-/
import Derived.Test.YtoecimgmghlfpaaGreatDoorTreeMath
namespace Go.Proofs.YtoecimgmghlfpaaGreatDoor.Tree
set_option linter.unusedVariables false

/-- A row of trees, of a list of nodes. -/
def ofM : List Nd → F
  | [] => .nil
  | nd :: l => .cons nd.k nd.x nd.y nd.c (ofM l)
def toM : F → List Nd
  | .nil => []
  | .cons k x y c r => ⟨k, x, y, c⟩ :: toM r
theorem ofM_toM : ∀ f : F, ofM (toM f) = f
  | .nil => rfl
  | .cons k x y c r => by simp only [toM, ofM, ofM_toM r]

/-- Are kinds as a file asks? 0: ahead of the package, 1: among the imports, 2: among the declarations. -/
def fl : Nat → List Int → Bool
  | 0, [] => false
  | _, [] => true
  | 0, k :: l => if k = 8 then fl 0 l else if k = 2 then fl 1 l else false
  | 1, k :: l => if k = 3 ∨ k = 8 then fl 1 l else if k = 4 ∨ k = 5 ∨ k = 6 ∨ k = 7 then fl 2 l else false
  | _, k :: l => if k = 4 ∨ k = 5 ∨ k = 6 ∨ k = 7 ∨ k = 8 then fl 2 l else false
def kinds (l : List Nd) : List Int := l.map (·.k)

theorem fl2 : ∀ l : List Nd, fl 2 (kinds l) = rowOK [.many isDecl] (ofM l)
  | [] => rfl
  | nd :: l => by
    have ih := fl2 l
    simp only [kinds, List.map_cons, fl, ofM, rowOK, Pt.take, dropM] at ih ⊢
    by_cases h : nd.k = 4 ∨ nd.k = 5 ∨ nd.k = 6 ∨ nd.k = 7 ∨ nd.k = 8
    · have h' : isDecl nd.k nd.x = true := by unfold isDecl; rcases h with h | h | h | h | h <;> simp [h]
      rw [if_pos h, if_pos h', ih]
    · have h' : ¬ isDecl nd.k nd.x = true := by
        simp only [not_or] at h
        obtain ⟨h1, h2, h3, h4, h5⟩ := h
        unfold isDecl; simp [h1, h2, h3, h4, h5]
      rw [if_neg h, if_neg h']
      rfl
theorem fl1 : ∀ l : List Nd, fl 1 (kinds l) = rowOK [.many (isOf [3, 8]), .many isDecl] (ofM l)
  | [] => rfl
  | nd :: l => by
    have ih := fl1 l
    have ih2 := fl2 l
    simp only [kinds, List.map_cons, fl, ofM, rowOK, Pt.take, dropM] at ih ih2 ⊢
    by_cases h : nd.k = 3 ∨ nd.k = 8
    · have h' : isOf [3, 8] nd.k nd.x = true := by unfold isOf; rcases h with h | h <;> simp [h]
      rw [if_pos h, if_pos h', ih]
    · have h' : ¬ isOf [3, 8] nd.k nd.x = true := by
        simp only [not_or] at h
        obtain ⟨h1, h2⟩ := h
        unfold isOf; simp [h1, h2]
      rw [if_neg h, if_neg h']
      simp only [dropM]
      by_cases hd : nd.k = 4 ∨ nd.k = 5 ∨ nd.k = 6 ∨ nd.k = 7
      · have hd' : isDecl nd.k nd.x = true := by unfold isDecl; rcases hd with h | h | h | h <;> simp [h]
        rw [if_pos hd, if_pos hd', ih2]
      · have hd' : ¬ isDecl nd.k nd.x = true := by
          simp only [not_or] at hd h
          obtain ⟨h1, h2, h3, h4⟩ := hd
          unfold isDecl; simp [h1, h2, h3, h4, h.2]
        rw [if_neg hd, if_neg hd']
        rfl
theorem fl0 : ∀ l : List Nd, fl 0 (kinds l) = rowOK [.many (isOf [8]), .one [isOf [2]], .many (isOf [3, 8]), .many isDecl] (ofM l)
  | [] => rfl
  | nd :: l => by
    have ih := fl0 l
    have ih1 := fl1 l
    simp only [kinds, List.map_cons, fl, ofM, rowOK, Pt.take, dropM] at ih ih1 ⊢
    by_cases h : nd.k = 8
    · have h' : isOf [8] nd.k nd.x = true := by unfold isOf; simp [h]
      rw [if_pos h, if_pos h', ih]
    · have h' : ¬ isOf [8] nd.k nd.x = true := by unfold isOf; simp [h]
      rw [if_neg h, if_neg h']
      by_cases hd : nd.k = 2
      · have hd' : ([isOf [2]].any fun p => p nd.k nd.x) = true := by unfold isOf; simp [hd]
        dsimp only
        rw [if_pos hd, if_pos hd', ih1]
      · have hd' : ¬ ([isOf [2]].any fun p => p nd.k nd.x) = true := by unfold isOf; simp [hd]
        dsimp only
        rw [if_neg hd, if_neg hd']
theorem kids_file (x : ByteArray) (l : List Nd) : kidsOK 1 x (ofM l) = fl 0 (kinds l) := by
  rw [fl0]; unfold kidsOK; rw [if_pos rfl]

theorem fl_note : ∀ (s : Nat) (l : List Int), fl s (8 :: l) = true ↔ fl (min s 2) l = true
  | 0, l => by simp [fl]
  | 1, l => by simp [fl]
  | 2, l => by simp [fl]
  | n + 3, l => by simp [fl]
/-- A remark among the Kids. -/
theorem fl_ins : ∀ (l1 : List Int) (s : Nat) (l2 : List Int), s ≤ 2 → fl s (l1 ++ l2) = true → fl s (l1 ++ 8 :: l2) = true
  | [], s, l2, hs, h => by rw [List.nil_append, fl_note, Nat.min_eq_left hs]; exact h
  | k :: l1, 0, l2, hs, h => by
    simp only [List.cons_append, fl] at h ⊢
    split at h
    · rename_i h8; rw [if_pos h8]; exact fl_ins l1 0 l2 (by omega) h
    · rename_i h8
      rw [if_neg h8]
      split at h
      · rename_i h2; rw [if_pos h2]; exact fl_ins l1 1 l2 (by omega) h
      · cases h
  | k :: l1, 1, l2, hs, h => by
    simp only [List.cons_append, fl] at h ⊢
    split at h
    · rename_i h8; rw [if_pos h8]; exact fl_ins l1 1 l2 (by omega) h
    · rename_i h8
      rw [if_neg h8]
      split at h
      · rename_i h2; rw [if_pos h2]; exact fl_ins l1 2 l2 (by omega) h
      · cases h
  | k :: l1, 2, l2, hs, h => by
    simp only [List.cons_append, fl] at h ⊢
    split at h
    · rename_i h8; rw [if_pos h8]; exact fl_ins l1 2 l2 (by omega) h
    · cases h
  | k :: l1, n + 3, l2, hs, h => by omega
/-- Without its remarks. -/
theorem fl_del : ∀ (l : List Int) (s : Nat), s ≤ 2 → fl s l = true → fl s (l.filter (· != 8)) = true
  | [], s, hs, h => by simpa using h
  | k :: l, s, hs, h => by
    by_cases h8 : k = 8
    · subst h8
      rw [fl_note, Nat.min_eq_left hs] at h
      simpa using fl_del l s hs h
    · rw [List.filter_cons, if_pos (by simpa using h8)]
      match s, hs, h with
      | 0, hs, h =>
        simp only [fl] at h ⊢
        rw [if_neg h8] at h ⊢
        split at h
        · rename_i h2; rw [if_pos h2]; exact fl_del l 1 (by omega) h
        · cases h
      | 1, hs, h =>
        simp only [fl] at h ⊢
        split at h
        · rename_i h2; rw [if_pos h2]; exact fl_del l 1 (by omega) h
        · rename_i h2
          rw [if_neg h2]
          split at h
          · rename_i h3; rw [if_pos h3]; exact fl_del l 2 (by omega) h
          · cases h
      | 2, hs, h =>
        simp only [fl] at h ⊢
        split at h
        · rename_i h2; rw [if_pos h2]; exact fl_del l 2 (by omega) h
        · cases h
theorem fl_not1 : ∀ (l : List Int) (s : Nat), fl s l = true → ∀ k ∈ l, k ≠ 1
  | [], s, _, k, hk => by cases hk
  | j :: l, 0, h, k, hk => by
    simp only [fl] at h
    rcases List.mem_cons.1 hk with rfl | hk
    · intro e; subst e; simp at h
    · split at h
      · exact fl_not1 l 0 h k hk
      · split at h
        · exact fl_not1 l 1 h k hk
        · cases h
  | j :: l, 1, h, k, hk => by
    simp only [fl] at h
    rcases List.mem_cons.1 hk with rfl | hk
    · intro e; subst e; simp at h
    · split at h
      · exact fl_not1 l 1 h k hk
      · split at h
        · exact fl_not1 l 2 h k hk
        · cases h
  | j :: l, n + 2, h, k, hk => by
    simp only [fl] at h
    rcases List.mem_cons.1 hk with rfl | hk
    · intro e; subst e; simp at h
    · split at h
      · exact fl_not1 l 2 h k hk
      · cases h

section
variable (nm : ByteArray → Bool) (tk : ByteArray → Int → Bool)
theorem down_file (x : ByteArray) (i : Nat) (k : Int) (y : ByteArray) : down 1 x i k y = 0 := by simp [down, paren, more]
/-- The Kids of a file stand by themselves. -/
theorem kidsR_file (x : ByteArray) : ∀ (l : List Nd) (i : Nat), kidsR nm tk 1 x true 0 i (ofM l) = l.all fun nd => nodeR nm tk nd.k nd.x nd.y nd.c true 0
  | [], i => rfl
  | nd :: l, i => by
    rw [ofM, kidsR_cons, down_file, kidsR_file x l (i + 1)]
    rfl
/-- A file is right just if its kinds and each of its Kids are. -/
theorem right_file (l : List Nd) : rightT nm tk 1 ⟨#[]⟩ ⟨#[]⟩ (ofM l) = true ↔ fl 0 (kinds l) = true ∧ ∀ nd ∈ l, nodeR nm tk nd.k nd.x nd.y nd.c true 0 = true := by
  have hh : holds 1 = true := rfl
  have ht : textOK nm tk 1 ⟨#[]⟩ = true := by simp [textOK]
  have hy : trailOK tk 1 ⟨#[]⟩ false = true := by simp [trailOK]
  have e : rightT nm tk 1 ⟨#[]⟩ ⟨#[]⟩ (ofM l) = (textOK nm tk 1 ⟨#[]⟩ && (trailOK tk 1 ⟨#[]⟩ false && kidsOK 1 ⟨#[]⟩ (ofM l)) && kidsR nm tk 1 ⟨#[]⟩ (holds 1) 0 0 (ofM l)) := by
    unfold rightT
    rw [nodeR]
    simp [fitsN]
  rw [e, hh, kidsR_file, ht, hy, kids_file, Bool.true_and, Bool.true_and, Bool.and_eq_true, List.all_eq_true]
/-- What a right tree is. -/
theorem right_texts {k : Int} {x y : ByteArray} {c : F} (h : rightT nm tk k x y c = true) : k = 1 ∧ x = ⟨#[]⟩ ∧ y = ⟨#[]⟩ := by
  unfold rightT nodeR fitsN at h
  simp only [Bool.and_eq_true, beq_iff_eq, decide_eq_true_eq] at h
  obtain ⟨hk, ⟨_, h1, h2, _⟩, _⟩ := h
  subst hk
  simp only [textOK, trailOK, Bool.false_and, Bool.or_false] at h1 h2
  refine ⟨rfl, ba_toList ?_, ba_toList ?_⟩
  · simpa using h1
  · simpa using h2

def noteN (n : ByteArray) : Nd := ⟨8, n, ⟨#[]⟩, .nil⟩
theorem note_right (n : ByteArray) (hn : tk n 5 = true) : nodeR nm tk 8 n ⟨#[]⟩ .nil true 0 = true := by
  have e : kidsR nm tk 8 n (holds 8) 0 0 .nil = true := by unfold kidsR; rfl
  unfold nodeR fitsN
  rw [e]
  simp [textOK, trailOK, kidsOK, F.len, hn]

/-- The Kids up to place i, with the remark at place k, if that is among them. -/
def moreL (n : ByteArray) (l : List Nd) (k i : Nat) : List Nd := if k < i then l.take k ++ noteN n :: (l.take i).drop k else l.take i
def lessL (l : List Nd) (i : Nat) : List Nd := (l.take i).filter (fun nd => nd.k != 8)
theorem moreL_zero (n : ByteArray) (l : List Nd) (k : Nat) : moreL n l k 0 = [] := by simp [moreL]
theorem moreL_at (n : ByteArray) {l : List Nd} {i : Nat} {nd : Nd} (h : l[i]? = some nd) : moreL n l i (i + 1) = (moreL n l i i ++ [noteN n]) ++ [nd] := by
  have hi : i < l.length := (List.getElem?_eq_some_iff.1 h).1
  unfold moreL
  rw [if_pos (by omega), if_neg (by omega), List.take_add_one, h, List.drop_append_of_le_length (by rw [List.length_take]; omega), List.drop_of_length_le (by rw [List.length_take]; omega)]
  simp
theorem moreL_step (n : ByteArray) {l : List Nd} {k i : Nat} {nd : Nd} (hk : i ≠ k) (h : l[i]? = some nd) : moreL n l k (i + 1) = moreL n l k i ++ [nd] := by
  have hi : i < l.length := (List.getElem?_eq_some_iff.1 h).1
  unfold moreL
  by_cases hki : k < i
  · rw [if_pos (by omega), if_pos hki, List.take_add_one, h, List.drop_append_of_le_length (by rw [List.length_take]; omega)]
    simp
  · rw [if_neg (by omega), if_neg hki, List.take_add_one, h]
    rfl
theorem lessL_zero (l : List Nd) : lessL l 0 = [] := by simp [lessL]
theorem lessL_skip {l : List Nd} {i : Nat} {nd : Nd} (h : l[i]? = some nd) (h8 : nd.k = 8) : lessL l (i + 1) = lessL l i := by
  unfold lessL
  rw [List.take_add_one, h, List.filter_append]
  simp [h8]
theorem lessL_take {l : List Nd} {i : Nat} {nd : Nd} (h : l[i]? = some nd) (h8 : nd.k ≠ 8) : lessL l (i + 1) = lessL l i ++ [nd] := by
  unfold lessL
  rw [List.take_add_one, h, List.filter_append]
  simp [h8]
theorem moreL_len (n : ByteArray) (l : List Nd) (k i : Nat) : (moreL n l k i).length ≤ l.length + 1 := by
  unfold moreL
  split
  · simp; omega
  · rw [List.length_take]; omega
theorem lessL_len (l : List Nd) (i : Nat) : (lessL l i).length ≤ l.length := by
  unfold lessL
  exact Nat.le_trans (List.length_filter_le _ _) (by rw [List.length_take]; omega)

theorem moreL_mem {n : ByteArray} {l : List Nd} {k i : Nat} {P : Nd → Prop} {nd : Nd} (h : nd ∈ moreL n l k i) (hn : P (noteN n)) (hl : ∀ nd ∈ l, P nd) : P nd := by
  unfold moreL at h
  split at h
  · rcases List.mem_append.1 h with h | h
    · exact hl nd (List.mem_of_mem_take h)
    · rcases List.mem_cons.1 h with rfl | h
      · exact hn
      · exact hl nd (List.mem_of_mem_take (List.mem_of_mem_drop h))
  · exact hl nd (List.mem_of_mem_take h)
/-- With a remark among its Kids, anywhere, a right file is right. -/
theorem more_right {n : ByteArray} {l : List Nd} {k : Nat} (hn : tk n 5 = true) (h : rightT nm tk 1 ⟨#[]⟩ ⟨#[]⟩ (ofM l) = true) : rightT nm tk 1 ⟨#[]⟩ ⟨#[]⟩ (ofM (moreL n l k l.length)) = true := by
  rw [right_file] at h ⊢
  obtain ⟨h1, h2⟩ := h
  unfold moreL
  split
  · rw [List.take_length]
    refine ⟨?_, fun nd hnd => ?_⟩
    · have e : kinds (l.take k ++ noteN n :: l.drop k) = (kinds l).take k ++ 8 :: (kinds l).drop k := by simp [kinds, noteN, List.map_take, List.map_drop]
      rw [e]
      exact fl_ins _ 0 _ (by omega) (by rw [List.take_append_drop]; exact h1)
    · rcases List.mem_append.1 hnd with hm | hm
      · exact h2 nd (List.mem_of_mem_take hm)
      · rcases List.mem_cons.1 hm with rfl | hm
        · exact note_right nm tk n hn
        · exact h2 nd (List.mem_of_mem_drop hm)
  · rw [List.take_length]
    exact ⟨h1, h2⟩
theorem less_right {l : List Nd} (h : rightT nm tk 1 ⟨#[]⟩ ⟨#[]⟩ (ofM l) = true) : rightT nm tk 1 ⟨#[]⟩ ⟨#[]⟩ (ofM (lessL l l.length)) = true := by
  rw [right_file] at h ⊢
  obtain ⟨h1, h2⟩ := h
  unfold lessL
  rw [List.take_length]
  refine ⟨?_, fun nd hnd => h2 nd (List.mem_filter.1 hnd).1⟩
  have e : kinds (l.filter fun nd => nd.k != 8) = (kinds l).filter (· != 8) := by
    unfold kinds; rw [List.filter_map]; rfl
  rw [e]
  exact fl_del _ 0 (by omega) h1
/-- No Kid of a right file is right by itself. -/
theorem kid_not {l : List Nd} (h : rightT nm tk 1 ⟨#[]⟩ ⟨#[]⟩ (ofM l) = true) (nd : Nd) (hnd : nd ∈ l) : rightT nm tk nd.k nd.x nd.y nd.c = false := by
  rw [right_file] at h
  have := fl_not1 _ 0 h.1 nd.k (List.mem_map.2 ⟨nd, hnd, rfl⟩)
  unfold rightT
  simp [this]
end
end Go.Proofs.YtoecimgmghlfpaaGreatDoor.Tree
