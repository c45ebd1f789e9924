/-
  Plain mathematics of layer 8 (layout): what follows of layouts: texts, tabs, newlines, flat groups, hards, groups of groups, nests.
-/
import Derived.Test.YtpankfbdlakmcaaLayMath
import Derived.Test.YtpankfbdlakmcaaDocFlat
namespace Go.Proofs.Ytpankfbdlakmcaa.Doc
set_option linter.unusedVariables false

/-! ### Texts without blanks -/
def nbk (b : UInt8) : Bool := !(b.toNat == 32) && !(b.toNat == 9) && !(b.toNat == 10)
def nb (l : List UInt8) : List UInt8 := l.filter nbk
theorem nb_app (a b : List UInt8) : nb (a ++ b) = nb a ++ nb b := List.filter_append ..
theorem nb_tabs : ∀ n : Nat, nb (List.replicate n 9) = []
  | 0 => rfl
  | n + 1 => by rw [List.replicate_succ]; show nb ([9] ++ _) = _; rw [nb_app, nb_tabs n]; rfl
def txB (p : Pc) : List UInt8 := if p.1 = 1 then p.2.data.toList else []
theorem nb_step (q : Bool) (p : Pc) (s : St) : nb (stepD q p s).o = nb s.o ++ nb (txB p) := by
  unfold stepD txB
  by_cases h1 : p.1 = 1
  · rw [if_pos h1, if_pos h1]; simp only [wrS, nb_app, nb_tabs, List.nil_append]
  · rw [if_neg h1, if_neg h1]
    have e : nb ([] : List UInt8) = [] := rfl
    rw [e, List.append_nil]
    split
    · split
      · split
        · simp only [wrS, nb_app, nb_tabs, List.nil_append]; show _ ++ nb [32] = _; rw [show nb [32] = [] from rfl, List.append_nil]
        · rfl
      · simp only [nlS, nb_app]; rw [show nb [10] = [] from rfl, List.append_nil]
    · split
      · rfl
      · split
        · rfl
        · split
          · rfl
          · split <;> rfl
theorem nb_mach (W : Nat) : ∀ (l : List Pc) (s : St), nb (mach W l s).o = nb s.o ++ nb (l.flatMap txB)
  | [], s => by simp [mach, nb]
  | p :: l, s => by
    show nb (mach W l (step W p l s)).o = _
    rw [nb_mach W l, List.flatMap_cons, nb_app, ← List.append_assoc]
    congr 1
    exact nb_step _ p s
/-! ### No line ends in a tab -/
def okT : List UInt8 → Prop
  | [] => True
  | b :: l => (b = 9 → ∃ c r, l = c :: r ∧ c ≠ 10) ∧ okT l
theorem okT_app : ∀ {a b : List UInt8}, okT a → okT b → okT (a ++ b)
  | [], b, _, h => h
  | x :: a, b, h, k => ⟨fun e => by obtain ⟨c, r, h1, h2⟩ := h.1 e; exact ⟨c, r ++ b, by rw [h1]; rfl, h2⟩, okT_app h.2 k⟩
theorem okT_plain : ∀ {y : List UInt8}, (∀ b ∈ y, b ≠ 9) → okT y
  | [], _ => trivial
  | b :: y, h => ⟨fun e => absurd e (h b (List.mem_cons_self ..)), okT_plain fun c hc => h c (List.mem_cons_of_mem _ hc)⟩
theorem okT_tabs {y : List UInt8} (hy : y ≠ []) (h9 : ∀ b ∈ y, b ≠ 9 ∧ b ≠ 10) : ∀ n : Nat, okT (List.replicate n 9 ++ y)
  | 0 => okT_plain fun b hb => (h9 b hb).1
  | n + 1 => by
    have ih := okT_tabs hy h9 n
    rw [List.replicate_succ, List.cons_append]
    refine ⟨fun _ => ?_, ih⟩
    cases n with
    | zero =>
      cases y with
      | nil => exact absurd rfl hy
      | cons b y => exact ⟨b, y, rfl, (h9 b (List.mem_cons_self ..)).2⟩
    | succ n => exact ⟨9, List.replicate n 9 ++ y, by rw [List.replicate_succ, List.cons_append], by decide⟩
theorem okT_at : ∀ {l : List UInt8} {i : Nat}, okT l → l[i]? = some 9 → ∃ c, l[i + 1]? = some c ∧ c ≠ 10
  | [], i, _, h => by simp at h
  | b :: l, 0, h, e => by
    simp only [List.getElem?_cons_zero, Option.some.injEq] at e
    obtain ⟨c, r, h1, h2⟩ := h.1 e
    subst h1
    exact ⟨c, rfl, h2⟩
  | b :: l, i + 1, h, e => by
    obtain ⟨c, h1, h2⟩ := okT_at (i := i) h.2 (by simpa using e)
    exact ⟨c, by simpa using h1, h2⟩
/-- Texts without tabs and newlines. -/
def NoTab (l : List Pc) : Prop := ∀ p ∈ l, p.1 = 1 → ∀ b ∈ p.2.data.toList, b ≠ 9 ∧ b ≠ 10
theorem okT_step {q : Bool} {p : Pc} {s : St} (h : okT s.o) (hne : p.1 = 1 → p.2.toList ≠ []) (ht : p.1 = 1 → ∀ b ∈ p.2.data.toList, b ≠ 9 ∧ b ≠ 10) : okT (stepD q p s).o := by
  unfold stepD
  by_cases h1 : p.1 = 1
  · rw [if_pos h1]
    exact okT_app h (okT_tabs (by have := hne h1; rwa [ByteArray.toList_eq] at this) (ht h1) _)
  · rw [if_neg h1]
    split
    · split
      · split
        · exact okT_app h (okT_tabs (by decide) (by decide) _)
        · exact h
      · exact okT_app h ⟨fun e => absurd e (by decide), trivial⟩
    · split
      · exact h
      · split
        · exact h
        · split
          · exact h
          · split <;> exact h
theorem okT_mach (W : Nat) : ∀ (l : List Pc) (s : St), okT s.o → Ne l → NoTab l → okT (mach W l s).o
  | [], s, h, _, _ => h
  | p :: l, s, h, hn, ht => okT_mach W l _ (okT_step h (hn p (List.mem_cons_self ..)) (ht p (List.mem_cons_self ..))) (fun q hq => hn q (List.mem_cons_of_mem _ hq)) (fun q hq => ht q (List.mem_cons_of_mem _ hq))
/-! ### Newlines -/
def cnl (l : List UInt8) : Nat := l.countP fun b => b.toNat == 10
theorem cnl_app (a b : List UInt8) : cnl (a ++ b) = cnl a + cnl b := List.countP_append ..
theorem cnl_tabs : ∀ n : Nat, cnl (List.replicate n 9) = 0
  | 0 => rfl
  | n + 1 => by rw [List.replicate_succ]; show cnl ([9] ++ _) = _; rw [cnl_app, cnl_tabs n]; rfl
def bks (l : List Pc) : Nat := l.countP fun p => isB p.1
def grs (l : List Pc) : Nat := l.countP fun p => p.1 == 7
def NoNl (l : List Pc) : Prop := ∀ p ∈ l, p.1 = 1 → cnl p.2.data.toList = 0
theorem cnl_step {q : Bool} {p : Pc} {s : St} (ht : p.1 = 1 → cnl p.2.data.toList = 0) : cnl (stepD q p s).o ≤ cnl s.o + (if isB p.1 then 1 else 0) := by
  unfold stepD
  by_cases h1 : p.1 = 1
  · rw [if_pos h1]
    simp only [wrS, cnl_app, cnl_tabs, ht h1]; omega
  · rw [if_neg h1]
    split
    · split
      · split
        · simp only [wrS, cnl_app, cnl_tabs]; rw [show cnl [32] = 0 from rfl]; omega
        · omega
      · simp only [nlS, cnl_app]; rw [show cnl [10] = 1 from rfl]; omega
    · split
      · exact Nat.le_add_right _ _
      · split
        · exact Nat.le_add_right _ _
        · split
          · exact Nat.le_add_right _ _
          · split <;> exact Nat.le_add_right _ _
theorem bks_cons (p : Pc) (l : List Pc) : bks (p :: l) = (if isB p.1 then 1 else 0) + bks l := by
  unfold bks; rw [List.countP_cons]; omega
theorem cnl_mach (W : Nat) : ∀ (l : List Pc) (s : St), NoNl l → cnl (mach W l s).o ≤ cnl s.o + bks l
  | [], s, _ => Nat.le_refl _
  | p :: l, s, ht => by
    have h1 := cnl_mach W l (step W p l s) (fun q hq => ht q (List.mem_cons_of_mem _ hq))
    have h2 := cnl_step (q := s.fl || fitB W 0 l s.c) (p := p) (s := s) (ht p (List.mem_cons_self ..))
    rw [bks_cons]
    show cnl (mach W l (step W p l s)).o ≤ _
    unfold step at h1 ⊢
    omega
def allF (s : St) : Prop := ∀ b ∈ s.f, b = false
theorem allF.fl {s : St} (h : allF s) : s.fl = false := by
  unfold St.fl
  cases hf : s.f with
  | nil => rfl
  | cons q r => exact h q (by rw [hf]; exact List.mem_cons_self ..)
theorem cnl_step_eq {q : Bool} {p : Pc} {s : St} (ha : allF s) (h7 : p.1 ≠ 7) (ht : p.1 = 1 → cnl p.2.data.toList = 0) : cnl (stepD q p s).o = cnl s.o + (if isB p.1 then 1 else 0) ∧ allF (stepD q p s) := by
  unfold stepD
  by_cases h1 : p.1 = 1
  · rw [if_pos h1]
    have hb : isB p.1 = false := isB_not.2 (by omega)
    rw [hb]
    exact ⟨by simp only [wrS, cnl_app, cnl_tabs, ht h1]; simp, ha⟩
  · rw [if_neg h1]
    by_cases hb : isB p.1 = true
    · rw [if_pos hb, if_pos hb, ha.fl]
      exact ⟨by simp only [nlS, cnl_app, Bool.false_eq_true, if_false]; rfl, ha⟩
    · rw [if_neg hb, if_neg hb]
      by_cases h5 : p.1 = 5
      · rw [if_pos h5]; exact ⟨rfl, ha⟩
      rw [if_neg h5]
      by_cases h6 : p.1 = 6
      · rw [if_pos h6]; exact ⟨rfl, ha⟩
      rw [if_neg h6, if_neg h7]
      by_cases h8 : p.1 = 8
      · rw [if_pos h8]; exact ⟨rfl, fun b hb => ha b (List.mem_of_mem_tail hb)⟩
      rw [if_neg h8]; exact ⟨rfl, ha⟩
theorem cnl_mach_eq (W : Nat) : ∀ (l : List Pc) (s : St), allF s → (∀ p ∈ l, p.1 ≠ 7) → NoNl l → cnl (mach W l s).o = cnl s.o + bks l
  | [], s, _, _, _ => rfl
  | p :: l, s, ha, h7, ht => by
    obtain ⟨e1, e2⟩ := cnl_step_eq (q := s.fl || fitB W 0 l s.c) (p := p) ha (h7 p (List.mem_cons_self ..)) (ht p (List.mem_cons_self ..))
    have := cnl_mach_eq W l (step W p l s) e2 (fun q hq => h7 q (List.mem_cons_of_mem _ hq)) (fun q hq => ht q (List.mem_cons_of_mem _ hq))
    rw [bks_cons]
    show cnl (mach W l (step W p l s)).o = _
    rw [this]
    unfold step
    omega
/-! ### A flat group -/
theorem gwp_cons (d : Nat) (p : Pc) (l : List Pc) : gwp d (p :: l) = if p.1 = 8 then (match d with | 0 => bw l | d + 1 => gwp d l) else if p.1 = 7 then gwp (d + 1) l else fwp p + gwp d l := by cases d <;> rfl
theorem gwp_app : ∀ (l k : List Pc) (d d' : Nat), dep 7 8 d l = some d' → gwp d (l ++ k) = sumP l + gwp d' k
  | [], k, d, d', h => by simp only [dep, Option.some.injEq] at h; subst h; simp [sumP]
  | p :: l, k, d, d', h => by
    unfold dep at h
    rw [List.cons_append, gwp_cons, show sumP (p :: l) = fwp p + sumP l from rfl]
    by_cases h7 : p.1 = 7
    · rw [if_pos h7] at h
      have hf : fwp p = 0 := by unfold fwp; simp [h7]
      rw [if_neg (by omega), if_pos h7, gwp_app l k _ _ h, hf]; omega
    · rw [if_neg h7] at h
      by_cases h8 : p.1 = 8
      · rw [if_pos h8] at h ⊢
        have hf : fwp p = 0 := by unfold fwp; simp [h8]
        cases d with
        | zero => cases h
        | succ d => have := gwp_app l k d d' h; simp only []; omega
      · rw [if_neg h8] at h ⊢
        rw [if_neg h7, gwp_app l k d d' h, Nat.add_assoc]
theorem sumP_flat : ∀ l : List Pc, noHard l = true → sumP l = wdL (flB l)
  | [], _ => rfl
  | p :: l, h => by
    have h' : noHard l = true ∧ p.1 ≠ 4 := by
      unfold noHard at h ⊢
      simp only [List.all_cons, Bool.and_eq_true, Bool.not_eq_true', beq_eq_false_iff_ne] at h
      exact ⟨h.2, h.1⟩
    have e : flB (p :: l) = pB p ++ flB l := by simp [flB]
    rw [e, wdL_app, ← sumP_flat l h'.1]
    show fwp p + sumP l = _
    congr 1
    unfold fwp pB
    by_cases h1 : p.1 = 1
    · rw [if_pos h1, if_pos h1]; rfl
    · rw [if_neg h1, if_neg h1]
      by_cases h2 : p.1 = 2
      · rw [if_pos h2, if_pos h2]; rfl
      · rw [if_neg h2, if_neg h2, if_neg h'.2]; rfl
theorem flat_step {q : Bool} {p : Pc} {s : St} {g g' : Nat} (h4 : p.1 ≠ 4) (ht : s.t = 0) (hf : s.f = List.replicate (g + 1) true) (hq : q = true) (hg : dep 7 8 g [p] = some g') :
    (stepD q p s).o = s.o ++ pB p ∧ (stepD q p s).t = 0 ∧ (stepD q p s).f = List.replicate (g' + 1) true := by
  have hfl : s.fl = true := by unfold St.fl; rw [hf]; rfl
  unfold dep at hg
  unfold stepD pB
  by_cases h1 : p.1 = 1
  · rw [if_neg (by omega), if_neg (by omega)] at hg
    simp only [dep, Option.some.injEq] at hg
    subst hg
    rw [if_pos h1, if_pos h1]
    exact ⟨by simp only [wrS, ht, List.replicate_zero, List.nil_append], rfl, hf⟩
  rw [if_neg h1, if_neg h1]
  by_cases hb : isB p.1 = true
  · have hbb := isB_iff.1 hb
    rw [if_neg (by omega), if_neg (by omega)] at hg
    simp only [dep, Option.some.injEq] at hg
    subst hg
    rw [if_pos hb, if_pos hfl]
    by_cases h2 : p.1 = 2
    · rw [if_pos h2, if_pos h2]
      exact ⟨by simp only [wrS, ht, List.replicate_zero, List.nil_append], rfl, hf⟩
    · rw [if_neg h2, if_neg h2, List.append_nil]
      exact ⟨rfl, ht, hf⟩
  have hbb := isB_not.1 (by simpa using hb)
  rw [if_neg hb, if_neg hbb.1, List.append_nil]
  by_cases h7 : p.1 = 7
  · rw [if_pos h7] at hg
    simp only [dep, Option.some.injEq] at hg
    subst hg
    rw [if_neg (by omega), if_neg (by omega), if_pos h7]
    exact ⟨rfl, ht, by simp only []; rw [hf, hq]; rfl⟩
  rw [if_neg h7] at hg
  by_cases h8 : p.1 = 8
  · rw [if_pos h8] at hg
    rw [if_neg (by omega), if_neg (by omega), if_neg h7, if_pos h8]
    cases g with
    | zero => cases hg
    | succ g =>
      simp only [dep, Option.some.injEq] at hg
      subst hg
      exact ⟨rfl, ht, by simp only []; rw [hf]; rfl⟩
  rw [if_neg h8] at hg
  simp only [dep, Option.some.injEq] at hg
  subst hg
  split
  · exact ⟨rfl, ht, hf⟩
  · split
    · exact ⟨rfl, ht, hf⟩
    · first | exact ⟨rfl, ht, hf⟩ | (rw [if_neg h7, if_neg h8]; exact ⟨rfl, ht, hf⟩)
theorem dep_cons (o c : Int) (p : Pc) (l : List Pc) (n : Nat) : dep o c n (p :: l) = (dep o c n [p]).bind fun m => dep o c m l := dep_app o c [p] l n
theorem flat_mach (W : Nat) : ∀ (l k : List Pc) (s : St) (g g' : Nat), noHard l = true → s.t = 0 → s.f = List.replicate (g + 1) true → dep 7 8 g l = some g' →
    ∃ s', mach W (l ++ k) s = mach W k s' ∧ s'.o = s.o ++ flB l ∧ s'.t = 0 ∧ s'.f = List.replicate (g' + 1) true
  | [], k, s, g, g', _, ht, hf, hd => by simp only [dep, Option.some.injEq] at hd; subst hd; exact ⟨s, rfl, by simp [flB], ht, hf⟩
  | p :: l, k, s, g, g', h, ht, hf, hd => by
    have h' : noHard l = true ∧ p.1 ≠ 4 := by
      unfold noHard at h ⊢
      simp only [List.all_cons, Bool.and_eq_true, Bool.not_eq_true', beq_eq_false_iff_ne] at h
      exact ⟨h.2, h.1⟩
    rw [dep_cons] at hd
    cases hm : dep 7 8 g [p] with
    | none => rw [hm] at hd; cases hd
    | some m =>
      rw [hm] at hd
      have hfl : s.fl = true := by unfold St.fl; rw [hf]; rfl
      obtain ⟨e1, e2, e3⟩ := flat_step (q := s.fl || fitB W 0 (l ++ k) s.c) h'.2 ht hf (by rw [hfl]; rfl) hm
      obtain ⟨s', q1, q2, q3, q4⟩ := flat_mach W l k _ m g' h'.1 e2 e3 hd
      refine ⟨s', q1, ?_, q3, q4⟩
      rw [q2, e1, List.append_assoc]
      rfl
/-- A group whose flat text fits is that text. -/
theorem lay_flat {W : Nat} (hW : W ≤ 65535) {l : List Pc} (hb : Bal l) (hn : noHard l = true) (hw : wdL (flB l) ≤ W) : layS W (((7, emp) : Pc) :: (l ++ [((8, emp) : Pc)])) = flB l := by
  have hfit : fitB W 0 (l ++ [((8, emp) : Pc)]) 0 = true := by
    rw [fitB_is hW, gwp_app l _ 0 0 (hb 0).2, sumP_flat l hn]
    have : gwp 0 [((8, emp) : Pc)] = 0 := rfl
    rw [this]
    exact decide_eq_true (by omega)
  show (mach W (l ++ [((8, emp) : Pc)]) (step W (7, emp) (l ++ [((8, emp) : Pc)]) St0)).o = _
  have hs : step W (7, emp) (l ++ [((8, emp) : Pc)]) St0 = ⟨[], 0, 0, 0, [true]⟩ := by
    show ({ St0 with f := (St0.fl || fitB W 0 (l ++ [((8, emp) : Pc)]) 0) :: [] } : St) = _
    rw [hfit]; rfl
  rw [hs]
  obtain ⟨s', q1, q2, _, _⟩ := flat_mach W l [((8, emp) : Pc)] ⟨[], 0, 0, 0, [true]⟩ 0 0 hn rfl rfl (hb 0).2
  rw [q1]
  show s'.o = _
  rw [q2]; rfl
/-! ### Behind a hard -/
theorem bhB_hard (W : Nat) (b : List Pc) (x : ByteArray) : ∀ (a : List Pc) (c : Nat), bhB W (a ++ ((4, x) : Pc) :: b) c = bhB W (a ++ [((4, x) : Pc)]) c
  | [], c => rfl
  | p :: a, c => by simp only [List.cons_append, bhB]; rw [bhB_hard W b x a]
theorem fitB_hard (W : Nat) (b : List Pc) (x : ByteArray) : ∀ (a : List Pc) (d c : Nat), fitB W d (a ++ ((4, x) : Pc) :: b) c = fitB W d (a ++ [((4, x) : Pc)]) c
  | [], d, c => by simp [fitB]
  | p :: a, d, c => by
    simp only [List.cons_append, fitB]
    split
    · rfl
    · split
      · cases d with
        | zero => exact bhB_hard W b x a c
        | succ d => exact fitB_hard W b x a d c
      · split
        · exact fitB_hard W b x a _ c
        · exact fitB_hard W b x a d _
theorem dep_step {q : Bool} {p : Pc} {s : St} {n1 g1 : Nat} (h1 : dep 5 6 s.n [p] = some n1) (h2 : dep 7 8 s.f.length [p] = some g1) : (stepD q p s).n = n1 ∧ (stepD q p s).f.length = g1 := by
  unfold dep at h1 h2
  unfold stepD
  by_cases k1 : p.1 = 1
  · rw [if_pos k1]
    rw [if_neg (by omega), if_neg (by omega)] at h1 h2
    simp only [dep, Option.some.injEq] at h1 h2
    exact ⟨h1, h2⟩
  rw [if_neg k1]
  by_cases kb : isB p.1 = true
  · rw [if_pos kb]
    have := isB_iff.1 kb
    rw [if_neg (by omega), if_neg (by omega)] at h1 h2
    simp only [dep, Option.some.injEq] at h1 h2
    split
    · split <;> exact ⟨h1, h2⟩
    · exact ⟨h1, h2⟩
  rw [if_neg kb]
  by_cases k5 : p.1 = 5
  · rw [if_pos k5] at h1 ⊢
    rw [if_neg (by omega), if_neg (by omega)] at h2
    simp only [dep, Option.some.injEq] at h1 h2
    exact ⟨h1, h2⟩
  rw [if_neg k5] at h1 ⊢
  by_cases k6 : p.1 = 6
  · rw [if_pos k6] at h1 ⊢
    rw [if_neg (by omega), if_neg (by omega)] at h2
    cases hn : s.n with
    | zero => rw [hn] at h1; cases h1
    | succ n => rw [hn] at h1; simp only [dep, Option.some.injEq] at h1 h2; exact ⟨h1, h2⟩
  rw [if_neg k6] at h1 ⊢
  by_cases k7 : p.1 = 7
  · rw [if_pos k7] at h2 ⊢
    simp only [dep, Option.some.injEq] at h1 h2
    exact ⟨h1, by simp only [List.length_cons]; exact h2⟩
  rw [if_neg k7] at h2 ⊢
  by_cases k8 : p.1 = 8
  · rw [if_pos k8] at h2 ⊢
    cases hf : s.f with
    | nil => rw [hf] at h2; cases h2
    | cons q r =>
      rw [hf] at h2
      simp only [dep, List.length_cons, Option.some.injEq] at h1 h2
      exact ⟨h1, h2⟩
  rw [if_neg k8] at h2 ⊢
  simp only [dep, Option.some.injEq] at h1 h2
  exact ⟨h1, h2⟩
theorem dep_split {o c : Int} {p : Pc} {l : List Pc} {n m : Nat} (h : dep o c n (p :: l) = some m) : ∃ k, dep o c n [p] = some k ∧ dep o c k l = some m := by
  rw [dep_cons] at h
  cases hk : dep o c n [p] with
  | none => rw [hk] at h; cases h
  | some k => rw [hk] at h; exact ⟨k, rfl, h⟩
theorem mach_hard (W : Nat) (b : List Pc) (x : ByteArray) : ∀ (a : List Pc) (s : St) (n g : Nat), dep 5 6 s.n a = some n → dep 7 8 s.f.length a = some g → ∃ s', mach W (a ++ ((4, x) : Pc) :: b) s = mach W (((4, x) : Pc) :: b) s' ∧ mach W (a ++ [((4, x) : Pc)]) s = mach W [((4, x) : Pc)] s' ∧ s'.n = n ∧ s'.f.length = g
  | [], s, n, g, h1, h2 => by simp only [dep, Option.some.injEq] at h1 h2; exact ⟨s, rfl, rfl, h1, h2⟩
  | p :: a, s, n, g, h1, h2 => by
    obtain ⟨n1, a1, a2⟩ := dep_split h1
    obtain ⟨g1, b1, b2⟩ := dep_split h2
    have e : step W p (a ++ ((4, x) : Pc) :: b) s = step W p (a ++ [((4, x) : Pc)]) s := by unfold step; rw [fitB_hard]
    obtain ⟨c1, c2⟩ := dep_step (q := s.fl || fitB W 0 (a ++ ((4, x) : Pc) :: b) s.c) a1 b1
    obtain ⟨s', q1, q2, q3⟩ := mach_hard W b x a (step W p (a ++ ((4, x) : Pc) :: b) s) n g (by unfold step; rw [c1]; exact a2) (by unfold step; rw [c2]; exact b2)
    refine ⟨s', q1, ?_, q3⟩
    show mach W (a ++ [((4, x) : Pc)]) (step W p (a ++ [((4, x) : Pc)]) s) = _
    rw [← e]; exact q2
theorem pre_step (q : Bool) (p : Pc) (s : St) (y : List UInt8) : stepD q p { s with o := y ++ s.o } = { stepD q p s with o := y ++ (stepD q p s).o } := by
  unfold stepD
  have hfl : St.fl { s with o := y ++ s.o } = s.fl := rfl
  split
  · simp only [wrS, List.append_assoc]
  · split
    · rw [hfl]
      split
      · split
        · simp only [wrS, List.append_assoc]
        · rfl
      · simp only [nlS, List.append_assoc]
    · split
      · rfl
      · split
        · rfl
        · split
          · rfl
          · split <;> rfl
theorem pre_mach (W : Nat) (y : List UInt8) : ∀ (l : List Pc) (s : St), mach W l { s with o := y ++ s.o } = { mach W l s with o := y ++ (mach W l s).o }
  | [], s => rfl
  | p :: l, s => by
    show mach W l (step W p l { s with o := y ++ s.o }) = { mach W l (step W p l s) with o := y ++ (mach W l (step W p l s)).o }
    rw [← pre_mach W y l]
    congr 1
    exact pre_step _ p s y
/-- Behind a hard all begins anew. -/
theorem lay_hard (W : Nat) {a : List Pc} (ha : Bal a) (b : List Pc) (x : ByteArray) : layS W (a ++ ((4, x) : Pc) :: b) = layS W (a ++ [((4, x) : Pc)]) ++ layS W b := by
  obtain ⟨s', q1, q2, q3, q4⟩ := mach_hard W b x a St0 0 0 (ha 0).1 (ha 0).2
  unfold layS
  rw [q1, q2]
  have hf : s'.f = [] := List.eq_nil_of_length_eq_zero q4
  have hs : ∀ k, step W ((4, x) : Pc) k s' = { St0 with o := (s'.o ++ [10]) ++ St0.o } := fun k => by
    show (if s'.fl then (if (4 : Int) = 2 then wrS [32] 1 s' else s') else nlS s') = _
    have hfl : s'.fl = false := by unfold St.fl; rw [hf]; rfl
    rw [hfl]
    simp [nlS, q3, hf, St0]
  show (mach W b (step W _ b s')).o = (step W _ [] s').o ++ _
  rw [hs, hs, pre_mach]
  show (s'.o ++ [10]) ++ (mach W b St0).o = ((s'.o ++ [10]) ++ []) ++ (mach W b St0).o
  rw [List.append_nil]
/-! ### A group of a group -/
theorem bhB_tw (W : Nat) (x y : ByteArray) : ∀ (a : List Pc) (c : Nat), bhB W (a ++ [((8, x) : Pc)]) c = bhB W (a ++ [((8, x) : Pc), (8, y)]) c
  | [], c => by simp [bhB, isB, txtW]
  | p :: a, c => by simp only [List.cons_append, bhB]; rw [bhB_tw W x y a]
theorem fitB_tw (W : Nat) (x y : ByteArray) : ∀ (a : List Pc) (d c : Nat), fitB W d (a ++ [((8, x) : Pc)]) c = fitB W d (a ++ [((8, x) : Pc), (8, y)]) c
  | [], d, c => by
    cases d with
    | zero => simp [fitB, bhB, isB, txtW]
    | succ d => cases d <;> simp [fitB, bhB]
  | p :: a, d, c => by
    simp only [List.cons_append, fitB]
    split
    · rfl
    · split
      · cases d with
        | zero => exact bhB_tw W x y a c
        | succ d => exact fitB_tw W x y a d c
      · split
        · exact fitB_tw W x y a _ c
        · exact fitB_tw W x y a d _
theorem tw_step {q f : Bool} {p : Pc} {s : St} {r : List Bool} {g1 : Nat} (hf : s.f = r ++ [f, f]) (hg : dep 7 8 r.length [p] = some g1) :
    ∃ r', stepD q p { s with f := r ++ [f] } = { stepD q p s with f := r' ++ [f] } ∧ (stepD q p s).f = r' ++ [f, f] ∧ r'.length = g1 := by
  have hfl : St.fl { s with f := r ++ [f] } = s.fl := by
    unfold St.fl
    rw [hf]
    cases r <;> rfl
  unfold dep at hg
  unfold stepD
  by_cases k1 : p.1 = 1
  · rw [if_pos k1, if_pos k1]
    rw [if_neg (by omega), if_neg (by omega)] at hg
    simp only [dep, Option.some.injEq] at hg
    exact ⟨r, rfl, hf, hg⟩
  rw [if_neg k1, if_neg k1]
  by_cases kb : isB p.1 = true
  · rw [if_pos kb, if_pos kb, hfl]
    have := isB_iff.1 kb
    rw [if_neg (by omega), if_neg (by omega)] at hg
    simp only [dep, Option.some.injEq] at hg
    refine ⟨r, ?_, ?_, hg⟩
    · split
      · split <;> rfl
      · rfl
    · split
      · split <;> exact hf
      · exact hf
  rw [if_neg kb, if_neg kb]
  by_cases k7 : p.1 = 7
  · rw [if_pos k7] at hg
    rw [if_neg (by omega), if_neg (by omega), if_pos k7, if_neg (by omega), if_neg (by omega), if_pos k7]
    simp only [dep, Option.some.injEq] at hg
    exact ⟨q :: r, rfl, by simp only []; rw [hf]; rfl, hg⟩
  rw [if_neg k7] at hg
  by_cases k8 : p.1 = 8
  · rw [if_pos k8] at hg
    rw [if_neg (by omega), if_neg (by omega), if_neg k7, if_pos k8, if_neg (by omega), if_neg (by omega), if_neg k7, if_pos k8]
    cases r with
    | nil => cases hg
    | cons b r =>
      simp only [dep, List.length_cons, Option.some.injEq] at hg
      exact ⟨r, rfl, by simp only []; rw [hf]; rfl, hg⟩
  rw [if_neg k8] at hg
  simp only [dep, Option.some.injEq] at hg
  refine ⟨r, ?_, ?_, hg⟩
  · split
    · rfl
    · split
      · rfl
      · first | rfl | rw [if_neg k7, if_neg k8, if_neg k7, if_neg k8]
  · split
    · exact hf
    · split
      · exact hf
      · first | exact hf | (rw [if_neg k7, if_neg k8]; exact hf)
theorem tw_mach (W : Nat) (x y : ByteArray) (f : Bool) : ∀ (l : List Pc) (s : St) (r : List Bool) (g : Nat), s.f = r ++ [f, f] → dep 7 8 r.length l = some g →
    (mach W (l ++ [((8, x) : Pc)]) { s with f := r ++ [f] }).o = (mach W (l ++ [((8, x) : Pc), (8, y)]) s).o
  | [], s, r, g, hf, hd => rfl
  | p :: l, s, r, g, hf, hd => by
    obtain ⟨g1, a1, a2⟩ := dep_split hd
    have hfl : St.fl { s with f := r ++ [f] } = s.fl := by
      unfold St.fl
      rw [hf]
      cases r <;> rfl
    obtain ⟨r', e1, e2, e3⟩ := tw_step (q := s.fl || fitB W 0 (l ++ [((8, x) : Pc), (8, y)]) s.c) (p := p) hf a1
    have := tw_mach W x y f l _ r' g e2 (by rw [e3]; exact a2)
    rw [← e1] at this
    show (mach W (l ++ [((8, x) : Pc)]) (stepD (St.fl { s with f := r ++ [f] } || fitB W 0 (l ++ [((8, x) : Pc)]) s.c) p { s with f := r ++ [f] })).o = (mach W (l ++ [((8, x) : Pc), (8, y)]) (stepD (s.fl || fitB W 0 (l ++ [((8, x) : Pc), (8, y)]) s.c) p s)).o
    rw [hfl, fitB_tw W x y]
    exact this
theorem lay_twice {W : Nat} (hW : W ≤ 65535) {l : List Pc} (hb : Bal l) : layS W (((7, emp) : Pc) :: (l ++ [((8, emp) : Pc)])) = layS W (((7, emp) : Pc) :: ((((7, emp) : Pc) :: (l ++ [((8, emp) : Pc)])) ++ [((8, emp) : Pc)])) := by
  obtain ⟨q, hq⟩ : ∃ q, decide (sumP l ≤ W) = q := ⟨_, rfl⟩
  have f1 : fitB W 0 (l ++ [((8, emp) : Pc)]) 0 = q := by
    rw [fitB_is hW, gwp_app l _ 0 0 (hb 0).2, ← hq]
    exact decide_eq_decide.2 (by rw [show gwp 0 [((8, emp) : Pc)] = 0 from rfl]; omega)
  have f2 : fitB W 0 ((((7, emp) : Pc) :: (l ++ [((8, emp) : Pc)])) ++ [((8, emp) : Pc)]) 0 = q := by
    rw [fitB_is hW, ← hq]
    have e : gwp 0 ((((7, emp) : Pc) :: (l ++ [((8, emp) : Pc)])) ++ [((8, emp) : Pc)]) = sumP l := by
      show gwp 1 ((l ++ [((8, emp) : Pc)]) ++ [((8, emp) : Pc)]) = _
      rw [List.append_assoc, gwp_app l _ 1 1 (hb 1).2]
      rfl
    rw [e]
    exact decide_eq_decide.2 (by omega)
  have f3 : fitB W 0 (l ++ [((8, emp) : Pc), (8, emp)]) 0 = q := by rw [← fitB_tw W emp emp]; exact f1
  unfold layS
  show (mach W (l ++ [((8, emp) : Pc)]) (step W (7, emp) (l ++ [((8, emp) : Pc)]) St0)).o = (mach W ((l ++ [((8, emp) : Pc)]) ++ [((8, emp) : Pc)]) (step W (7, emp) ((l ++ [((8, emp) : Pc)]) ++ [((8, emp) : Pc)]) (step W (7, emp) ((((7, emp) : Pc) :: (l ++ [((8, emp) : Pc)])) ++ [((8, emp) : Pc)]) St0))).o
  have s1 : step W (7, emp) (l ++ [((8, emp) : Pc)]) St0 = ⟨[], 0, 0, 0, [q]⟩ := by
    show ({ St0 with f := (St0.fl || fitB W 0 (l ++ [((8, emp) : Pc)]) 0) :: [] } : St) = _
    rw [f1]; rfl
  have s2 : step W (7, emp) ((((7, emp) : Pc) :: (l ++ [((8, emp) : Pc)])) ++ [((8, emp) : Pc)]) St0 = ⟨[], 0, 0, 0, [q]⟩ := by
    show ({ St0 with f := (St0.fl || fitB W 0 ((((7, emp) : Pc) :: (l ++ [((8, emp) : Pc)])) ++ [((8, emp) : Pc)]) 0) :: [] } : St) = _
    rw [f2]; rfl
  rw [s1, s2, List.append_assoc]
  have s3 : step W (7, emp) (l ++ ([((8, emp) : Pc)] ++ [((8, emp) : Pc)])) ⟨[], 0, 0, 0, [q]⟩ = ⟨[], 0, 0, 0, [q, q]⟩ := by
    show (⟨[], 0, 0, 0, (q || fitB W 0 (l ++ [((8, emp) : Pc), (8, emp)]) 0) :: [q]⟩ : St) = _
    rw [f3]
    cases q <;> rfl
  rw [s3]
  exact tw_mach W emp emp q l ⟨[], 0, 0, 0, [q, q]⟩ [] 0 rfl (hb 0).2
/-! ### A nest around what has no break -/
theorem bhB_ne (W : Nat) (x : ByteArray) : ∀ (a : List Pc) (c : Nat), bhB W (a ++ [((6, x) : Pc)]) c = bhB W a c
  | [], c => by simp [bhB, isB, txtW]
  | p :: a, c => by simp only [List.cons_append, bhB]; rw [bhB_ne W x a]
theorem fitB_ne (W : Nat) (x : ByteArray) : ∀ (a : List Pc) (d c : Nat), fitB W d (a ++ [((6, x) : Pc)]) c = fitB W d a c
  | [], d, c => by simp [fitB, fwp]
  | p :: a, d, c => by
    simp only [List.cons_append, fitB]
    split
    · rfl
    · split
      · cases d with
        | zero => exact bhB_ne W x a c
        | succ d => exact fitB_ne W x a d c
      · split
        · exact fitB_ne W x a _ c
        · exact fitB_ne W x a d _
theorem ne_step {q : Bool} {p : Pc} {s : St} (n : Nat) (hb : isB p.1 = false) : ∃ n', stepD q p { s with n := n } = { stepD q p s with n := n' } := by
  unfold stepD
  have hfl : St.fl { s with n := n } = s.fl := rfl
  rw [hb]
  simp only [Bool.false_eq_true, if_false]
  by_cases h1 : p.1 = 1
  · rw [if_pos h1, if_pos h1]; exact ⟨n, rfl⟩
  rw [if_neg h1, if_neg h1]
  by_cases h5 : p.1 = 5
  · rw [if_pos h5, if_pos h5]; exact ⟨n + 1, rfl⟩
  rw [if_neg h5, if_neg h5]
  by_cases h6 : p.1 = 6
  · rw [if_pos h6, if_pos h6]; exact ⟨n - 1, rfl⟩
  rw [if_neg h6, if_neg h6]
  by_cases h7 : p.1 = 7
  · rw [if_pos h7, if_pos h7]; exact ⟨n, rfl⟩
  rw [if_neg h7, if_neg h7]
  by_cases h8 : p.1 = 8
  · rw [if_pos h8, if_pos h8]; exact ⟨n, rfl⟩
  rw [if_neg h8, if_neg h8]; exact ⟨n, rfl⟩
theorem ne_mach (W : Nat) (x : ByteArray) : ∀ (l : List Pc) (s : St) (n : Nat), (∀ p ∈ l, isB p.1 = false) → (mach W (l ++ [((6, x) : Pc)]) { s with n := n }).o = (mach W l s).o
  | [], s, n, _ => rfl
  | p :: l, s, n, h => by
    obtain ⟨n', e⟩ := ne_step (q := s.fl || fitB W 0 l s.c) (p := p) (s := s) n (h p (List.mem_cons_self ..))
    show (mach W (l ++ [((6, x) : Pc)]) (step W p (l ++ [((6, x) : Pc)]) { s with n := n })).o = (mach W l (step W p l s)).o
    have e2 : step W p (l ++ [((6, x) : Pc)]) { s with n := n } = { step W p l s with n := n' } := by
      unfold step
      rw [fitB_ne]
      exact e
    rw [e2]
    exact ne_mach W x l _ n' fun q hq => h q (List.mem_cons_of_mem _ hq)
theorem lay_nest (W : Nat) {l : List Pc} (h : ∀ p ∈ l, isB p.1 = false) : layS W l = layS W (((5, emp) : Pc) :: (l ++ [((6, emp) : Pc)])) := by
  unfold layS
  show _ = (mach W (l ++ [((6, emp) : Pc)]) (step W (5, emp) (l ++ [((6, emp) : Pc)]) St0)).o
  have s1 : step W (5, emp) (l ++ [((6, emp) : Pc)]) St0 = { St0 with n := 1 } := rfl
  rw [s1, ne_mach W emp l St0 1 h]
end Go.Proofs.Ytpankfbdlakmcaa.Doc
