/-
  Layer 5 (tree): of, one, many, row.
-/
import Derived.Test.YtoecimgmghlfpaaDoorTreeClo
namespace Go.Proofs.YtoecimgmghlfpaaDoor.Tree
open Go.ChangeShapes Go.WideShapes Go.ChangeAt Go.RowKit Mem
set_option linter.unusedVariables false

theorem _root_.Go.Below.drewN' {B : Nat} {a w : World} (h : Below B a w) (n : Nat) : Below B a (w.drewN n) := ⟨h.os, h.tape, h.output, h.size, h.block⟩
theorem drewNb {B : Nat} {a w : World} (h : Below B a w) (n : Nat) : Below B a (w.drewN n) := ⟨h.os, h.tape, h.output, h.size, h.block⟩
theorem below1 (w : World) (o : Obj) : Below w.heap.size w (w.alloc o) := (Below.refl _ _).alloc (Nat.le_refl _) _

set_option maxHeartbeats 2000000 in
theorem of1_any (l : List Int) (cb g n C : Nat) (k : Int) (x y : ByteArray) (A : Option Addr) (m c : Nat) (w : World) (hl : l.length = n) (hn : n ≤ 1000000) (hcl : cb < w.heap.size)
    (hcb : w.cell? ⟨cb, 0, none⟩ = some (.slice (some ⟨g, 0, none⟩) n C)) (hg : g < w.heap.size) (hc : ∀ i u, l[i]? = some u → w.cell? ⟨g, i, none⟩ = some (.int .i64 u)) :
    Calls Tryd.prog 55 #[.agg #[.int .i64 k, .string x, .string y, .slice A m c], .pointer (some ⟨cb, 0, none⟩)] w fun e W' => e = .returned (.bool (isOf l k x)) ∧ Below w.heap.size w W' := by
  have HC := Lib.hid (fun (W : World) (hb : Below w.heap.size w W) => containsI k g n C l W hl hn (fun i u hu => (hb.cell (p := ⟨g, i, none⟩) hg).trans (hc i u hu)))
  have e : isOf l k x = l.any (fun u => k == u) := rfl
  rw [e]
  generalize l.any (fun u => k == u) = bb at *
  clear hl hc hg e
  go_enter Tryd.func55, Tryd.ntmps55
  go_wp2_with fail
  refine (HC.out _ (below1 _ _)).mono ?_
  rintro e w' ⟨rfl, rfl⟩
  go_wp2
  go_ret
  exact ⟨rfl, below1 _ _⟩

theorem enteredOf : Entered 55 := fun args w => by simp [go_sem]

theorem of_any (l : List Int) (g n : Nat) (w : World) (hl : l.length = n) (hn : n ≤ 1000000) (hg : g < w.heap.size) (hc : ∀ i u, l[i]? = some u → w.cell? ⟨g, i, none⟩ = some (.int .i64 u)) :
    Calls Tryd.prog 41 #[.slice (some ⟨g, 0, none⟩) n n] w fun e w' => Below w.heap.size w w' ∧ ∃ v, e = .returned v ∧ TestOk w' v (isOf l) := by
  have HF : Hid (TestOk (w.alloc (.cells #[.slice (some ⟨g, 0, none⟩) n n] 72)) (.func (.func 55) #[] #[.pointer (some ⟨w.heap.size, 0, none⟩)]) (isOf l)) := by
    refine ⟨_, _, rfl, enteredOf, fun W hW k x y A m c => of1_any l w.heap.size g n n k x y A m c W hl hn ?_ ?_ ?_ ?_⟩
    · have := hW.size; simp at this; omega
    · exact (hW.cell (p := ⟨w.heap.size, 0, none⟩) (by simp)).trans (by rw [World.cell?_alloc_at _ _ _ _ rfl]; rfl)
    · have := hW.size; simp at this; omega
    · intro i u hu
      refine (hW.cell (p := ⟨g, i, none⟩) (by simp; omega)).trans ?_
      rw [World.cell?_alloc_lt _ _ _ hg]; exact hc i u hu
  clear hl hc hg
  go_enter Tryd.func41, Tryd.ntmps41
  go_wp2
  go_ret
  exact ⟨below1 _ _, _, rfl, HF.out⟩

/-- The function value v takes the part pt of Kids, now and later. -/
def TakePost (pt : Pt) (f : F) (w : World) (e : Ending) (w' : World) : Prop :=
  Below w.heap.size w w' ∧ ((pt.take f = none ∧ ∃ v, e = .returned (.tuple #[v, .bool false])) ∨ (∃ g A n C, pt.take f = some g ∧ e = .returned (.tuple #[.slice A n C, .bool true]) ∧ Fs w (Lo w.heap.size) (.slice A n C) g))
def PartOk (w : World) (v : Value) (pt : Pt) : Prop :=
  ∃ gf c, v = .func (.func gf) #[] #[.pointer (some ⟨c, 0, none⟩)] ∧ Entered gf ∧ ∀ W, Below w.heap.size w W → ∀ A n C f, Fs W (Lo W.heap.size) (.slice A n C) f → Calls Tryd.prog gf #[.slice A n C, .pointer (some ⟨c, 0, none⟩)] W (TakePost pt f W)
theorem PartOk.later {w w' : World} {v : Value} {pt : Pt} (h : PartOk w v pt) (hb : Below w.heap.size w w') : PartOk w' v pt := by
  obtain ⟨gf, c, e, he, hc⟩ := h
  exact ⟨gf, c, e, he, fun W hW => hc W (hb.trans (hW.mono hb.size))⟩

theorem Fs.tail {w : World} {S : Nat → Prop} {b off n C : Nat} {k : Int} {x y : ByteArray} {c r : F} (h : Fs w S (.slice (some ⟨b, off, none⟩) n C) (.cons k x y c r)) :
    1 ≤ n ∧ n ≤ C ∧ C ≤ 9223372036854775807 ∧ r.len = n - 1 ∧ ∀ A', (n - 1 = 0 ∨ A' = some ⟨b, off + 4, none⟩) → Fs w S (.slice A' (n - 1) (C - 1)) r := by
  obtain ⟨b', off', n', C', s, e, h1, h2, h3, _, _, _, _, _, _, hr⟩ := h
  injection e with e1 e2 e3
  injection e1 with e1
  injection e1 with e4 e5
  subst e4; subst e5; subst e2; subst e3
  refine ⟨by omega, by omega, h3, by simpa using h1, fun A' hA => ?_⟩
  simp only [Nat.add_sub_cancel] at hA ⊢
  refine hr A' ?_
  rcases hA with hA | hA
  · exact .inl (F.len_zero (by omega))
  · exact .inr hA
/-- kids[1:]. -/
theorem tail_slice (b off n C : Nat) (hn : 1 ≤ n) (hC : n ≤ C) : ∃ A' n' C', (∀ W, (Instr.slice 22 (.slice (some ⟨b, off, none⟩) n C) (some (.int .i64 1)) none none).run Tryd.prog W = .ok (.slice A' n' C') W) ∧ n' = n - 1 ∧ C' = C - 1 ∧ (n - 1 = 0 ∨ A' = some ⟨b, off + 4, none⟩) := by
  have h2 : (1 : Int) ≤ (n : Int) := by omega
  refine ⟨if C = 1 then some ⟨b, off, none⟩ else some ⟨b, off + 4, none⟩, n - 1, C - 1, fun W => ?_, rfl, rfl, ?_⟩
  · rw [run_slice_l (P := Tryd.prog) W 22 _ n C (by kernel_rfl) .i64 1 (by omega) h2]
    have hs : (sizeOf (Tryd.prog.elem 22)).run Tryd.prog W = .ok 4 W := by kernel_rfl
    rw [hs]
    simp only [Result.andThen_ok, sliced, Addr.add]
    by_cases hc : C = 1 <;> simp [hc]
  · by_cases hc : C = 1
    · left; omega
    · right; rw [if_neg hc]

theorem lt_new {w W : World} {o : Obj} (h : (World.drew (w.alloc o)).heap.size ≤ W.heap.size) : w.heap.size < W.heap.size := by
  have e : (World.drew (w.alloc o)).heap.size = w.heap.size + 1 := by show (w.alloc o).heap.size = _; simp
  omega

theorem hid_mono {p q : Prop} (h : p → q) (hp : Hid p) : Hid q := h hp

set_option maxRecDepth 100000 in
set_option maxHeartbeats 4000000 in
theorem one1_any (ps : List (Int → ByteArray → Bool)) (cb g n0 : Nat) (A : Option Addr) (n C : Nat) (f : F) (w : World) (hf : Fs w (Lo w.heap.size) (.slice A n C) f) (hl : ps.length = n0) (hn : n0 ≤ 1000000)
    (hcb : w.cell? ⟨cb, 0, none⟩ = some (.slice (some ⟨g, 0, none⟩) n0 n0)) (hcl : cb < w.heap.size) (hg : g < w.heap.size) (hts : ∀ i p, ps[i]? = some p → ∃ v, w.cell? ⟨g, i, none⟩ = some v ∧ TestOk w v p) :
    Calls Tryd.prog 58 #[.slice A n C, .pointer (some ⟨cb, 0, none⟩)] w (TakePost (.one ps) f w) := by
  cases hfe : f with
  | nil =>
    obtain ⟨A', C', e, _, _⟩ := hf.slice
    injection e with e1 e2 e3
    subst e1; subst e3
    rw [hfe] at e2
    simp only [F.len] at e2
    subst e2
    clear hf hts hcb hg hfe
    go_enter Tryd.func58, Tryd.ntmps58
    go_wp2
    go_ret2
    exact ⟨below1 _ _, .inl ⟨rfl, _, rfl⟩⟩
  | cons k x y c r =>
    rw [hfe] at hf
    obtain ⟨b, off, s, rfl, hb, hi, hat⟩ := hf.at_ (i := 0) rfl
    obtain ⟨As, Cs, rfl, _, _⟩ := hat.kids.slice
    have c0 := hat.c0; have c1 := hat.c1; have c2 := hat.c2; have c3 := hat.c3
    simp only [Nat.zero_mul, Nat.add_zero] at c0 c1 c2 c3
    obtain ⟨h1n, hnC, hCm, hrl, hr⟩ := hf.tail
    obtain ⟨A', n', C', hsl, en, eC, hA'⟩ := tail_slice b off n C h1n hnC
    have hr2 := hr A' hA'
    rw [← en, ← eC] at hr2
    have hcw : ∀ W, Below w.heap.size w W → W.cell? ⟨cb, 0, none⟩ = some (.slice (some ⟨g, 0, none⟩) n0 n0) := fun W hW => (hW.cell (p := ⟨cb, 0, none⟩) hcl).trans hcb
    have HK := Lib.hid (fun (W : World) (hW : Below w.heap.size w W) (cb2 : Nat) (hc2 : cb2 < W.heap.size) (hk2 : W.cell? ⟨cb2, 0, none⟩ = some (.slice (some ⟨b, off, none⟩) n C)) =>
      containsF_any ps g n0 n0 cb2 b off n C k x y As c.len Cs W (by have := hW.size; omega) hl hn (fun i p hp => by
        obtain ⟨v, hv, ht⟩ := hts i p hp
        exact ⟨v, (hW.cell (p := ⟨g, i, none⟩) hg).trans hv, ht.later hW⟩) hc2 (by have := hW.size; have : b < w.heap.size := hb; omega) hk2 (by omega)
        ((hW.cell (p := ⟨b, off, none⟩) hb).trans c0) ((hW.cell (p := ⟨b, off + 1, none⟩) hb).trans c1) ((hW.cell (p := ⟨b, off + 2, none⟩) hb).trans c2) ((hW.cell (p := ⟨b, off + 3, none⟩) hb).trans c3))
    have HR := Lib.hid hr2
    have hpt : Pt.take (.one ps) (.cons k x y c r) = if ps.any (fun p => p k x) then some r else none := rfl
    have HPT := Lib.hid hpt
    generalize ps.any (fun p => p k x) = bb at *
    have hb1 := below1 w (.cells #[.slice (some ⟨b, off, none⟩) n C] 22)
    have hcc := hcw _ hb1
    have hn0 : ((n : Int) == 0) = false := kno (by omega)
    have HCW := Lib.hid hcw
    have HB1 := Lib.hid hb1
    have HC2 : Hid (∀ W, Below (w.alloc (.cells #[.slice (some ⟨b, off, none⟩) n C] 22)).heap.size (w.alloc (.cells #[.slice (some ⟨b, off, none⟩) n C] 22)) W → W.cell? ⟨w.heap.size, 0, none⟩ = some (.slice (some ⟨b, off, none⟩) n C)) := fun W hW =>
      (hW.cell (p := ⟨w.heap.size, 0, none⟩) (by simp)).trans (by rw [World.cell?_alloc_at _ _ _ _ rfl]; rfl)
    have HQ := Lib.hid (fun (W : World) (hW : Below (w.alloc (.cells #[.slice (some ⟨b, off, none⟩) n C] 22)).heap.size (w.alloc (.cells #[.slice (some ⟨b, off, none⟩) n C] 22)) W) =>
      HK.out W (hb1.trans (hW.mono hb1.size)) w.heap.size (lt_new (o := .cells #[.slice (some ⟨b, off, none⟩) n C] 22) hW.size) (HC2.out W hW))
    clear hf hts hg hfe hat c0 c1 c2 c3 hr hr2 hpt hcw hb1 hb hi hrl en eC hA' HK hcb
    go_enter Tryd.func58, Tryd.ntmps58
    go_wp2
    refine region_rel (fun W W' => Below W.heap.size W W') [Cd.is (Value.slice (some ⟨b, off, none⟩) n C), Cd.is (Value.slice A' n' C'), Cd.is (Value.slice (some ⟨g, 0, none⟩) n0 n0), Cd.is (Value.func (.func 59) #[] #[.pointer (some ⟨w.heap.size, 0, none⟩)]), Cd.is (Value.bool bb), Cd.is (Value.slice A' n' C'), Cd.is (Value.bool bb)] (by kernel_rfl) (by decide) (by kernel_rfl) (Below.refl _ _) (fun _ _ _ h k => h.trans (k.mono h.size)) ?steps ?behind
    case steps =>
      intro xv W hW a ha
      replace hW := undrew hW
      simp only [fillA] at ha
      simp only [List.setIfInBounds_toArray, List.set_cons_succ, List.set_cons_zero, Nat.zero_add, Nat.reduceAdd] at ha
      subst ha
      refine ⟨fun hd K hK => ?s0, fun hd K hK => ?s1, fun hd K hK => ?s2, fun hd K hK => ?s3, fun hd K hK => ?s4, fun hd K hK => ?s5, fun hd K hK => ?s6, trivial⟩
      case s0 =>
        clear hd
        simp only [Act.put, List.setIfInBounds_toArray, List.set_cons_succ, List.set_cons_zero] at hK
        refine (if_pos (by rfl)).mpr ?_
        have hcell := HC2.out W hW
        go_simp
        exact hK.out _ _ (Below.refl _ _) rfl
      case s1 =>
        have hx0 : xv 0 = Value.slice (some ⟨b, off, none⟩) n C := hd 0 (by kernel_rfl)
        clear hd
        simp only [Act.put, List.setIfInBounds_toArray, List.set_cons_succ, List.set_cons_zero] at hK
        rw [hx0] at hK ⊢
        refine (if_pos (by rfl)).mpr ?_
        go_simp
        exact hK.out _ _ (Below.refl _ _) rfl
      case s2 =>
        clear hd
        simp only [Act.put, List.setIfInBounds_toArray, List.set_cons_succ, List.set_cons_zero] at hK
        refine (if_pos (by rfl)).mpr ?_
        have hcell := HCW.out W (HB1.out.trans (hW.mono HB1.out.size))
        go_simp
        exact hK.out _ _ (Below.refl _ _) rfl
      case s3 =>
        clear hd
        simp only [Act.put, List.setIfInBounds_toArray, List.set_cons_succ, List.set_cons_zero] at hK
        refine (if_pos (by rfl)).mpr ?_
        go_simp
        exact hK.out _ _ (Below.refl _ _) rfl
      case s4 =>
        have hx2 : xv 2 = Value.slice (some ⟨g, 0, none⟩) n0 n0 := hd 2 (by kernel_rfl)
        have hx3 : xv 3 = Value.func (.func 59) #[] #[.pointer (some ⟨w.heap.size, 0, none⟩)] := hd 3 (by kernel_rfl)
        clear hd
        simp only [Act.put, List.setIfInBounds_toArray, List.set_cons_succ, List.set_cons_zero] at hK
        rw [hx2] at hK ⊢
        rw [hx3] at hK ⊢
        refine (if_pos (by rfl)).mpr ?_
        go_simp
        refine (HQ.out W hW).mono ?_
        rintro e w' ⟨rfl, hb⟩
        exact hK.out _ _ hb rfl
      case s5 =>
        have hx1 : xv 1 = Value.slice A' n' C' := hd 1 (by kernel_rfl)
        clear hd
        simp only [Act.put, List.setIfInBounds_toArray, List.set_cons_succ, List.set_cons_zero] at hK
        rw [hx1] at hK ⊢
        refine (if_pos (by rfl)).mpr ?_
        go_simp
        exact hK.out _ _ (Below.refl _ _) rfl
      case s6 =>
        have hx4 : xv 4 = Value.bool bb := hd 4 (by kernel_rfl)
        clear hd
        simp only [Act.put, List.setIfInBounds_toArray, List.set_cons_succ, List.set_cons_zero] at hK
        rw [hx4] at hK ⊢
        refine (if_pos (by rfl)).mpr ?_
        go_simp
        exact hK.out _ _ (Below.refl _ _) rfl
    case behind =>
      intro xv W hW hx a ha
      replace hW := undrew hW
      simp only [fillA] at ha
      simp only [List.setIfInBounds_toArray, List.set_cons_succ, List.set_cons_zero, Nat.zero_add, Nat.reduceAdd] at ha
      subst ha
      have h5 : xv 5 = Value.slice A' n' C' := hx 5 (by decide)
      have h6 : xv 6 = Value.bool bb := hx 6 (by decide)
      rw [h5, h6]
      go_wp2
      go_ret2
      refine ⟨HB1.out.trans (hW.mono HB1.out.size), ?_⟩
      cases bb with
      | true => exact .inr ⟨r, A', n', C', HPT.out, rfl, HR.out⟩
      | false => exact .inl ⟨HPT.out, _, rfl⟩

theorem enteredOne : Entered 58 := fun args w => by simp [go_sem]
theorem one_any (ps : List (Int → ByteArray → Bool)) (g n0 : Nat) (w : World) (hl : ps.length = n0) (hn : n0 ≤ 1000000) (hg : g < w.heap.size) (hts : ∀ i p, ps[i]? = some p → ∃ v, w.cell? ⟨g, i, none⟩ = some v ∧ TestOk w v p) :
    Calls Tryd.prog 44 #[.slice (some ⟨g, 0, none⟩) n0 n0] w fun e w' => Below w.heap.size w w' ∧ ∃ v, e = .returned v ∧ PartOk w' v (.one ps) := by
  have hb1 := below1 w (.cells #[.slice (some ⟨g, 0, none⟩) n0 n0] 76)
  have HF : Hid (PartOk (w.alloc (.cells #[.slice (some ⟨g, 0, none⟩) n0 n0] 76)) (.func (.func 58) #[] #[.pointer (some ⟨w.heap.size, 0, none⟩)]) (.one ps)) := by
    refine ⟨_, _, rfl, enteredOne, fun W hW A n C f hf => one1_any ps w.heap.size g n0 A n C f W hf hl hn ?_ ?_ ?_ ?_⟩
    · exact (hW.cell (p := ⟨w.heap.size, 0, none⟩) (by simp)).trans (by rw [World.cell?_alloc_at _ _ _ _ rfl]; rfl)
    · have := hW.size; simp at this; omega
    · have := hW.size; simp at this; omega
    · intro i p hp
      obtain ⟨v, hv, ht⟩ := hts i p hp
      have hb2 := hb1.trans (hW.mono hb1.size)
      exact ⟨v, (hb2.cell (p := ⟨g, i, none⟩) hg).trans hv, ht.later hb2⟩
  have HB := Lib.hid hb1
  clear hl hts hg hb1
  go_enter Tryd.func44, Tryd.ntmps44
  go_wp2
  go_ret
  exact ⟨HB.out, _, rfl, HF.out⟩

/-- How far many has come. -/
def ManyAt (w wr : World) (p : Int → ByteArray → Bool) (f : F) (A : Option Addr) (n C : Nat) (g : F) : Prop := Fs w (Lo w.heap.size) (.slice A n C) g ∧ dropM p g = dropM p f
def slLen : Value → Nat
  | .slice _ n _ => n
  | _ => 0

set_option maxRecDepth 100000 in
set_option maxHeartbeats 4000000 in
theorem many1_any (p : Int → ByteArray → Bool) (cb : Nat) (vt : Value) (A : Option Addr) (n C : Nat) (f : F) (w : World) (hf : Fs w (Lo w.heap.size) (.slice A n C) f) (hcb : w.cell? ⟨cb, 0, none⟩ = some vt) (hcl : cb < w.heap.size) (ht : TestOk w vt p) :
    Calls Tryd.prog 57 #[.slice A n C, .pointer (some ⟨cb, 0, none⟩)] w (TakePost (.many p) f w) := by
  obtain ⟨gf, caps, rfl, eg, hc⟩ := ht
  have HT := Lib.hid hc
  have HC := Lib.hid (fun (W : World) (hW : Below w.heap.size w W) => (hW.cell (p := ⟨cb, 0, none⟩) hcl).trans hcb)
  have HF : Hid (ManyAt w w p f A n C f) := ⟨hf, rfl⟩
  unfold Entered at eg
  clear hf hcb hcl hc
  go_enter Tryd.func57, Tryd.ntmps57
  go_wp2
  go_loopw [0] (fun s0 wr => ∃ A n C g, s0 = .slice A n C ∧ Hid (ManyAt w wr p f A n C g) ∧ Hid (Below w.heap.size w wr)) (fun s0 _ => slLen s0)
  case atStart => exact ⟨A, n, C, f, rfl, HF.out, Below.refl _ _⟩
  case round =>
    obtain ⟨A, n, C, g, rfl, HM, HB⟩ := hrel
    cases hg : g with
    | nil =>
      rw [hg] at HM
      obtain ⟨A0, C0, e, _, _⟩ := HM.out.1.slice
      injection e with e1 e2 e3
      subst e1; subst e3
      simp only [F.len] at e2
      subst e2
      have HE : Hid (Fs w (Lo w.heap.size) (.slice A 0 C) (dropM p f)) := by
        have := HM.out.1
        rw [← HM.out.2]; exact this
      clear HM hg
      go_wp2
      go_quiet (fail)
      go_wp2
      go_ret2
      exact ⟨drewNb HB.out _, .inr ⟨_, _, _, _, rfl, rfl, HE.out⟩⟩
    | cons k x y c r =>
      rw [hg] at HM
      obtain ⟨b, off, s, rfl, hb0, hi, hat⟩ := HM.out.1.at_ (i := 0) rfl
      obtain ⟨As, Cs, rfl, _, _⟩ := hat.kids.slice
      have hb : b < wr.heap.size := Nat.lt_of_lt_of_le hb0 HB.out.size
      have cc : ∀ o, wr.cell? ⟨b, o, none⟩ = w.cell? ⟨b, o, none⟩ := fun o => HB.out.cell (p := ⟨b, o, none⟩) hb0
      have c0 := hat.c0; have c1 := hat.c1; have c2 := hat.c2; have c3 := hat.c3
      simp only [Nat.zero_mul, Nat.add_zero, ← cc] at c0 c1 c2 c3
      obtain ⟨h1n, hnC, hCm, hrl, hr⟩ := HM.out.1.tail
      obtain ⟨A', n', C', hsl, en, eC, hA'⟩ := tail_slice b off n C h1n hnC
      have hr2 := hr A' hA'
      rw [← en, ← eC] at hr2
      have HQ := Lib.hid (fun (W : World) (hW : Below wr.heap.size wr W) => HT.out W (HB.out.trans (hW.mono HB.out.size)) k x y As c.len Cs)
      have hlt : n' < n := by omega
      have hn0 : (0 : Int) < (n : Int) := by omega
      have hn1 : (1 : Int) ≤ (n : Int) := by omega
      have hdrop : dropM p (.cons k x y c r) = if p k x then dropM p r else .cons k x y c r := rfl
      cases hp : p k x with
      | true =>
        have HM2 : Hid (∀ W, Below wr.heap.size wr W → ManyAt w W p f A' n' C' r) := fun W hW => ⟨hr2, by rw [← HM.out.2, hdrop, hp]; rfl⟩
        rw [hp] at HQ
        clear HM hg hat cc hr hr2 hdrop hp hA' eC en
        go_wp2
        refine region_rel (fun W W' => Below W.heap.size W W') [Cd.is (Value.slice (some ⟨b, off, none⟩) n C), Cd.is (Value.int .i64 (n : Int)), Cd.is (Value.bool true), Cd.is (Value.bool true), Cd.is (Value.func (.func gf) #[] caps), Cd.is (Value.slice (some ⟨b, off, none⟩) n C), Cd.is (Value.pointer (some ⟨b, off, none⟩)), Cd.is (Value.agg #[.int .i64 k, .string x, .string y, .slice As c.len Cs]), Cd.is (Value.bool true), Cd.is (Value.bool true)] (by kernel_rfl) (by decide) (by kernel_rfl) (Below.refl _ _) (fun _ _ _ h k => h.trans (k.mono h.size)) ?steps ?behind
        case steps =>
          intro xv W hW a ha
          replace hW := undrew hW
          simp only [fillA] at ha
          simp only [List.setIfInBounds_toArray, List.set_cons_succ, List.set_cons_zero, Nat.zero_add, Nat.reduceAdd] at ha
          subst ha
          refine ⟨fun hd K hK => ?s0, fun hd K hK => ?s1, fun hd K hK => ?s2, fun hd K hK => ?s3, fun hd K hK => ?s4, fun hd K hK => ?s5, fun hd K hK => ?s6, fun hd K hK => ?s7, fun hd K hK => ?s8, fun hd K hK => ?s9, trivial⟩
          case s0 =>
            clear hd
            simp only [Act.put, List.setIfInBounds_toArray, List.set_cons_succ, List.set_cons_zero] at hK
            refine (if_pos (by rfl)).mpr ?_
            go_simp
            exact hK.out _ _ (Below.refl _ _) rfl
          case s1 =>
            have hx0 : xv 0 = Value.slice (some ⟨b, off, none⟩) n C := hd 0 (by kernel_rfl)
            clear hd
            simp only [Act.put, List.setIfInBounds_toArray, List.set_cons_succ, List.set_cons_zero] at hK
            rw [hx0] at hK ⊢
            refine (if_pos (by rfl)).mpr ?_
            go_simp
            exact hK.out _ _ (Below.refl _ _) rfl
          case s2 =>
            have hx1 : xv 1 = Value.int .i64 (n : Int) := hd 1 (by kernel_rfl)
            clear hd
            simp only [Act.put, List.setIfInBounds_toArray, List.set_cons_succ, List.set_cons_zero] at hK
            rw [hx1] at hK ⊢
            refine (if_pos (by rfl)).mpr ?_
            go_simp
            exact hK.out _ _ (Below.refl _ _) rfl
          case s3 =>
            have hx2 : xv 2 = Value.bool true := hd 2 (by kernel_rfl)
            clear hd
            simp only [Act.put, List.setIfInBounds_toArray, List.set_cons_succ, List.set_cons_zero] at hK
            rw [hx2] at hK ⊢
            refine (if_pos (by rfl)).mpr ?_
            go_simp
            exact hK.out _ _ (Below.refl _ _) rfl
          case s4 =>
            have hx3 : xv 3 = Value.bool true := hd 3 (by kernel_rfl)
            clear hd
            simp only [Act.put, List.setIfInBounds_toArray, List.set_cons_succ, List.set_cons_zero] at hK
            rw [hx3] at hK ⊢
            refine (if_pos (by rfl)).mpr ?_
            have hcell := HC.out W (HB.out.trans (hW.mono HB.out.size))
            go_simp
            exact hK.out _ _ (Below.refl _ _) rfl
          case s5 =>
            have hx3 : xv 3 = Value.bool true := hd 3 (by kernel_rfl)
            clear hd
            simp only [Act.put, List.setIfInBounds_toArray, List.set_cons_succ, List.set_cons_zero] at hK
            rw [hx3] at hK ⊢
            refine (if_pos (by rfl)).mpr ?_
            go_simp
            exact hK.out _ _ (Below.refl _ _) rfl
          case s6 =>
            have hx3 : xv 3 = Value.bool true := hd 3 (by kernel_rfl)
            have hx5 : xv 5 = Value.slice (some ⟨b, off, none⟩) n C := hd 5 (by kernel_rfl)
            clear hd
            simp only [Act.put, List.setIfInBounds_toArray, List.set_cons_succ, List.set_cons_zero] at hK
            rw [hx3] at hK ⊢
            rw [hx5] at hK ⊢
            refine (if_pos (by rfl)).mpr ?_
            go_simp
            exact hK.out _ _ (Below.refl _ _) rfl
          case s7 =>
            have hx3 : xv 3 = Value.bool true := hd 3 (by kernel_rfl)
            have hx6 : xv 6 = Value.pointer (some ⟨b, off, none⟩) := hd 6 (by kernel_rfl)
            clear hd
            simp only [Act.put, List.setIfInBounds_toArray, List.set_cons_succ, List.set_cons_zero] at hK
            rw [hx3] at hK ⊢
            rw [hx6] at hK ⊢
            refine (if_pos (by rfl)).mpr ?_
            have hc0 := (hW.cell (p := ⟨b, off, none⟩) hb).trans c0; have hc1 := (hW.cell (p := ⟨b, off + 1, none⟩) hb).trans c1; have hc2 := (hW.cell (p := ⟨b, off + 2, none⟩) hb).trans c2; have hc3 := (hW.cell (p := ⟨b, off + 3, none⟩) hb).trans c3
            go_simp
            exact hK.out _ _ (Below.refl _ _) rfl
          case s8 =>
            have hx3 : xv 3 = Value.bool true := hd 3 (by kernel_rfl)
            have hx4 : xv 4 = Value.func (.func gf) #[] caps := hd 4 (by kernel_rfl)
            have hx7 : xv 7 = Value.agg #[.int .i64 k, .string x, .string y, .slice As c.len Cs] := hd 7 (by kernel_rfl)
            clear hd
            simp only [Act.put, List.setIfInBounds_toArray, List.set_cons_succ, List.set_cons_zero] at hK
            rw [hx3] at hK ⊢
            rw [hx4] at hK ⊢
            rw [hx7] at hK ⊢
            refine (if_pos (by rfl)).mpr ?_
            go_simp
            go_at_fn gf
            refine (HQ.out W hW).mono ?_
            rintro e w' ⟨rfl, hbw⟩
            exact hK.out _ _ hbw rfl
          case s9 =>
            have hx3 : xv 3 = Value.bool true := hd 3 (by kernel_rfl)
            have hx8 : xv 8 = Value.bool true := hd 8 (by kernel_rfl)
            clear hd
            simp only [Act.put, List.setIfInBounds_toArray, List.set_cons_succ, List.set_cons_zero] at hK
            rw [hx3] at hK ⊢
            rw [hx8] at hK ⊢
            refine (if_pos (by rfl)).mpr ?_
            go_simp
            exact hK.out _ _ (Below.refl _ _) rfl
        case behind =>
          intro xv W hW hx a ha
          replace hW := undrew hW
          simp only [fillA] at ha
          simp only [List.setIfInBounds_toArray, List.set_cons_succ, List.set_cons_zero, Nat.zero_add, Nat.reduceAdd] at ha
          subst ha
          have h9 : xv 9 = Value.bool true := hx 9 (by decide)
          rw [h9]
          have HW := Lib.hid (HB.out.trans (hW.mono HB.out.size))
          have HG := Lib.hid (HM2.out W hW)
          clear hW hx h9 HQ HM2 HB
          go_wp2
          go_roundw
          case rel => exact ⟨A', n', C', r, rfl, HG.out, HW.out⟩
          case measure => simp [slLen]; omega
      | false =>
        have HE : Hid (Fs w (Lo w.heap.size) (.slice (some ⟨b, off, none⟩) n C) (dropM p f)) := by
          rw [← HM.out.2, hdrop, hp]; exact HM.out.1
        rw [hp] at HQ
        clear HM hg hat cc hr hr2 hdrop hp hA' eC en
        go_wp2
        refine region_rel (fun W W' => Below W.heap.size W W') [Cd.is (Value.slice (some ⟨b, off, none⟩) n C), Cd.is (Value.int .i64 (n : Int)), Cd.is (Value.bool true), Cd.is (Value.bool true), Cd.is (Value.func (.func gf) #[] caps), Cd.is (Value.slice (some ⟨b, off, none⟩) n C), Cd.is (Value.pointer (some ⟨b, off, none⟩)), Cd.is (Value.agg #[.int .i64 k, .string x, .string y, .slice As c.len Cs]), Cd.is (Value.bool false), Cd.is (Value.bool false)] (by kernel_rfl) (by decide) (by kernel_rfl) (Below.refl _ _) (fun _ _ _ h k => h.trans (k.mono h.size)) ?steps ?behind
        case steps =>
          intro xv W hW a ha
          replace hW := undrew hW
          simp only [fillA] at ha
          simp only [List.setIfInBounds_toArray, List.set_cons_succ, List.set_cons_zero, Nat.zero_add, Nat.reduceAdd] at ha
          subst ha
          refine ⟨fun hd K hK => ?s0, fun hd K hK => ?s1, fun hd K hK => ?s2, fun hd K hK => ?s3, fun hd K hK => ?s4, fun hd K hK => ?s5, fun hd K hK => ?s6, fun hd K hK => ?s7, fun hd K hK => ?s8, fun hd K hK => ?s9, trivial⟩
          case s0 =>
            clear hd
            simp only [Act.put, List.setIfInBounds_toArray, List.set_cons_succ, List.set_cons_zero] at hK
            refine (if_pos (by rfl)).mpr ?_
            go_simp
            exact hK.out _ _ (Below.refl _ _) rfl
          case s1 =>
            have hx0 : xv 0 = Value.slice (some ⟨b, off, none⟩) n C := hd 0 (by kernel_rfl)
            clear hd
            simp only [Act.put, List.setIfInBounds_toArray, List.set_cons_succ, List.set_cons_zero] at hK
            rw [hx0] at hK ⊢
            refine (if_pos (by rfl)).mpr ?_
            go_simp
            exact hK.out _ _ (Below.refl _ _) rfl
          case s2 =>
            have hx1 : xv 1 = Value.int .i64 (n : Int) := hd 1 (by kernel_rfl)
            clear hd
            simp only [Act.put, List.setIfInBounds_toArray, List.set_cons_succ, List.set_cons_zero] at hK
            rw [hx1] at hK ⊢
            refine (if_pos (by rfl)).mpr ?_
            go_simp
            exact hK.out _ _ (Below.refl _ _) rfl
          case s3 =>
            have hx2 : xv 2 = Value.bool true := hd 2 (by kernel_rfl)
            clear hd
            simp only [Act.put, List.setIfInBounds_toArray, List.set_cons_succ, List.set_cons_zero] at hK
            rw [hx2] at hK ⊢
            refine (if_pos (by rfl)).mpr ?_
            go_simp
            exact hK.out _ _ (Below.refl _ _) rfl
          case s4 =>
            have hx3 : xv 3 = Value.bool true := hd 3 (by kernel_rfl)
            clear hd
            simp only [Act.put, List.setIfInBounds_toArray, List.set_cons_succ, List.set_cons_zero] at hK
            rw [hx3] at hK ⊢
            refine (if_pos (by rfl)).mpr ?_
            have hcell := HC.out W (HB.out.trans (hW.mono HB.out.size))
            go_simp
            exact hK.out _ _ (Below.refl _ _) rfl
          case s5 =>
            have hx3 : xv 3 = Value.bool true := hd 3 (by kernel_rfl)
            clear hd
            simp only [Act.put, List.setIfInBounds_toArray, List.set_cons_succ, List.set_cons_zero] at hK
            rw [hx3] at hK ⊢
            refine (if_pos (by rfl)).mpr ?_
            go_simp
            exact hK.out _ _ (Below.refl _ _) rfl
          case s6 =>
            have hx3 : xv 3 = Value.bool true := hd 3 (by kernel_rfl)
            have hx5 : xv 5 = Value.slice (some ⟨b, off, none⟩) n C := hd 5 (by kernel_rfl)
            clear hd
            simp only [Act.put, List.setIfInBounds_toArray, List.set_cons_succ, List.set_cons_zero] at hK
            rw [hx3] at hK ⊢
            rw [hx5] at hK ⊢
            refine (if_pos (by rfl)).mpr ?_
            go_simp
            exact hK.out _ _ (Below.refl _ _) rfl
          case s7 =>
            have hx3 : xv 3 = Value.bool true := hd 3 (by kernel_rfl)
            have hx6 : xv 6 = Value.pointer (some ⟨b, off, none⟩) := hd 6 (by kernel_rfl)
            clear hd
            simp only [Act.put, List.setIfInBounds_toArray, List.set_cons_succ, List.set_cons_zero] at hK
            rw [hx3] at hK ⊢
            rw [hx6] at hK ⊢
            refine (if_pos (by rfl)).mpr ?_
            have hc0 := (hW.cell (p := ⟨b, off, none⟩) hb).trans c0; have hc1 := (hW.cell (p := ⟨b, off + 1, none⟩) hb).trans c1; have hc2 := (hW.cell (p := ⟨b, off + 2, none⟩) hb).trans c2; have hc3 := (hW.cell (p := ⟨b, off + 3, none⟩) hb).trans c3
            go_simp
            exact hK.out _ _ (Below.refl _ _) rfl
          case s8 =>
            have hx3 : xv 3 = Value.bool true := hd 3 (by kernel_rfl)
            have hx4 : xv 4 = Value.func (.func gf) #[] caps := hd 4 (by kernel_rfl)
            have hx7 : xv 7 = Value.agg #[.int .i64 k, .string x, .string y, .slice As c.len Cs] := hd 7 (by kernel_rfl)
            clear hd
            simp only [Act.put, List.setIfInBounds_toArray, List.set_cons_succ, List.set_cons_zero] at hK
            rw [hx3] at hK ⊢
            rw [hx4] at hK ⊢
            rw [hx7] at hK ⊢
            refine (if_pos (by rfl)).mpr ?_
            go_simp
            go_at_fn gf
            refine (HQ.out W hW).mono ?_
            rintro e w' ⟨rfl, hbw⟩
            exact hK.out _ _ hbw rfl
          case s9 =>
            have hx3 : xv 3 = Value.bool true := hd 3 (by kernel_rfl)
            have hx8 : xv 8 = Value.bool false := hd 8 (by kernel_rfl)
            clear hd
            simp only [Act.put, List.setIfInBounds_toArray, List.set_cons_succ, List.set_cons_zero] at hK
            rw [hx3] at hK ⊢
            rw [hx8] at hK ⊢
            refine (if_pos (by rfl)).mpr ?_
            go_simp
            exact hK.out _ _ (Below.refl _ _) rfl
        case behind =>
          intro xv W hW hx a ha
          replace hW := undrew hW
          simp only [fillA] at ha
          simp only [List.setIfInBounds_toArray, List.set_cons_succ, List.set_cons_zero, Nat.zero_add, Nat.reduceAdd] at ha
          subst ha
          have h9 : xv 9 = Value.bool false := hx 9 (by decide)
          rw [h9]
          have HW := Lib.hid (HB.out.trans (hW.mono HB.out.size))
          clear hW hx h9 HQ
          go_wp2
          go_ret2
          exact ⟨HW.out, .inr ⟨_, _, _, _, rfl, rfl, HE.out⟩⟩
-- END MANY
end Go.Proofs.YtoecimgmghlfpaaDoor.Tree
