/-
  Layer 2 (line): Split and Starts, which range over the lines.
-/
import Derived.Test.YtccbbmkdmdllgaaLineIter
namespace Go.Proofs.Ytccbbmkdmdllgaa.Line
open Go.ChangeShapes Go.WideShapes Go.ChangeAt Go.RowKit Go.Shelf Mem
set_option linter.unusedVariables false

attribute [local go_sem] Oper.semAt_some

theorem not_cells_other {w : World} {row : Option Nat} (h : ∀ r, row = some r → ∃ o : Obj, w.heap[r]? = some o ∧ o.isCells = false) : Other w row := fun k hk cur e r hc => by
  obtain ⟨o, ho, hn⟩ := h k hk
  rw [hc] at ho; cases ho; cases hn

/-- Behind the making of a line of its own: what lay lies as it lay, and the new line owns the bytes x. -/
theorem made {W w1 w2 : World} {cs : Array Value} {x : List Int} {m : Nat} (hm : x.length = m) (h1 : w1 = W.alloc (.cells cs 5)) (h2 : w2.heap[W.heap.size]? = some (.cells (x.map (Value.int .u8)).toArray 5 (0, 0))) (hg : w1.grownBy w2 (some W.heap.size)) (hb : Byt x) (hx : x.length ≤ maxLen) {base : Nat} (hbase : base ≤ W.heap.size) :
    Below W.heap.size W w2 ∧ KeepsOthers W w2 ∧ W.heap.size < w2.heap.size ∧ LV w2 base (.slice (some ⟨W.heap.size, 0, none⟩) m m) x := by
  subst h1; subst hm
  have hs := hg.size
  rw [World.size_alloc] at hs
  refine ⟨((Below.refl _ _).alloc (Nat.le_refl _) _).grown hg (by simp) (fun k e => by injection e with e; omega), ?_, by omega, ⟨by simp, .inr ⟨W.heap.size, x.length, _, rfl, hbase, h2, Nat.le_refl _, hx, by simp, by rw [Nat.mul_one]; exact List.take_of_length_le (by simp)⟩⟩, hb⟩
  refine (KeepsOthers.alloc W _).trans (KeepsOthers.of_grownBy hg fun j o ej hj => ?_)
  injection ej with ej
  subst ej
  rw [World.alloc_heap_new] at hj
  cases hj; rfl

/-- Behind append and store: the variable's box holds the longer row. -/
theorem appended {W w1 : World} {base B Bs : Nat} {v v' line : Value} {L : List (List Int)} {x : List Int} {vs : List Value}
    (hv : Boxed W B 24 v) (hrow : W.ownsRow base 22 1 v vs.length vs) (hls : All2 (LV W base) vs L) (hline : LV W base line x) (hbase : base ≤ W.heap.size) (hB : base ≤ B) (hBs : Bs < W.heap.size) (hne : ∀ b, v.ownBlock = some b → b ≠ Bs) (hBB : B ≠ Bs)
    (hown' : w1.ownsRow base 22 1 v' (vs.length + 1) (vs ++ [line])) (hgrow : (W.alloc (.cells #[line] 22)).grownBy w1 v.ownBlock) (hat : v'.ownBlock = v.ownBlock ∨ v'.ownBlock = some (W.heap.size + 1)) :
    Boxed w1 B 24 v ∧ KeepsOthers W (w1.setCell ⟨B, 0, none⟩ v') ∧ Below base W (w1.setCell ⟨B, 0, none⟩ v') ∧ (w1.setCell ⟨B, 0, none⟩ v').heap[Bs]? = W.heap[Bs]? ∧
    Boxed (w1.setCell ⟨B, 0, none⟩ v') B 24 v' ∧ OwnLs (w1.setCell ⟨B, 0, none⟩ v') base v' (L ++ [x]) ∧ (∀ b, v'.ownBlock = some b → b ≠ Bs) := by
  obtain ⟨a1, a2, a3, a4, a5⟩ := hv.appended (by decide) hrow hbase hB hown' hgrow
  have hbox : ∀ {w' : World}, Boxed w' B 24 v → Other w' (some B) := fun hb k hk cur e r hc => by
    injection hk with hk; subst hk
    rw [show _ = _ from hb] at hc; cases hc
    exact ⟨by decide, by decide⟩
  have hl1 : ∀ {u : Value} {y : List Int}, LV W base u y → LV (w1.setCell ⟨B, 0, none⟩ v') base u y := fun h =>
    (LV.own (LV.below h ((Below.refl _ _).alloc (Nat.le_refl _) _) (Nat.le_refl _)) (hrow.alloc _) hgrow).other (grownBy_setCell' w1 B v') (hbox a1)
  have hlen : vs.length = L.length := hls.1
  refine ⟨a1, a4, a5, ?_, a2, ⟨vs ++ [line], ?_, (hls.mono fun _ _ h => hl1 h).snoc (hl1 hline)⟩, ?_⟩
  · rw [Below.heap_setCell _ _ _ _ (fun e => hBB e.symm), hgrow.block Bs (by simp; omega) (fun e => hne Bs e.symm rfl), Below.heap_alloc _ _ _ hBs]
  · rw [List.length_append, ← hlen]; exact a3
  · intro b hb e
    subst e
    rcases hat with h | h
    · exact hne _ (h ▸ hb) rfl
    · rw [h] at hb; injection hb with hb; omega

theorem make_facts {w w2 : World} {u : Value} {T : TypeId} {o : Obj} (hg : ((w.alloc (.cells #[u] T)).alloc o).grownBy w2 none) : Below (w.heap.size + 1) (w.alloc (.cells #[u] T)) w2 ∧ (∀ o, (w2.alloc o).cell? ⟨w.heap.size, 0, none⟩ = some u) ∧ w.heap.size + 2 ≤ w2.heap.size := by
  have h1 : Below (w.heap.size + 1) (w.alloc (.cells #[u] T)) ((w.alloc (.cells #[u] T)).alloc o) := (Below.refl _ _).alloc (by simp) _
  have h2 := h1.grown hg (by simp) (fun k e => by cases e)
  have h3 := hg.size
  simp at h3
  exact ⟨h2, fun o => ((h2.alloc (by omega) o).cell (p := ⟨w.heap.size, 0, none⟩) (by show w.heap.size < w.heap.size + 1; omega)).trans (by rw [World.cell?_alloc_at _ _ _ _ rfl]; rfl), by omega⟩

/-- What Split leaves. -/
def SplitPost (xs : List Int) (w : World) (e : Ending) (w' : World) : Prop := Below w.heap.size w w' ∧ ∃ v, e = .returned v ∧ OwnLs w' w.heap.size v (lns xs)

set_option maxRecDepth 100000 in
set_option maxHeartbeats 4000000 in
theorem split_in (A : Option Addr) (n cap : Nat) (xs : List Int) (w : World) (h : RB w w.heap.size A xs) (hx : xs.length = n) (hcap : n ≤ cap) (hcap' : cap ≤ maxLen) (hs : n ≤ 100000) :
    CallsIn Fence.wide 5 Try.prog 9 #[.slice A n cap] w (SplitPost xs w) := by
  obtain ⟨i0, hi0, hz0, hz1, hz2⟩ := info_parts slice_info
  obtain ⟨i1, hi1, hy0, hy1, hy2⟩ := info_parts u8_info
  have f1 : Fence.wide.fn 18 := trivial
  have f2 : Fence.wide.fn 19 := trivial
  have Hx := Lib.hid hx
  have H := Lib.hid h; clear h
  have HC := Lib.hid hcap'
  have hb0 : Below w.heap.size w ((w.alloc (.cells #[.slice A n cap] 22)).alloc (.cells #[.int .u8 10] 5)) := ((Below.refl _ _).alloc (Nat.le_refl _) _).alloc (by simp) _
  obtain ⟨c, hc, hcnt⟩ := count_any A n cap xs _ (w.heap.size + 1) ((H.out.below hb0 (Nat.le_refl _)).more (Nat.le_succ _)) hx (by rw [World.cell?_alloc_at _ _ _ _ (by simp)]; rfl)
  have hcnt := Lib.hid hcnt
  refine callsIn_of_wp_marks Try.func9 rfl trivial ?_ rfl
  simp only [Try.ntmps9, List.size_toArray, List.length_cons, List.length_nil, Nat.reduceAdd, Nat.reduceSub, Array.replicate_succ, Array.replicate_zero, List.push_toArray, List.append_toArray, List.nil_append, List.cons_append]
  gi_wp2_with (first | (gi_at_call 18; refine (callsIn_wide.2 hcnt.out).mono ?_; rintro e w' ⟨rfl, rfl⟩) | (gi_at_make; refine wpListIn_make_own _ rfl _ _ 24 rfl (w.heap.size + 1) 22 i0 (.slice none 0 0) 1 Try.underlying24 hi0 hz0 hz1 _ _ _ (c + 1) rfl rfl (by omega) (by rw [hz2]; omega) (by unfold maxLen; omega) (by simp) ?_; intro w2 hown2 hgrow2; obtain ⟨hb2, hbx2, hs2⟩ := make_facts hgrow2) | (gi_at_call 19; refine (callsIn_wide.2 (lines_any A n cap _)).mono ?_; rintro e w' ⟨rfl, rfl⟩))
  have hBx : Boxed ((w2.alloc (.cells #[.slice (some ⟨w.heap.size + 1 + 1, 0, none⟩) 0 (c + 1)] 24)).alloc (.cells #[.slice A n cap] 22)) w2.heap.size 24 (.slice (some ⟨w.heap.size + 1 + 1, 0, none⟩) 0 (c + 1)) := (Boxed.new w2 _ _).alloc _
  have hBs := (Boxed.new (w2.alloc (.cells #[.slice (some ⟨w.heap.size + 1 + 1, 0, none⟩) 0 (c + 1)] 24)) 22 (.slice A n cap)).cell
  rw [World.size_alloc] at hBs
  simp only [World.size_alloc] at hown2
  have hO : OwnLs ((w2.alloc (.cells #[.slice (some ⟨w.heap.size + 1 + 1, 0, none⟩) 0 (c + 1)] 24)).alloc (.cells #[.slice A n cap] 22)) (w.heap.size + 1) (.slice (some ⟨w.heap.size + 1 + 1, 0, none⟩) 0 (c + 1)) [] := ⟨[], (World.ownsRow.alloc hown2 _).alloc _, All2.nil⟩
  have hB4 : Below (w.heap.size + 1) (w.alloc (.cells #[.slice A n cap] 22)) ((w2.alloc (.cells #[.slice (some ⟨w.heap.size + 1 + 1, 0, none⟩) 0 (c + 1)] 24)).alloc (.cells #[.slice A n cap] 22)) := (hb2.alloc (by omega) _).alloc (by simp; omega) _
  have hsz4 : ((w2.alloc (.cells #[.slice (some ⟨w.heap.size + 1 + 1, 0, none⟩) 0 (c + 1)] 24)).alloc (.cells #[.slice A n cap] 22)).heap.size = w2.heap.size + 2 := by simp
  have hb0c : (w.alloc (.cells #[.slice A n cap] 22)).cell? ⟨w.heap.size, 0, none⟩ = some (.slice A n cap) := by rw [World.cell?_alloc_at _ _ _ _ rfl]; rfl
  have hbw : Below w.heap.size w (w.alloc (.cells #[.slice A n cap] 22)) := (Below.refl _ _).alloc (Nat.le_refl _) _
  clear hown2 hgrow2 hb2 hbx2 hcnt
  generalize ((w2.alloc (.cells #[.slice (some ⟨w.heap.size + 1 + 1, 0, none⟩) 0 (c + 1)] 24)).alloc (.cells #[.slice A n cap] 22)) = W4 at *
  generalize w2.heap.size = Bl at *
  generalize hv0 : Value.slice (some ⟨w.heap.size + 1 + 1, 0, none⟩) 0 (c + 1) = v0 at *
  have hv0b : ∀ b, v0.ownBlock = some b → b ≠ Bl + 1 := fun b hb => by
    rw [← hv0] at hb; simp [Value.ownBlock] at hb; omega
  have hR4 : RB W4 w.heap.size A xs := H.out.below (hbw.trans (hB4.mono (Nat.le_succ _))) (Nat.le_refl _)
  have hO := Lib.hid hO
  refine wpIn_rangeFunc_ownG rfl (by omega) (gf := 24) (lb := #[.pointer (some ⟨Bl + 1, 0, none⟩)]) rfl trivial (enters_of Try.func24 (by kernel_rfl) rfl)
    (lines_stops 4 (by omega) (Bl + 1) w.heap.size A n cap xs hx hcap hcap' (by omega) W4 (by omega) (by omega) hBs hR4) KeepL.trans (KeepL.put (by omega) (by omega)) (Below.refl _ _) (fun _ => rfl)
    (fun pre W => ∃ v, Boxed W Bl 24 v ∧ OwnLs W (w.heap.size + 1) v (cuts xs (raw pre)) ∧ (∀ b, v.ownBlock = some b → b ≠ Bl + 1) ∧ Below (w.heap.size + 1) W4 W)
    (fun _ _ _ => False)
    (fun s X Y row hs hg hr => by
      obtain ⟨v, h1, h2, h3, h4⟩ := hs
      have ho := not_cells_other (fun r e => (hr r e).2)
      refine ⟨v, h1.kept hg (fun e => ?_), h2.other hg ho, h3, h4.grown hg (Nat.le_trans (by omega) h4.size) (fun k e => by have := (hr k e).1; omega)⟩
      obtain ⟨o, ho1, ho2⟩ := (hr Bl e.symm).2
      rw [show _ = _ from h1] at ho1; cases ho1; cases ho2)
    (fun _ _ _ _ _ hs _ _ => hs)
    ⟨v0, hBx, hO.out, hv0b, Below.refl _ _⟩
    (fun x => { tmps := #[.slice A n cap, .pointer (some ⟨w.heap.size, 0, none⟩), .slice none 0 0, .pointer (some ⟨Bl, 0, none⟩), .int .i64 (x.1.1 : Int), .int .i64 (x.1.2 : Int), undef, .slice A n cap, .slice (some ⟨w.heap.size + 1, 0, none⟩) 1 1, .int .i64 c, .int .i64 (c + 1), v0, .slice A n cap, .func (.func 24) #[] #[.pointer (some ⟨Bl + 1, 0, none⟩)], .int .i64 (x.1.1 : Int), .int .i64 (x.1.2 : Int), undef, undef, undef, undef, undef, undef, undef, undef, undef, undef, undef, undef, undef, undef, undef], defers := [] }) ?assign ?body ?done ?stop
  case assign =>
    intro l x W K hK
    simp only [encP]
    gi_wp2
    exact hK
  case body =>
    rintro l pre ⟨⟨p, q⟩, hpq, hqn⟩ W ⟨v, hv, hls, hvb, hbel⟩ hcount
    obtain ⟨m, rfl⟩ : ∃ m, q = p + m := ⟨q - p, by simp only at hpq; omega⟩
    simp only at hpq hqn
    have hc0 := (hbel.cell (p := ⟨w.heap.size, 0, none⟩) (by show w.heap.size < w.heap.size + 1; omega)).trans ((hB4.cell (p := ⟨w.heap.size, 0, none⟩) (by show w.heap.size < w.heap.size + 1; omega)).trans hb0c)
    have hRW : RB W w.heap.size A xs := hR4.below (hbel.mono (Nat.le_succ _)) (Nat.le_refl _)
    obtain ⟨b, off, rfl, hbB, hcells⟩ := hRW.cell (by intro e; rw [e] at hqn; simp at hqn; omega)
    obtain ⟨vs, hrow, hls2⟩ := hls
    rw [← hls2.1] at hrow
    have hvl : vs.length ≤ 100000 := by
      have h1 := hls2.1
      rw [cuts, List.length_map, raw_len] at h1
      have h2 := Hx.out
      omega
    obtain ⟨X, hX⟩ : ∃ X, (xs.drop p).take m = X := ⟨_, rfl⟩
    have hXl : X.length = m := by rw [← hX, List.length_take, List.length_drop]; omega
    have hXb : Byt X := hX ▸ (hRW.byt.drop p).take m
    have hcut : cuts xs (raw (pre ++ [(⟨(p, p + m), hpq, hqn⟩ : Pr xs.length)])) = cuts xs (raw pre) ++ [X] := by
      rw [raw_snoc, cuts_snoc, ← hX]; simp only [Nat.add_sub_cancel_left]
    have hsrc : ∀ cs0, ∀ j u, (X.map (Value.int .u8))[j]? = some u → (W.alloc (.cells cs0 5)).cell? ((⟨b, off + p, none⟩ : Addr).add j) = some u := fun cs0 j u hj => by
      have hjl : j < m := by
        rcases Nat.lt_or_ge j m with h' | h'
        · exact h'
        · rw [List.getElem?_eq_none (by simp; omega)] at hj; cases hj
      have e1 : (⟨b, off + p, none⟩ : Addr).add j = ⟨b, off + (p + j), none⟩ := by unfold Addr.add; split <;> simp_all [Nat.add_assoc]
      have hbl : b < W.heap.size := by have := hbel.size; have := hB4.size; simp at this; omega
      rw [e1, (((Below.refl W.heap.size W).alloc (Nat.le_refl _) (.cells cs0 5)).cell (p := ⟨b, off + (p + j), none⟩) hbl), hcells (p + j) (by omega)]
      rw [← hX] at hj
      simp [List.getElem?_drop, hjl] at hj
      obtain ⟨z, hz1, hz2⟩ := hj
      rw [← hz2]; simp [List.getD, hz1]
    have hone : ∀ u ∈ X.map (Value.int .u8), u.oneCell' = true := fun u hu => by
      obtain ⟨y, _, rfl⟩ := List.mem_map.1 hu; rfl
    have hWs : w.heap.size + 1 ≤ W.heap.size := by have := hbel.size; have := hB4.size; simp at this; omega
    have hWs4 := hbel.size
    have hc0' : ∀ o, (W.alloc o).cell? ⟨w.heap.size, 0, none⟩ = some (.slice (some ⟨b, off, none⟩) n cap) := fun o => (((Below.refl W.heap.size W).alloc (Nat.le_refl _) o).cell (p := ⟨w.heap.size, 0, none⟩) (by show w.heap.size < W.heap.size; omega)).trans hc0
    have hnl : p + m ≤ n := by have := Hx.out; omega
    have hbl0 : w.heap.size + 1 ≤ Bl := by omega
    have hHcut := Lib.hid hcut; have HXb := Lib.hid hXb; have HXl := Lib.hid hXl; have Hsrc := Lib.hid hsrc; have Hone := Lib.hid hone; have Hvb := Lib.hid hvb
    have Hls2 := Lib.hid hls2
    have HB := Lib.hid hbel
    have hpc : (p : Int) + (m : Int) ≤ (cap : Int) := by omega
    clear hcut hXb hsrc hone hvb hls2 hcells hX hRW hR4 hBs hO hbel hcount
    dsimp only
    gi_wp2_with (first | (gi_at_make; refine wpListIn_make_all _ rfl _ _ 22 rfl 5 i1 (.int .u8 0) Try.underlying22 hi1 hy0 hy1 _ _ _ _ m rfl rfl (by omega) (by omega) (by rw [hy2]; omega) (by unfold maxLen; omega) ?_; intro cs0 hcs0) | ((with_reducible refine wpListIn_copy_all _ rfl (.tmp 20) (.tmp 24) 22 22 rfl 5 Try.underlying22 u8_size W.heap.size m m ⟨b, off + p, none⟩ _ _ rfl rfl (by omega) cs0 5 (World.alloc_heap_new W _) (X.map (Value.int .u8)) (by rw [List.length_map]; exact HXl.out) hcs0 (Hsrc.out cs0) Hone.out ?_); intro W2 hh2 hg2; obtain ⟨d1, d2, d3, d4⟩ := made HXl.out rfl hh2 hg2 HXb.out (by rw [HXl.out]; unfold maxLen; omega) hWs; have hv2 : Boxed W2 Bl 24 v := (d1.block Bl hv.lt).trans hv; have hcv := hv2.cell; have D1 := Lib.hid d1; have D2 := Lib.hid d2; have D4 := Lib.hid d4; have hrow2 := own_below hrow d1 (Nat.le_refl _); clear d1 d2 d4 hh2 hg2) | (gi_at_builtin; refine appIn_one W2 rfl _ _ rfl (w.heap.size + 1) v vs _ rfl hrow2 rfl _ rfl rfl (by omega) (by omega) ?_; intro v' w1 hown' hgrow hat; obtain ⟨b1, b2, b3, b4, b5, b6, b7⟩ := appended hv2 hrow2 (Hls2.out.mono fun _ _ hh => hh.below D1.out (Nat.le_refl _)) D4.out (by omega) hbl0 (by omega) Hvb.out (by omega) hown' hgrow hat; obtain ⟨g', cap', rfl⟩ := ownsRow_succ hown'; have hcw := b1.cell; have hfw := b1.frozen; have B2 := Lib.hid b2; have B3 := Lib.hid b3; have B4 := Lib.hid b4; have B5 := Lib.hid b5; have B6 := Lib.hid b6; have B7 := Lib.hid b7; clear b2 b3 b4 b5 b6 b7 hown' hgrow hat))
    have hBW : Below (w.heap.size + 1) W (w1.setCell ⟨Bl, 0, none⟩ (.slice (some ⟨g', 0, none⟩) (vs.length + 1) cap')) := (D1.out.mono hWs).trans B3.out
    refine ⟨(D2.out.trans B2.out).from _, ⟨fun k hk => hBW.block k (by omega), B4.out.trans (D1.out.block _ (by omega))⟩, _, B5.out, ?_, B7.out, HB.out.trans hBW⟩
    have := B6.out
    rw [← hHcut.out] at this
    exact this
  case done =>
    rintro D ys W hD hys ⟨v, hv, hls, hvb, hbel⟩ hK
    have hc1 := hv.cell
    have hfin : OwnLs W (w.heap.size + 1) v (lns xs) := by rw [hys, cuts_lns] at hls; exact hls
    have hfin2 := (hfin.other (grownBy_putObj' W D (.deferred none)) (not_cells_other fun r e => by cases e; exact ⟨_, hK, rfl⟩)).base (Nat.le_succ _)
    have hbel2 : Below w.heap.size w (W.putObj D (.deferred none)) := (hbw.trans ((hB4.trans hbel).mono (Nat.le_succ _))).trans (belowK_b (w := W4) (by omega) W D _ _ hD hK rfl rfl)
    have HF := Lib.hid (show SplitPost xs w (.returned v) (W.putObj D (.deferred none)) from ⟨hbel2, v, rfl, hfin2⟩)
    obtain ⟨a1, c1, hv1, _, _⟩ := own_slice hfin.choose_spec.1
    subst hv1
    clear hfin hfin2 hbel2 hls hvb hbel
    gi_wp2
    refine ⟨by simp, .inl ⟨_, _, rfl, run_takeDeferred hK, ?_⟩⟩
    refine ⟨_, results_tmp rfl _ _ _, ?_⟩
    exact HF.out
  case stop =>
    rintro D c' pre W _ _ h _
    exact h.elim

theorem split_any (A : Option Addr) (n cap : Nat) (xs : List Int) (w : World) (B : Nat) (h : RB w B A xs) (hB : B ≤ w.heap.size) (hx : xs.length = n) (hcap : n ≤ cap) (hcap' : cap ≤ maxLen) (hs : n ≤ 100000) :
    Calls Try.prog 9 #[.slice A n cap] w (SplitPost xs w) := callsIn_wide.1 (split_in A n cap xs w (h.more hB) hx hcap hcap' hs)

/-- What Starts leaves. -/
def StartsPost (xs : List Int) (w : World) (e : Ending) (w' : World) : Prop := Below w.heap.size w w' ∧ ∃ v, e = .returned v ∧ w'.ownsRow w.heap.size 3 1 v (sts xs).length ((sts xs).map (Value.int .i64))

set_option maxRecDepth 100000 in
set_option maxHeartbeats 4000000 in
theorem starts_in (A : Option Addr) (n cap : Nat) (xs : List Int) (w : World) (h : RB w w.heap.size A xs) (hx : xs.length = n) (hcap : n ≤ cap) (hcap' : cap ≤ maxLen) (hs : n ≤ 100000) :
    CallsIn Fence.wide 5 Try.prog 10 #[.slice A n cap] w (StartsPost xs w) := by
  have f2 : Fence.wide.fn 19 := trivial
  have Hx := Lib.hid hx
  have H := Lib.hid h; clear h
  have HC := Lib.hid hcap'
  refine callsIn_of_wp_marks Try.func10 rfl trivial ?_ rfl
  simp only [Try.ntmps10, List.size_toArray, List.length_cons, List.length_nil, Nat.reduceAdd, Nat.reduceSub, Array.replicate_succ, Array.replicate_zero, List.push_toArray, List.append_toArray, List.nil_append, List.cons_append]
  gi_wp2_with (gi_at_call 19; refine (callsIn_wide.2 (lines_any A n cap _)).mono ?_; rintro e w' ⟨rfl, rfl⟩)
  have h0 : Below (w.heap.size + 1) (w.alloc (.cells #[.slice A n cap] 22)) (((w.alloc (.cells #[.slice A n cap] 22)).alloc (.cells #[.int .i64 0] 3)).alloc (.cells #[.slice (some ⟨w.heap.size + 1, 0, none⟩) 1 1] 26)) := ((Below.refl _ _).alloc (by simp) _).alloc (by simp) _
  have hO0 := own_lit (w := w.alloc (.cells #[.slice A n cap] 22)) (base := w.heap.size + 1) (e := 3) (.int .i64 0) (by simp) (w.heap.size + 1) (by simp)
  have hBx0 := Boxed.new ((w.alloc (.cells #[.slice A n cap] 22)).alloc (.cells #[.int .i64 0] 3)) 26 (.slice (some ⟨w.heap.size + 1, 0, none⟩) 1 1)
  have hBs0 := Boxed.new (((w.alloc (.cells #[.slice A n cap] 22)).alloc (.cells #[.int .i64 0] 3)).alloc (.cells #[.slice (some ⟨w.heap.size + 1, 0, none⟩) 1 1] 26)) 22 (.slice A n cap)
  simp only [World.size_alloc] at hBx0 hBs0
  have hB4 := h0.alloc (by simp) (.cells #[.slice A n cap] 22)
  have hO := (hO0.alloc (.cells #[.slice (some ⟨w.heap.size + 1, 0, none⟩) 1 1] 26)).alloc (.cells #[.slice A n cap] 22)
  have hBx := hBx0.alloc (.cells #[.slice A n cap] 22)
  have hsz4 : ((((w.alloc (.cells #[.slice A n cap] 22)).alloc (.cells #[.int .i64 0] 3)).alloc (.cells #[.slice (some ⟨w.heap.size + 1, 0, none⟩) 1 1] 26)).alloc (.cells #[.slice A n cap] 22)).heap.size = w.heap.size + 4 := by simp
  have hb0c : (w.alloc (.cells #[.slice A n cap] 22)).cell? ⟨w.heap.size, 0, none⟩ = some (.slice A n cap) := by rw [World.cell?_alloc_at _ _ _ _ rfl]; rfl
  have hbw : Below w.heap.size w (w.alloc (.cells #[.slice A n cap] 22)) := (Below.refl _ _).alloc (Nat.le_refl _) _
  clear h0 hO0 hBx0
  generalize ((((w.alloc (.cells #[.slice A n cap] 22)).alloc (.cells #[.int .i64 0] 3)).alloc (.cells #[.slice (some ⟨w.heap.size + 1, 0, none⟩) 1 1] 26)).alloc (.cells #[.slice A n cap] 22)) = W4 at *
  have hR4 : RB W4 w.heap.size A xs := H.out.below (hbw.trans (hB4.mono (Nat.le_succ _))) (Nat.le_refl _)
  have hO := Lib.hid hO
  refine wpIn_rangeFunc_ownG rfl (by omega) (gf := 24) (lb := #[.pointer (some ⟨w.heap.size + 1 + 1 + 1, 0, none⟩)]) rfl trivial (enters_of Try.func24 (by kernel_rfl) rfl)
    (lines_stops 4 (by omega) (w.heap.size + 1 + 1 + 1) w.heap.size A n cap xs hx hcap hcap' (by omega) W4 (by omega) (by omega) hBs0.cell hR4) KeepL.trans (KeepL.put (by omega) (by omega)) (Below.refl _ _) (fun _ => rfl)
    (fun pre W => ∃ v ks, Hid (ks = 0 :: hits xs (raw pre)) ∧ Boxed W (w.heap.size + 1 + 1) 26 v ∧ W.ownsRow (w.heap.size + 1) 3 1 v ks.length (ks.map (Value.int .i64)) ∧ Boxed W (w.heap.size + 1 + 1 + 1) 22 (.slice A n cap) ∧ Below (w.heap.size + 1) W4 W)
    (fun _ _ _ => False)
    (fun s X Y row hs hg hr => by
      obtain ⟨v, ks, h1, h2, h3, h4, h5⟩ := hs
      have hnb : ∀ {B : Nat} {T : TypeId} {u : Value}, Boxed X B T u → some B ≠ row := fun hb e => by
        obtain ⟨o, ho1, ho2⟩ := (hr _ e.symm).2
        rw [show _ = _ from hb] at ho1; cases ho1; cases ho2
      refine ⟨v, ks, h1, h2.kept hg (hnb h2), h3.kept hg ?_, h4.kept hg (hnb h4), h5.grown hg (Nat.le_trans (by omega) h5.size) (fun k e => by have := (hr k e).1; omega)⟩
      rcases h3.2 with ⟨rfl, _⟩ | ⟨g, cap2, cur, rfl, _, hgb, _⟩
      · exact .inl rfl
      · refine .inr fun e => ?_
        obtain ⟨o, ho1, ho2⟩ := (hr g (by simpa [Value.ownBlock] using e.symm)).2
        rw [hgb] at ho1; cases ho1; cases ho2)
    (fun _ _ _ _ _ hs _ _ => hs)
    ⟨_, [0], rfl, hBx, hO.out, hBs0, Below.refl _ _⟩
    (fun x => { tmps := #[.slice A n cap, .pointer (some ⟨w.heap.size, 0, none⟩), .slice none 0 0, .pointer (some ⟨w.heap.size + 1 + 1, 0, none⟩), undef, .int .i64 (x.1.2 : Int), .slice (some ⟨w.heap.size + 1, 0, none⟩) 1 1, .slice A n cap, .func (.func 24) #[] #[.pointer (some ⟨w.heap.size + 1 + 1 + 1, 0, none⟩)], .int .i64 (x.1.1 : Int), .int .i64 (x.1.2 : Int), undef, undef, undef, undef, undef, undef, undef, undef, undef, undef, undef], defers := [] }) ?assign ?body ?done ?stop
  case assign =>
    intro l x W K hK
    simp only [encP]
    gi_wp2
    exact hK
  case body =>
    rintro l pre ⟨⟨p, q⟩, hpq, hqn⟩ W ⟨v, ks, hks, hv, hrow, hbs, hbel⟩ hcount
    obtain ⟨r, rfl⟩ : ∃ r, q = r + 1 := ⟨q - 1, by simp only at hpq; omega⟩
    simp only at hpq hqn
    have hc0 := (hbel.cell (p := ⟨w.heap.size, 0, none⟩) (by show w.heap.size < w.heap.size + 1; omega)).trans ((hB4.cell (p := ⟨w.heap.size, 0, none⟩) (by show w.heap.size < w.heap.size + 1; omega)).trans hb0c)
    have hRW : RB W w.heap.size A xs := hR4.below (hbel.mono (Nat.le_succ _)) (Nat.le_refl _)
    obtain ⟨b, off, rfl, hbB, hcells⟩ := hRW.cell (by intro e; rw [e] at hqn; simp at hqn)
    have hcz := hcells r (by omega)
    have hrn : r < n := by have := Hx.out; omega
    have hkl : ks.length ≤ 200000 := by
      have h1 := hits_len xs (raw pre)
      rw [raw_len] at h1
      rw [hks.out, List.length_cons]; have := Hx.out; omega
    have hsn := hits_snoc xs (raw pre) (p, r + 1)
    rw [show raw pre ++ [(p, r + 1)] = raw (pre ++ [(⟨(p, r + 1), hpq, hqn⟩ : Pr xs.length)]) from (raw_snoc pre (⟨(p, r + 1), hpq, hqn⟩ : Pr xs.length)).symm] at hsn
    simp only [Nat.add_sub_cancel] at hsn
    have hWs : w.heap.size + 4 ≤ W.heap.size := by have := hbel.size; omega
    have HB := Lib.hid hbel
    have hri : ((r + 1 : Nat) : Int) - 1 = (r : Int) := by omega
    have hrc : (r : Int) < (n : Int) := by omega
    have hcv := hv.cell
    have hz := hRW.byt.getD r
    generalize xs.getD r 0 = z at *
    have Hsn := Lib.hid hsn
    clear hsn hcells hR4 hRW hcount hBs0 hO hbel
    by_cases hz10 : z = 10
    · subst hz10
      have hks2 : Hid (ks ++ [((r : Int) + 1)] = 0 :: hits xs (raw (pre ++ [(⟨(p, r + 1), hpq, hqn⟩ : Pr xs.length)]))) := by
        show _ = _
        rw [Hsn.out, hks.out]; simp
      dsimp only
      gi_wp2_with (gi_at_builtin; refine appIn_int W rfl _ _ rfl (w.heap.size + 1) v ks ((r : Int) + 1) rfl hrow _ rfl rfl (by omega) (by omega) ?_; intro v' w1 hown' hgrow hat; obtain ⟨b1, b2, b3, b4, b5⟩ := hv.appended (by decide) hrow (by omega) (by omega) hown' hgrow; have hbs2 : Boxed w1 (w.heap.size + 1 + 1 + 1) 22 (.slice (some ⟨b, off, none⟩) n cap) := (hbs.alloc _).kept hgrow (hbs.not_row (by decide) hrow); obtain ⟨g', cap', rfl⟩ := ownsRow_succ (by simpa using hown'); have hcw := b1.cell; have hfw := b1.frozen; have B2 := Lib.hid b2; have B3 := Lib.hid b3; have B4 := Lib.hid b4; have B5 := Lib.hid b5; have HBS := Lib.hid hbs2; clear b2 b3 b4 b5 hbs2 hown' hgrow hat)
      have hbs3 := HBS.out.kept (grownBy_setCell' w1 (w.heap.size + 1 + 1) (.slice (some ⟨g', 0, none⟩) (ks.length + 1) cap')) (by intro e; injection e with e; omega)
      refine ⟨B4.out.from _, ⟨fun k hk => B5.out.block k (by omega), hbs3.trans hbs.symm⟩, _, _, hks2.out, B2.out, ?_, hbs3, HB.out.trans B5.out⟩
      have := B3.out
      simpa using this
    · have hz2 : (z == 10) = false := by rw [beq_eq_false_iff_ne]; exact hz10
      have hks2 : Hid (ks = 0 :: hits xs (raw (pre ++ [(⟨(p, r + 1), hpq, hqn⟩ : Pr xs.length)]))) := by
        show _ = _
        rw [Hsn.out, hks.out]; simp [hz10]
      dsimp only
      gi_wp2
      exact ⟨KeepsFrom.refl _ _, KeepL.refl _ _ _, v, ks, hks2.out, hv, hrow, hbs, HB.out⟩
  case done =>
    rintro D ys W hD hys ⟨v, ks, hks, hv, hrow, hbs, hbel⟩ hK
    have hc1 := hv.cell
    have hfin : ks = sts xs := by rw [hks.out, hys, sts_hits]
    subst hfin
    have hbel2 : Below w.heap.size w (W.putObj D (.deferred none)) := (hbw.trans ((hB4.trans hbel).mono (Nat.le_succ _))).trans (belowK_b (w := W4) (by omega) W D _ _ hD hK rfl rfl)
    have HF := Lib.hid (show StartsPost xs w (.returned v) (W.putObj D (.deferred none)) from ⟨hbel2, v, rfl, own_base (ownsRow_putObj hrow _ hK rfl) (Nat.le_succ _)⟩)
    obtain ⟨a1, c1, hv1, _, _⟩ := own_slice hrow
    subst hv1
    clear hbel2 hrow hks hbel
    gi_wp2
    refine ⟨by simp, .inl ⟨_, _, rfl, run_takeDeferred hK, ?_⟩⟩
    refine ⟨_, results_tmp rfl _ _ _, ?_⟩
    exact HF.out
  case stop =>
    rintro D c' pre W _ _ h _
    exact h.elim

theorem starts_any (A : Option Addr) (n cap : Nat) (xs : List Int) (w : World) (B : Nat) (h : RB w B A xs) (hB : B ≤ w.heap.size) (hx : xs.length = n) (hcap : n ≤ cap) (hcap' : cap ≤ maxLen) (hs : n ≤ 100000) :
    Calls Try.prog 10 #[.slice A n cap] w (StartsPost xs w) := callsIn_wide.1 (starts_in A n cap xs w (h.more hB) hx hcap hcap' hs)
end Go.Proofs.Ytccbbmkdmdllgaa.Line
