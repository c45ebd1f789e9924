/-
  Layer 2 (line): the document's own lines, byte by byte; two rows of lines that are the same; rows of bytes one behind the other.
-/
import Derived.Test.YtccbbmkdmdllgaaLineSplit
namespace Go.Proofs.Ytccbbmkdmdllgaa.Line
open Go.ChangeShapes Go.WideShapes Go.ChangeAt Go.RowKit Mem
set_option linter.unusedVariables false

/-- append of one byte onto a row of the call's own. -/
theorem app_byte (w : World) {ops : Array Oper} {rest : List Oper} {o : Oper} {a : Act} {Q : Exit → Act → World → Prop} (hgd : o.guard = none) (s x : Operand)
    (ho : o.op = .call { callee := .builtin .append, args := #[s, x], argTypes := #[22, 22] }) (base : Nat) (v : Value) (ks : List Int) (k : Int) (hs : a.eval s = v)
    (hown : w.ownsRow base 5 1 v ks.length (ks.map (Value.int .u8))) (g : Nat) (hg : g = w.heap.size) (hx : a.eval x = .slice (some ⟨g, 0, none⟩) 1 1) (h63 : ks.length ≤ 1000000000) (hbase : base ≤ w.heap.size)
    (h : ∀ v' w', w'.ownsRow base 5 1 v' (ks ++ [k]).length ((ks ++ [k]).map (Value.int .u8)) → (w.alloc (.cells #[.int .u8 k] 5)).grownBy w' v.ownBlock → (v'.ownBlock = v.ownBlock ∨ v'.ownBlock = some (w.heap.size + 1)) → wpList Try.prog ops Q rest (a.put o.dst v') w') :
    wpList Try.prog ops Q (o :: rest) a (w.alloc (.cells #[.int .u8 k] 5)) := by
  obtain ⟨i0, hi0, hz0, hz1, hz2⟩ := info_parts u8_info
  subst hg
  refine wpList_append_own_at (P := Try.prog) _ hgd s x 22 ho base 5 i0 (.int .u8 0) 1 1 Try.underlying22 hi0 hz0 hz1 hz2 rfl (by decide) v ks.length (ks.map (Value.int .u8)) hs (hown.alloc _) ⟨w.heap.size, 0, none⟩ 1 1 [.int .u8 k] hx rfl (cell_one_new _ _ _) (by simp [Value.oneCell']) (by unfold maxLen; omega) (by omega) (by simp; omega) fun v' w' h1 h2 _ h4 => h v' w' (by simpa using h1) h2 (by simpa using h4)

/-- The row of the lines that are whole, and the line that is under way. -/
structure Two (base : Nat) (vl : Value) (vs : List Value) (L : List (List Int)) (vx : Value) (X : List Int) (w : World) : Prop where
  row : w.ownsRow base 22 1 vl vs.length vs
  lines : All2 (LV w base) vs L
  line : LV w base vx X
  apart : ∀ u ∈ vs, u.ownBlock = none ∨ u.ownBlock ≠ vx.ownBlock

theorem two_byte {base : Nat} {vl vx vx' : Value} {vs : List Value} {L : List (List Int)} {X : List Int} {z : Int} {w w' : World} (h : Two base vl vs L vx X w) (hz : 0 ≤ z ∧ z < 256)
    (hown : w'.ownsRow base 5 1 vx' (X ++ [z]).length ((X ++ [z]).map (Value.int .u8))) (hg : (w.alloc (.cells #[.int .u8 z] 5)).grownBy w' vx.ownBlock) (hat : vx'.ownBlock = vx.ownBlock ∨ vx'.ownBlock = some (w.heap.size + 1)) :
    Two base vl vs L vx' (X ++ [z]) w' := by
  have hA : Below w.heap.size w (w.alloc (.cells #[.int .u8 z] 5)) := (Below.refl _ _).alloc (Nat.le_refl _) _
  refine ⟨(h.row.alloc _).kept hg (own_apart h.row h.line.1 (by decide)), h.lines.memMono fun u hu y hy => ⟨((hy.below hA (Nat.le_refl _)).1).kept hg (h.apart u hu), hy.2⟩, ⟨hown, h.line.2.append fun y hy => by simp at hy; subst hy; exact hz⟩, fun u hu => ?_⟩
  rcases hat with e | e
  · rw [e]; exact h.apart u hu
  · rw [e]
    obtain ⟨y, hy⟩ := h.lines.memR hu
    rcases hu2 : u.ownBlock with _ | k
    · exact .inl rfl
    · have := (hy.1.lt k hu2).2
      exact .inr (fun e => by injection e with e; omega)

theorem two_push {base : Nat} {vl vx vl' : Value} {vs : List Value} {L : List (List Int)} {X : List Int} {w w' : World} (h : Two base vl vs L vx X w)
    (hown : w'.ownsRow base 22 1 vl' (vs.length + 1) (vs ++ [vx])) (hg : (w.alloc (.cells #[vx] 22)).grownBy w' vl.ownBlock) :
    Two base vl' (vs ++ [vx]) (L ++ [X]) (.slice none 0 0) [] w' := by
  have hA : Below w.heap.size w (w.alloc (.cells #[vx] 22)) := (Below.refl _ _).alloc (Nat.le_refl _) _
  have hl : ∀ {u : Value} {y : List Int}, LV w base u y → LV w' base u y := fun hy => LV.own (hy.below hA (Nat.le_refl _)) (h.row.alloc _) hg
  refine ⟨by simpa using hown, (h.lines.mono fun _ _ hy => hl hy).snoc (hl h.line), ⟨World.ownsRow_nil _ _ _ _, Byt.nil⟩, fun u _ => ?_⟩
  rcases hu2 : u.ownBlock with _ | k
  · exact .inl rfl
  · exact .inr (by simp [Value.ownBlock])

theorem two_form {base : Nat} {vl vx : Value} {vs : List Value} {L : List (List Int)} {X : List Int} {z : Int} {w : World} (h : Two base vl vs L vx (X ++ [z]) w) : ∃ a c, vx = .slice a (X.length + 1) c := by
  obtain ⟨a, c, e, _, _⟩ := own_slice h.line.1
  exact ⟨a, c, by rw [e, List.length_append]; rfl⟩

theorem two_nil (w : World) (base : Nat) : Two base (.slice none 0 0) [] [] (.slice none 0 0) [] w := ⟨World.ownsRow_nil _ _ _ _, All2.nil, ⟨World.ownsRow_nil _ _ _ _, Byt.nil⟩, fun u hu => by cases hu⟩

set_option maxHeartbeats 4000000 in
theorem refSplit_any (A : Option Addr) (n cap : Nat) (xs : List Int) (w : World) (B : Nat) (h : RB w B A xs) (hB : B ≤ w.heap.size) (hx : xs.length = n) (hcap : n ≤ cap) (hcap' : cap ≤ maxLen) (hs : n ≤ 100000) :
    Calls Try.prog 14 #[.slice A n cap] w (SplitPost xs w) := by
  have Hn := Lib.hid hx; clear hx
  have hby := Lib.hid h.byt
  have H := Lib.hid h; clear h
  go_enter Try.func14, Try.ntmps14
  go_wp2
  go_loopw [3, 4, 5] (fun vl vx i wr => ∃ (k : Nat) (vs : List Value) (L : List (List Int)) (X : List Int), k ≤ n ∧ i = .int .i64 k ∧ Hid (lns xs = L ++ lns (X ++ xs.drop k)) ∧ Hid (10 ∉ X) ∧ Hid (k = n → X = []) ∧ vs.length ≤ k ∧ X.length ≤ k ∧ Hid (Two w.heap.size vl vs L vx X wr) ∧ Below w.heap.size w wr) (fun _ _ i _ => n - (intOf i).toNat)
  case atStart => exact ⟨0, [], [], [], Nat.zero_le _, rfl, rfl, (by simp : (10 : Int) ∉ []), fun _ => rfl, Nat.le_refl _, Nat.le_refl _, two_nil _ _, Below.refl _ _⟩
  case round =>
    obtain ⟨k, vs, L, X, hk, rfl, hl, hX, hend, hvs, hXl, htwo, hbel⟩ := hrel
    by_cases hlt : k < n
    · obtain ⟨bl, off, rfl, hbB, hc⟩ := (H.out.below hbel hB).cell (by intro e; have := Hn.out; rw [e] at this; simp at this; omega)
      have hc := hc k (by rw [Hn.out]; exact hlt)
      have hz := hby.out.getD k
      have hdr : xs.drop k = xs.getD k 0 :: xs.drop (k + 1) := by
        rw [List.drop_eq_getElem_cons (by rw [Hn.out]; exact hlt)]
        simp [List.getD, show k < xs.length by rw [Hn.out]; exact hlt]
      have hl2 := hl.out
      rw [hdr] at hl2
      generalize xs.getD k 0 = z at *
      have hlt' : (k : Int) < (n : Int) := by omega
      have hrow := htwo.out.line.1
      have hrowl := htwo.out.row
      obtain ⟨hz0, hz1⟩ := hz
      have hp : ∀ w2, Below w.heap.size w w2 → w2.cell? ⟨bl, off + k, none⟩ = some (.int .u8 z) := fun w2 hb2 => (hb2.cell (p := ⟨bl, off + k, none⟩) (by show bl < w.heap.size; omega)).trans ((hbel.cell (p := ⟨bl, off + k, none⟩) (by show bl < w.heap.size; omega)).symm.trans hc)
      by_cases hz10 : z = 10
      · subst hz10
        have hl3 : Hid (lns xs = (L ++ [X ++ [10]]) ++ lns ([] ++ xs.drop (k + 1))) := by
          show _ = _
          rw [hl2, lns_full X _ hX.out]; simp
        clear hl2 hdr
        go_wp2_with (at_builtin; first | (refine (app_byte wr rfl _ _ rfl w.heap.size u4 X 10 rfl hrow _ rfl rfl (by omega) hbel.size ?_); intro v2 w2 hown2 hg2 hat2; have T2 := Lib.hid (two_byte htwo.out ⟨hz0, hz1⟩ hown2 hg2 hat2); have hbel2 : Below w.heap.size w w2 := (hbel.alloc hbel.size _).grown hg2 (by have := hbel.size; simp; omega) (fun b hb => (hrow.lt b hb).1); have hc2 := hp w2 hbel2; clear hown2 hg2 hat2; obtain ⟨a2, c2, rfl⟩ := two_form T2.out) | (refine (app_one w2 rfl _ _ rfl w.heap.size u3 vs _ rfl T2.out.row (own_cell T2.out.line.1) _ rfl rfl (by omega) hbel2.size ?_); intro v3 w3 hown3 hg3 hat3; have T3 := Lib.hid (two_push T2.out hown3 hg3); have hbel3 : Below w.heap.size w w3 := (hbel2.alloc hbel2.size _).grown hg3 (by have := hbel2.size; simp; omega) (fun b hb => (T2.out.row.lt b hb).1); clear hown3 hg3 hat3))
        go_roundw
        case rel => exact ⟨k + 1, _, _, [], by omega, by go_num, hl3.out, (by simp : (10 : Int) ∉ []), fun _ => rfl, by simp; omega, Nat.zero_le _, T3.out, hbel3⟩
        case measure => simp [intOf]; omega
      · have hz2 : (z == 10) = false := by rw [beq_eq_false_iff_ne]; exact hz10
        have hXz : (10 : Int) ∉ X ++ [z] := by
          intro h
          rcases List.mem_append.1 h with h | h
          · exact hX.out h
          · simp at h; exact hz10 h.symm
        by_cases hke : k + 1 = n
        · have hl3 : Hid (lns xs = (L ++ [X ++ [z]]) ++ lns ([] ++ xs.drop (k + 1))) := by
            show _ = _
            rw [hl2, List.drop_of_length_le (by rw [Hn.out]; omega), lns_rest _ hXz (by simp)]; simp [lns]
          have hke3 : ((k : Int) == (n : Int) - 1) = true := by rw [beq_iff_eq]; omega
          clear hl2 hdr hXz
          go_wp2_with (at_builtin; first | (refine (app_byte wr rfl _ _ rfl w.heap.size u4 X z rfl hrow _ rfl rfl (by omega) hbel.size ?_); intro v2 w2 hown2 hg2 hat2; have T2 := Lib.hid (two_byte htwo.out ⟨hz0, hz1⟩ hown2 hg2 hat2); have hbel2 : Below w.heap.size w w2 := (hbel.alloc hbel.size _).grown hg2 (by have := hbel.size; simp; omega) (fun b hb => (hrow.lt b hb).1); have hc2 := hp w2 hbel2; clear hown2 hg2 hat2; obtain ⟨a2, c2, rfl⟩ := two_form T2.out) | (refine (app_one w2 rfl _ _ rfl w.heap.size u3 vs _ rfl T2.out.row (own_cell T2.out.line.1) _ rfl rfl (by omega) hbel2.size ?_); intro v3 w3 hown3 hg3 hat3; have T3 := Lib.hid (two_push T2.out hown3 hg3); have hbel3 : Below w.heap.size w w3 := (hbel2.alloc hbel2.size _).grown hg3 (by have := hbel2.size; simp; omega) (fun b hb => (T2.out.row.lt b hb).1); clear hown3 hg3 hat3))
          go_roundw
          case rel => exact ⟨k + 1, _, _, [], by omega, by go_num, hl3.out, (by simp : (10 : Int) ∉ []), fun _ => rfl, by simp; omega, Nat.zero_le _, T3.out, hbel3⟩
          case measure => simp [intOf]; omega
        · have hl3 : Hid (lns xs = L ++ lns ((X ++ [z]) ++ xs.drop (k + 1))) := by
            show _ = _
            rw [hl2]; simp
          have hke3 : ((k : Int) == (n : Int) - 1) = false := by rw [beq_eq_false_iff_ne]; omega
          have HXz := Lib.hid hXz
          clear hl2 hdr hXz
          go_wp2_with (at_builtin; refine (app_byte wr rfl _ _ rfl w.heap.size u4 X z rfl hrow _ rfl rfl (by omega) hbel.size ?_); intro v2 w2 hown2 hg2 hat2; have T2 := Lib.hid (two_byte htwo.out ⟨hz0, hz1⟩ hown2 hg2 hat2); have hbel2 : Below w.heap.size w w2 := (hbel.alloc hbel.size _).grown hg2 (by have := hbel.size; simp; omega) (fun b hb => (hrow.lt b hb).1); have hc2 := hp w2 hbel2; clear hown2 hg2 hat2; obtain ⟨a2, c2, rfl⟩ := two_form T2.out)
          go_roundw
          case rel => exact ⟨k + 1, vs, L, X ++ [z], by omega, by go_num, hl3.out, HXz.out, fun h => by omega, by omega, by simp; omega, T2.out, hbel2⟩
          case measure => simp [intOf]; omega
    · obtain rfl : k = n := by omega
      have hge : ¬ (k : Int) < (k : Int) := by omega
      obtain rfl : X = [] := hend.out rfl
      have he : lns xs = L := by
        rw [hl.out, List.drop_of_length_le (by rw [Hn.out]; omega)]; simp [lns]
      subst he
      have hrl := htwo.out.row
      rw [htwo.out.lines.1] at hrl
      have hO : OwnLs wr w.heap.size u3 (lns xs) := ⟨vs, hrl, htwo.out.lines⟩
      obtain ⟨va, vc, hv, _, _⟩ := own_slice hrl
      have HF := Lib.hid (show SplitPost xs w (.returned u3) wr from ⟨hbel, _, rfl, hO⟩)
      clear hO hrl htwo hl hbel
      subst hv
      go_wp2
      go_ret
      exact HF.out
end Go.Proofs.Ytccbbmkdmdllgaa.Line
