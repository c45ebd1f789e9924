/-
 Layer 4 (lex): the closure of row that keeps a token and puts ends in.
-/
import Derived.Test.YtaiihnniblibaaaGreatDoorLexWord
import Derived.Test.YtaiihnniblibaaaGreatDoorJpB
namespace Go.Proofs.YtaiihnniblibaaaGreatDoor.Lex
open Go.ChangeShapes Go.WideShapes Go.ChangeAt Go.RowKit Utf MemT
set_option linter.unusedVariables false

def tokC (t : Tok) : List Value := [.int .i64 t.kind, .string (strOfNums t.text), .int .i64 (t.place : Int), .bool t.first]
theorem tokC_len (t : Tok) : (tokC t).length = 4 := rfl
theorem tok_info : (Tryz.prog.info? 75).map (fun i => (i.zero, i.size, i.bytes)) = some (some (.agg #[.int .i64 0, .string ⟨#[]⟩, .int .i64 0, .bool false]), 4, 40) := by kernel_rfl

/-- The row of tokens of the call's own. -/
def OwnT (w : World) (base : Nat) (v : Value) (L : List Tok) : Prop := w.ownsRow base 75 4 v L.length (L.flatMap tokC)

/-- What the closure has caught, at the blocks g to g + 4. -/
structure Cg (g : Nat) (A : Option Addr) (n cap : Nat) (s : St) (w : World) : Prop where
 b : w.heap[g]? = some (.cells #[.slice A n cap] 30 (0, 0))
 l : ∃ v, w.heap[g + 1]? = some (.cells #[v] 38 (0, 0)) ∧ OwnT w (g + 5) v s.toks
 f : w.heap[g + 2]? = some (.cells #[.bool s.first] 4 (0, 0))
 o : w.heap[g + 3]? = some (.cells #[.bool s.opn] 4 (0, 0))
 p : w.heap[g + 4]? = some (.cells #[.int .i64 (s.beh : Int)] 3 (0, 0))

theorem app_tok (w : World) {ops : Array Oper} {rest : List Oper} {o : Oper} {a : Act} {Q : Exit → Act → World → Prop} (hgd : o.guard = none) (s x : Operand)
  (ho : o.op = .call { callee := .builtin .append, args := #[s, x], argTypes := #[38, 38] }) (base : Nat) (v : Value) (L : List Tok) (t : Tok) (hs : a.eval s = v) (hown : OwnT w base v L)
  (g : Nat) (hg : g = w.heap.size) (hx : a.eval x = .slice (some ⟨g, 0, none⟩) 1 1) (h63 : L.length ≤ 10000000) (hbase : base ≤ w.heap.size)
  (h : ∀ v' w', OwnT w' base v' (L ++ [t]) → (w.alloc (.cells (tokC t).toArray 75)).grownBy w' v.ownBlock → (∀ B, (∀ b, v.ownBlock = some b → B ≤ b) → B ≤ w.heap.size → Below B w w') →
   (v'.ownBlock = v.ownBlock ∨ v'.ownBlock = some (w.heap.size + 1)) → wpList Tryz.prog ops Q rest (a.put o.dst v') w') :
  wpList Tryz.prog ops Q (o :: rest) a (w.alloc (.cells (tokC t).toArray 75)) := by
 obtain ⟨i0, hi0, hz0, hz1, hz2⟩ := info_parts tok_info
 refine app_cells w hgd s x ho Tryz.underlying38 hi0 hz0 hz1 hz2 rfl (by decide) base v L.length _ (tokC t) hs hown rfl (by intro u hu; simp [tokC] at hu; rcases hu with rfl | rfl | rfl | rfl <;> rfl) g hg hx h63 (by omega) hbase fun v' w' h1 h2 h3 h4 => ?_
 exact h v' w' (by unfold OwnT; rw [List.length_append, List.flatMap_append]; simpa using h1) h2 h3 h4

theorem ownT_slice {w : World} {base : Nat} {v : Value} {L : List Tok} (h : OwnT w base v L) : ∃ a cap, v = .slice a L.length cap ∧ L.length ≤ cap ∧ cap ≤ maxLen := own_slice h

section
variable {g n cap : Nat} {A : Option Addr} {s : St} {w w' : World}
theorem one_set {w : World} {g k : Nat} {u v : Value} {T T' : TypeId} (h : w.heap[g]? = some (.cells #[u] T (0, 0))) (hne : g ≠ k) (x : Value) : (w.setCell ⟨k, 0, none⟩ x).heap[g]? = some (.cells #[u] T (0, 0)) :=
 (Below.heap_setCell w ⟨k, 0, none⟩ x g hne).trans h
theorem ownT_set {w : World} {base : Nat} {v : Value} {L : List Tok} (h : OwnT w base v L) {k : Nat} (hk : k < base) (x : Value) : OwnT (w.setCell ⟨k, 0, none⟩ x) base v L := ownsRow_setCell_below h (a := ⟨k, 0, none⟩) hk x
/-- One token more in the row that the closure has caught. -/
theorem Cg.app {v v1 : Value} {L : List Tok} {w1 : World} (hc : Cg g A n cap s w) (hl : w.heap[g + 1]? = some (.cells #[v] 38 (0, 0)))
  (hb : Below (g + 5) w w1) (hown1 : OwnT w1 (g + 5) v1 L) : Cg g A n cap { s with toks := L } (w1.setCell ⟨g + 1, 0, none⟩ v1) where
 b := one_set (v := v) (T' := 3) ((hb.block g (by omega)).trans hc.b) (by omega) _
 l := ⟨v1, one_setCell ((hb.block (g + 1) (by omega)).trans hl), ownT_set hown1 (by omega) _⟩
 f := one_set (v := v) (T' := 3) ((hb.block (g + 2) (by omega)).trans hc.f) (by omega) _
 o := one_set (v := v) (T' := 3) ((hb.block (g + 3) (by omega)).trans hc.o) (by omega) _
 p := one_set (v := v) (T' := 3) ((hb.block (g + 4) (by omega)).trans hc.p) (by omega) _
theorem Cg.setF (hc : Cg g A n cap s w) (x : Bool) : Cg g A n cap { s with first := x } (w.setCell ⟨g + 2, 0, none⟩ (.bool x)) where
 b := one_set (v := .bool x) (T' := 3) hc.b (by omega) _
 l := by obtain ⟨v, h1, h2⟩ := hc.l; exact ⟨v, one_set (v := v) (T' := 3) h1 (by omega) _, ownT_set h2 (by omega) _⟩
 f := one_setCell hc.f
 o := one_set (v := .bool x) (T' := 3) hc.o (by omega) _
 p := one_set (v := .bool x) (T' := 3) hc.p (by omega) _
theorem Cg.setO (hc : Cg g A n cap s w) (x : Bool) : Cg g A n cap { s with opn := x } (w.setCell ⟨g + 3, 0, none⟩ (.bool x)) where
 b := one_set (v := .bool x) (T' := 3) hc.b (by omega) _
 l := by obtain ⟨v, h1, h2⟩ := hc.l; exact ⟨v, one_set (v := v) (T' := 3) h1 (by omega) _, ownT_set h2 (by omega) _⟩
 f := one_set (v := .bool x) (T' := 3) hc.f (by omega) _
 o := one_setCell hc.o
 p := one_set (v := .bool x) (T' := 3) hc.p (by omega) _
theorem Cg.setP (hc : Cg g A n cap s w) (x : Nat) : Cg g A n cap { s with beh := x } (w.setCell ⟨g + 4, 0, none⟩ (.int .i64 (x : Int))) where
 b := one_set (v := .bool true) (T' := 3) hc.b (by omega) _
 l := by obtain ⟨v, h1, h2⟩ := hc.l; exact ⟨v, one_set (v := v) (T' := 3) h1 (by omega) _, ownT_set h2 (by omega) _⟩
 f := one_set (v := .bool true) (T' := 3) hc.f (by omega) _
 o := one_set (v := .bool true) (T' := 3) hc.o (by omega) _
 p := one_setCell hc.p
theorem Cg.below (hc : Cg g A n cap s w) (hb : Below w.heap.size w w') : Cg g A n cap s w' where
 b := (hb.block g (lt_of_block hc.b)).trans hc.b
 l := by obtain ⟨v, h1, h2⟩ := hc.l; exact ⟨v, (hb.block _ (lt_of_block h1)).trans h1, own_below h2 hb (Nat.le_refl _)⟩
 f := (hb.block _ (lt_of_block hc.f)).trans hc.f
 o := (hb.block _ (lt_of_block hc.o)).trans hc.o
 p := (hb.block _ (lt_of_block hc.p)).trans hc.p
theorem Cg.size (hc : Cg g A n cap s w) : g + 5 ≤ w.heap.size := lt_of_block hc.p
end

def RowPost (g : Nat) (A : Option Addr) (n cap : Nat) (s : St) (w : World) (e : Ending) (w' : World) : Prop := e = .returned (.tuple #[]) ∧ Cg g A n cap s w' ∧ Below g w w'
/-- The arguments: what stands ahead of the caught ones, and these. -/
def rowArgs (g : Nat) (k : Int) (a b : Nat) : Array Value := #[.int .i64 k, .int .i64 (a : Int), .int .i64 (b : Int), .pointer (some ⟨g + 3, 0, none⟩), .pointer (some ⟨g + 1, 0, none⟩), .pointer (some ⟨g + 4, 0, none⟩), .pointer (some ⟨g + 2, 0, none⟩), .pointer (some ⟨g, 0, none⟩)]

/-- A newline or a blank where no end is due. -/
theorem row_skip (g : Nat) (A : Option Addr) (n cap : Nat) (s : St) (k : Int) (a b : Nat) (w : World) (hc : Cg g A n cap s w) (hk : (k = 8 ∧ s.opn = false) ∨ k = 7) (t : List Int) :
  Calls Tryz.prog 41 (rowArgs g k a b) w (RowPost g A n cap (keep s k t a) w) := by
 have ho := cell_of_one hc.o
 have hf := cell_of_one hc.f
 have hff := free_of_one hc.f
 unfold rowArgs
 rcases hk with ⟨rfl, h1⟩ | rfl
 ·have hfin : Hid (RowPost g A n cap (keep s 8 t a) w (.returned (.tuple #[])) (w.setCell ⟨g + 2, 0, none⟩ (.bool true))) := ⟨rfl, by
   have := hc.setF true
   simpa [keep, h1] using this, (Below.refl _ _).setCell (p := ⟨g + 2, 0, none⟩) (by show g ≤ g + 2; omega) _⟩
  rw [h1] at ho
  clear hc h1
  go_enter Tryz.func41, Tryz.ntmps41
  go_wp2
  go_end0
  exact hfin.out
 ·have hfin : Hid (RowPost g A n cap (keep s 7 t a) w (.returned (.tuple #[])) w) := ⟨rfl, by
   have : keep s 7 t a = s := by simp [keep]
   rw [this]; exact hc, Below.refl _ _⟩
  obtain ⟨o, hoo⟩ : ∃ o, s.opn = o := ⟨_, rfl⟩
  rw [hoo] at ho
  clear hc hoo hf hff
  cases o
  all_goals
   go_enter Tryz.func41, Tryz.ntmps41
   go_wp2
   go_end0
   exact hfin.out

theorem st_len {s : St} {k : Int} {t : List Int} {a : Nat} : (keep s k t a).toks.length ≤ s.toks.length + 2 := by
 unfold keep ended
 split <;> (repeat' split) <;> simp

set_option maxHeartbeats 1000000 in
/-- A newline where an end is due. -/
theorem row_end (g : Nat) (A : Option Addr) (n cap : Nat) (s : St) (a b : Nat) (w : World) (hc : Cg g A n cap s w) (ho : s.opn = true) (hl : s.toks.length ≤ 3000000) (t : List Int) :
  Calls Tryz.prog 41 (rowArgs g 8 a b) w (RowPost g A n cap (keep s 8 t a) w) := by
 obtain ⟨v, hv, hown⟩ := hc.l
 have hsz := hc.size
 have hco := cell_of_one hc.o; have hfo := free_of_one hc.o
 have hcf := cell_of_one hc.f; have hff := free_of_one hc.f
 have hcl := cell_of_one hv
 have hcp := cell_of_one hc.p
 rw [ho] at hco
 have HC := Lib.hid hc; have HV := Lib.hid hv; have HO := Lib.hid hown; have Ho := Lib.hid ho
 clear hc hv hown ho
 unfold rowArgs
 go_enter Tryz.func41, Tryz.ntmps41
 go_wp2_with (at_builtin; refine app_tok _ rfl _ _ rfl (g + 5) v s.toks ⟨6, [], s.beh, false⟩ rfl HO.out w.heap.size rfl rfl ?c1 hsz ?_)
 case c1 => omega
 intro v1 w1 hown1 hgr hbel hat
 have hb := hbel (g + 5) (fun k hk => (HO.out.lt k hk).1) hsz
 have hkeep : keep s 8 t a = ⟨s.toks ++ [⟨6, [], s.beh, false⟩], true, false, s.beh⟩ := by simp [keep, ended, Ho.out]
 have hfin : Hid (RowPost g A n cap (keep s 8 t a) w (.returned (.tuple #[])) (((w1.setCell ⟨g + 1, 0, none⟩ v1).setCell ⟨g + 3, 0, none⟩ (.bool false)).setCell ⟨g + 2, 0, none⟩ (.bool true))) := ⟨rfl, by
  rw [hkeep]
  exact ((HC.out.app HV.out hb hown1).setO false).setF true, (((hb.mono (by omega)).setCell (p := ⟨g + 1, 0, none⟩) (by show g ≤ g + 1; omega) _).setCell (p := ⟨g + 3, 0, none⟩) (by show g ≤ g + 3; omega) _).setCell (p := ⟨g + 2, 0, none⟩) (by show g ≤ g + 2; omega) _⟩
 have h1 : w1.heap[g + 1]? = some (.cells #[v] 38 (0, 0)) := (hb.block (g + 1) (by omega)).trans HV.out
 have h2 : w1.heap[g + 2]? = some (.cells #[.bool s.first] 4 (0, 0)) := (hb.block (g + 2) (by omega)).trans HC.out.f
 have h3 : w1.heap[g + 3]? = some (.cells #[.bool s.opn] 4 (0, 0)) := (hb.block (g + 3) (by omega)).trans HC.out.o
 have c1 := cell_of_one h1; have f1 := free_of_one h1
 have c2 := cell_of_one h2; have f2 := free_of_one h2
 have c3 := cell_of_one h3; have f3 := free_of_one h3
 obtain ⟨a1, q1, rfl, _, _⟩ := ownT_slice hown1
 clear hkeep hgr hbel hat hb h1 h2 h3 hown1 hco hfo hcf hff hcl hcp
 generalize (s.toks ++ [(⟨6, [], s.beh, false⟩ : Tok)]).length = N at *
 go_wp2
 go_end0
 exact hfin.out

/-- The text of a piece, in any later world. -/
theorem conv_piece {w : World} {B b0 off n cap a m : Nat} {xs : List Int} (h : RB w B (some ⟨b0, off, none⟩) xs) (hn : xs.length = n) (ham : a + m ≤ n) :
  (convert 30 9 (.slice (some ⟨b0, off + a, none⟩) m (cap - a))).run Tryz.prog w = .ok (.string (strOfNums ((xs.drop a).take m))) w := by
 have h2 : RB w B (some ⟨b0, off + a, none⟩) ((xs.drop a).take m) := ⟨(h.1.drop a).take m, by
  rcases h.2 with e | ⟨b, o, e, hb, hc⟩
  ·left; rw [e]; simp
  ·obtain ⟨rfl, rfl⟩ : b0 = b ∧ off = o := by simpa using e
   refine .inr ⟨b0, off + a, rfl, hb, fun i hi => ?_⟩
   rw [List.length_take, List.length_drop] at hi
   rw [Nat.add_assoc, hc (a + i) (by omega), getD_take (by omega), getD_drop]⟩
 have := run_conv (P := Tryz.prog) w 30 9 5 Tryz.underlying30 Tryz.underlying5 Tryz.underlying9 h2 (cap - a)
 rw [List.length_take, List.length_drop, show min m (xs.length - a) = m from by omega] at this
 exact this

/-- A block of four cells, read cell by cell. -/
theorem four {w : World} {N : Nat} {T : TypeId} {a b c d : Value} (h : w.heap[N]? = some (.cells #[a, b, c, d] T (0, 0))) :
  w.cell? ⟨N, 0, none⟩ = some a ∧ w.cell? ⟨N, 1, none⟩ = some b ∧ w.cell? ⟨N, 2, none⟩ = some c ∧ w.cell? ⟨N, 3, none⟩ = some d := by
 simp [World.cell?, h]

set_option maxHeartbeats 4000000 in
/-- A token, with the end ahead of it where one is due. -/
theorem row_tok (g b0 off n cap : Nat) (s0 : St) (k : Int) (a b m : Nat) (xs : List Int) (W0 w00 : World) (h00 : Below g w00 W0) (hb' : b = a + m) (hc : Cg g (some ⟨b0, off, none⟩) n cap s0 W0) (hrb : RB W0 g (some ⟨b0, off, none⟩) xs) (hn : xs.length = n) (hncap : n ≤ cap) (hcapm : cap ≤ maxLen) (hm : 0 < m) (hmn : b ≤ n) (hsm : n ≤ 1000000)
  (hk8 : k ≠ 8) (hk7 : k ≠ 7) (hl : s0.toks.length ≤ 3000000) :
  Calls Tryz.prog 41 (rowArgs g k a b) W0 (RowPost g (some ⟨b0, off, none⟩) n cap (keep s0 k ((xs.drop a).take m) a) w00) := by
 have HCONV : Hid (∀ W, Below g W0 W → (convert 30 9 (.slice (some ⟨b0, off + a, none⟩) m (cap - a))).run Tryz.prog W = .ok (.string (strOfNums ((xs.drop a).take m))) W) := fun W hW => conv_piece (hrb.below hW (Nat.le_refl _)) hn (by omega)
 have b8 := beq_no hk8; have b7 := beq_no hk7
 have hlen : ((xs.drop a).take m).length = m := by rw [List.length_take, List.length_drop]; omega
 have hbt : Byt ((xs.drop a).take m) := (hrb.byt.drop a).take m
 generalize (xs.drop a).take m = t at *
 obtain ⟨K, hK⟩ : ∃ K, keep s0 k t a = K := ⟨_, rfl⟩
 have hk1 : ¬ (s0.opn = true ∧ k = 5) → K = ⟨s0.toks ++ [⟨k, t, a, s0.first⟩], false, closes k t, b⟩ := fun ho => by
  have : ¬ (s0.opn = true ∧ (k = 8 ∨ k = 5)) := fun ⟨h1, h2⟩ => ho ⟨h1, h2.resolve_left hk8⟩
  rw [← hK]; simp only [keep, if_neg this, if_neg hk8, if_neg hk7, hlen, hb']
 have hk2 : (s0.opn = true ∧ k = 5) → K = ⟨(ended s0).toks ++ [⟨k, t, a, (ended s0).first⟩], false, closes k t, b⟩ := fun ho => by
  have : s0.opn = true ∧ (k = 8 ∨ k = 5) := ⟨ho.1, .inr ho.2⟩
  rw [← hK]; simp only [keep, if_pos this, if_neg hk8, if_neg hk7, hlen, hb']
 rw [hK]
 have hab : b - a = m := by omega
 have hle1 : (a : Int) ≤ b := by omega
 have hle2 : (b : Int) ≤ cap := by omega
 have hne : ¬ cap = a := by omega
 have HEN := Lib.hid (fun (f : Bool) (w : World) => ending_is k t hbt (a : Int) f w)
 have HK1 := Lib.hid hk1; have HK2 := Lib.hid hk2; have HAB := Lib.hid hab
 clear hK hk1 hk2 hrb hn hbt hb' hk8 hk7 hlen
 unfold maxLen at hcapm
 have hsz := hc.size
 have hco := cell_of_one hc.o; have hfo := free_of_one hc.o
 have hcp := cell_of_one hc.p
 have hg0 : ∃ o, s0.opn = o := ⟨_, rfl⟩
 obtain ⟨o, hoo⟩ := hg0
 rw [hoo] at hco HK1 HK2
 have Hoo := Lib.hid hoo
 have H00 := Lib.hid h00
 clear hoo h00
 have hcase : o = false ∨ (o = true ∧ (k == 5) = false ∧ k ≠ 5) ∨ (o = true ∧ (k == 5) = true ∧ k = 5) := by
  cases o
  ·exact .inl rfl
  ·by_cases h : k = 5
   ·exact .inr (.inr ⟨rfl, by rw [h]; rfl, h⟩)
   ·exact .inr (.inl ⟨rfl, beq_no h, h⟩)
 unfold rowArgs
 rcases hcase with rfl | ⟨rfl, b5, hk5⟩ | ⟨rfl, b5, hk5⟩
 case' inl =>
  have HK := Lib.hid (HK1.out (by simp))
  have HC := Lib.hid hc
  clear HK1 HK2 hfo hcp hc Hoo
  go_enter Tryz.func41, Tryz.ntmps41
  go_wp2
 case' inr.inl =>
  have HK := Lib.hid (HK1.out (fun h => hk5 h.2))
  have HC := Lib.hid hc
  clear HK1 HK2 hfo hcp hc hk5 Hoo
  go_enter Tryz.func41, Tryz.ntmps41
  go_wp2
 case' inr.inr =>
  have HK := Lib.hid (HK2.out ⟨rfl, hk5⟩)
  obtain ⟨v, hv, hown⟩ := hc.l
  have hcl := cell_of_one hv
  have HC := Lib.hid hc; have HV := Lib.hid hv; have HO := Lib.hid hown
  clear hc hv hown HK1 HK2 hk5
  go_enter Tryz.func41, Tryz.ntmps41
  go_wp2_with (at_builtin; refine app_tok _ rfl _ _ rfl (g + 5) v s0.toks ⟨6, [], s0.beh, false⟩ rfl HO.out W0.heap.size rfl rfl ?c1 hsz ?_)
  case c1 => omega
  intro v1 w1 hown1 hgr hbel hat
  have hb := hbel (g + 5) (fun k hk => (HO.out.lt k hk).1) hsz
  have hbg : Below g W0 ((w1.setCell ⟨g + 1, 0, none⟩ v1).setCell ⟨g + 3, 0, none⟩ (.bool false)) := ((hb.mono (by omega)).setCell (p := ⟨g + 1, 0, none⟩) (by show g ≤ g + 1; omega) _).setCell (p := ⟨g + 3, 0, none⟩) (by show g ≤ g + 3; omega) _
  have hC0 : Cg g (some ⟨b0, off, none⟩) n cap (ended s0) ((w1.setCell ⟨g + 1, 0, none⟩ v1).setCell ⟨g + 3, 0, none⟩ (.bool false)) := (HC.out.app HV.out hb hown1).setO false
  have HCONV0 : Hid (∀ W, Below g ((w1.setCell ⟨g + 1, 0, none⟩ v1).setCell ⟨g + 3, 0, none⟩ (.bool false)) W → (convert 30 9 (.slice (some ⟨b0, off + a, none⟩) m (cap - a))).run Tryz.prog W = .ok (.string (strOfNums t)) W) := fun W hW => HCONV.out W (hbg.trans hW)
  have H000 := Lib.hid (H00.out.trans hbg)
  have hl2 : (ended s0).toks.length ≤ 3000001 := by simp [ended]; omega
  have h1 : w1.heap[g + 1]? = some (.cells #[v] 38 (0, 0)) := (hb.block (g + 1) (by omega)).trans HV.out
  have h3 : w1.heap[g + 3]? = some (.cells #[.bool s0.opn] 4 (0, 0)) := (hb.block (g + 3) (by omega)).trans HC.out.o
  have c1 := cell_of_one h1; have f1 := free_of_one h1
  have c3 := cell_of_one h3; have f3 := free_of_one h3
  obtain ⟨a1, q1, rfl, _, _⟩ := ownT_slice hown1
  have HC0 := Lib.hid hC0
  clear HC HV HO HCONV H00 hgr hbel hat hb h1 h3 hown1 hco hfo hcl hcp hbg hC0 Hoo hsz hl
  generalize (s0.toks ++ [(⟨6, [], s0.beh, false⟩ : Tok)]).length = N at *
  go_wp2
  generalize ((w1.setCell ⟨g + 1, 0, none⟩ (.slice a1 N q1)).setCell ⟨g + 3, 0, none⟩ (.bool false)) = W0 at *
  generalize ended s0 = s0 at *
  clear c1 f1 c3 f3
  have HC := HC0; have HCONV := HCONV0; have H00 := H000
  clear HC0 HCONV0 H000
  have hsz := HC.out.size
  have hl := hl2
 all_goals
  have hl3 : s0.toks.length ≤ 3000001 := by omega
  have hcf := cell_of_one HC.out.f; have hcb := cell_of_one HC.out.b
  have l0 : g < W0.heap.size := by omega
  have l2 : g + 2 < W0.heap.size := by omega
  have hconv2 : ∀ o, (convert 30 9 (.slice (some ⟨b0, off + a, none⟩) m (cap - a))).run Tryz.prog (W0.alloc o).drew = .ok (.string (strOfNums t)) (W0.alloc o).drew := fun o => HCONV.out _ (below_drewN ((Below.refl g W0).alloc (by omega) o) 1)
  have hconv1 : (convert 30 9 (.slice (some ⟨b0, off + a, none⟩) m (cap - a))).run Tryz.prog W0.drew = .ok (.string (strOfNums t)) W0.drew := HCONV.out _ (below_drewN (Below.refl g W0) 1)
  have hab := HAB.out
  go_region
 all_goals
  have hB0 : Below W0.heap.size W0 (W0.alloc (.cells #[.int .i64 k, .string (strOfNums t), .int .i64 (a : Int), .bool s0.first] 75)).drew := below_drewN ((Below.refl _ _).alloc (Nat.le_refl _) _) 1
  have hnew : (W0.alloc (.cells #[.int .i64 k, .string (strOfNums t), .int .i64 (a : Int), .bool s0.first] 75)).drew.heap[W0.heap.size]? = some (.cells #[.int .i64 k, .string (strOfNums t), .int .i64 (a : Int), .bool s0.first] 75 (0, 0)) := heap_alloc_new W0 _
  generalize (W0.alloc (.cells #[.int .i64 k, .string (strOfNums t), .int .i64 (a : Int), .bool s0.first] 75)).drew = W at *
  have hcW := HC.out.below hB0
  obtain ⟨v, hv0, hown0⟩ := HC.out.l
  have hvW := (hB0.block _ (lt_of_block hv0)).trans hv0
  have hoW : OwnT W (g + 5) v s0.toks := own_below hown0 hB0 (Nat.le_refl _)
  have HVN : Hid (∀ q, v.ownBlock = some q → q < W0.heap.size) := fun q hq => (hown0.lt q hq).2
  have HBW := Lib.hid (H00.out.trans (hB0.mono (show g ≤ W0.heap.size by omega)))
  have hszW := hB0.size
  have HNEW := Lib.hid hnew
  have h4 := four hnew
  clear hconv1 hconv2 hcb hcf hv0 hown0 HC hB0 hnew H00 HCONV hab l0 l2
  generalize W0.heap.size = N at *
  have clW := cell_of_one hvW; have flW := free_of_one hvW
  obtain ⟨d0, d1, d2, d3⟩ := h4
  have hsW := hcW.size
  have hl4 : s0.toks.length ≤ 10000000 := by omega
  have HC := Lib.hid hcW; have HV := Lib.hid hvW; have HO := Lib.hid hoW
  clear hcW hvW hoW
  go_wp2_with (at_builtin; refine app_tok _ rfl _ _ rfl (g + 5) v s0.toks ⟨k, t, a, s0.first⟩ rfl HO.out W.heap.size rfl rfl hl4 hsW ?_)
  intro v1 w1 hown1 hgr hbel hat
  have hb := hbel (g + 5) (fun q hq => (HO.out.lt q hq).1) hsW
  have hNW : N < W.heap.size := lt_of_block HNEW.out
  have hN1 : w1.heap[N]? = some (.cells #[.int .i64 k, .string (strOfNums t), .int .i64 (a : Int), .bool s0.first] 75 (0, 0)) :=
   (hgr.block N (by simp; omega) (fun e => by have := HVN.out N e.symm; omega)).trans ((Below.heap_alloc W _ N hNW).trans HNEW.out)
  have hC1 := HC.out.app HV.out hb hown1
  have hbg : Below g w00 (w1.setCell ⟨g + 1, 0, none⟩ v1) := (HBW.out.trans (hb.mono (by omega))).setCell (p := ⟨g + 1, 0, none⟩) (by show g ≤ g + 1; omega) _
  have h4 : (w1.setCell ⟨g + 1, 0, none⟩ v1).heap[N]? = some (.cells #[.int .i64 k, .string (strOfNums t), .int .i64 (a : Int), .bool s0.first] 75 (0, 0)) := (Below.heap_setCell w1 ⟨g + 1, 0, none⟩ v1 N (by show N ≠ g + 1; omega)).trans hN1
  obtain ⟨e0, e1, e2, e3⟩ := four h4
  have h1 : w1.heap[g + 1]? = some (.cells #[v] 38 (0, 0)) := (hb.block (g + 1) (by omega)).trans HV.out
  have c1 := cell_of_one h1; have f1 := free_of_one h1
  have hC2 := hC1.below ((Below.refl _ _).alloc (Nat.le_refl _) (.cells #[.int .i64 k, .string (strOfNums t), .int .i64 (a : Int), .bool s0.first] 75))
  have s2 := hC2.f; have s3 := hC2.o; have s4 := hC2.p
  have c2 := cell_of_one s2; have f2 := free_of_one s2
  have c3 := cell_of_one s3; have f3 := free_of_one s3
  have c4 := cell_of_one s4; have f4 := free_of_one s4
  have hs1 := hC1.size
  have HE1 := Lib.hid (HEN.out s0.first (w1.setCell ⟨g + 1, 0, none⟩ v1))
  have hfin : Hid (RowPost g (some ⟨b0, off, none⟩) n cap K w00 (.returned (.tuple #[])) (((((w1.setCell ⟨g + 1, 0, none⟩ v1).alloc (.cells #[.int .i64 k, .string (strOfNums t), .int .i64 (a : Int), .bool s0.first] 75)).setCell ⟨g + 2, 0, none⟩ (.bool false)).setCell ⟨g + 3, 0, none⟩ (.bool (closes k t))).setCell ⟨g + 4, 0, none⟩ (.int .i64 (b : Int)))) := ⟨rfl, by
   rw [HK.out]
   exact (((hC1.below ((Below.refl _ _).alloc (Nat.le_refl _) _)).setF false).setO (closes k t)).setP b,
   (((hbg.alloc (by omega) _).setCell (p := ⟨g + 2, 0, none⟩) (by show g ≤ g + 2; omega) _).setCell (p := ⟨g + 3, 0, none⟩) (by show g ≤ g + 3; omega) _).setCell (p := ⟨g + 4, 0, none⟩) (by show g ≤ g + 4; omega) _⟩
  obtain ⟨a1, q1, rfl, _, _⟩ := ownT_slice hown1
  clear hs1 hgr hbel hat hb hN1 hC1 hC2 hbg h4 h1 s2 s3 s4 hown1 clW flW HNEW HV HO HC HBW HVN HEN HK HAB d0 d1 d2 d3
  generalize (s0.toks ++ [(⟨k, t, a, s0.first⟩ : Tok)]).length = M at *
  generalize closes k t = cl at *
  go_wp2_with fail
  generalize (w1.setCell ⟨g + 1, 0, none⟩ (.slice a1 M q1)) = W2 at *
  refine HE1.out.mono ?_
  rintro e w' ⟨rfl, rfl⟩
  generalize W2.alloc (.cells #[.int .i64 k, .string (strOfNums t), .int .i64 (a : Int), .bool s0.first] 75) = W3 at *
  go_wp2
  go_end0
  exact hfin.out

end Go.Proofs.YtaiihnniblibaaaGreatDoor.Lex
