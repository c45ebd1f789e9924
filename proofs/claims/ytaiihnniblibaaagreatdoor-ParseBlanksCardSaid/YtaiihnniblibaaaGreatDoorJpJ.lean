import Derived.Test.YtaiihnniblibaaaGreatDoorLexWalk
import Derived.Test.YtaiihnniblibaaaGreatDoorLexMore
import Derived.Test.YtaiihnniblibaaaGreatDoorJpI

/-
 Layer 4 (lex): Tokens, at every slice of bytes up to a million.
-/
namespace Go.Proofs.YtaiihnniblibaaaGreatDoor.Lex
open Go.ChangeShapes Go.WideShapes Go.ChangeAt Go.RowKit Utf MemT
set_option linter.unusedVariables false

def TokensPost (xs : List Int) (w : World) (e : Ending) (w' : World) : Prop :=
 ∃ v, e = .returned (.tuple #[v, .int .i64 (lexN xs : Int), .int .i64 (lexE xs)]) ∧ OwnT w' w.heap.size v (lexT xs) ∧ Below w.heap.size w w'
theorem tokens_post {xs : List Int} {w w' : World} {v : Value} {nn : Int} {ee : Int} (h1 : nn = (lexN xs : Int)) (h2 : ee = lexE xs) (h3 : OwnT w' w.heap.size v (lexT xs)) (h4 : Below w.heap.size w w') :
  TokensPost xs w (.returned (.tuple #[v, .int .i64 nn, .int .i64 ee])) w' := ⟨v, by rw [h1, h2], h3, h4⟩

set_option maxHeartbeats 1000000 in
theorem tokens_any (A : Option Addr) (n cap : Nat) (xs : List Int) (w : World) (B : Nat) (h : RB w B A xs) (hB : B ≤ w.heap.size) (hn : xs.length = n) (hcap : n ≤ cap) (hcap' : cap ≤ maxLen) (hsm : n ≤ 1000000) (hT : Tab w) :
  Calls Tryz.prog 17 #[.slice A n cap] w (TokensPost xs w) := by
 have HBAD := Lib.hid (bad_any A n cap xs w B h hn hcap hcap')
 have HROW := Lib.hid (rows_any A n cap xs w B h hB hn hcap hcap' hsm hT)
 have hble : bad xs ≤ n := by rw [← hn]; exact bad_le h.byt
 have hlle : (left xs).length ≤ n := by rw [← hn]; exact left_le xs
 have hE : lexE xs = if bad xs < n then 3 else if left xs = [] then 0 else 4 := by rw [← hn]; rfl
 have hN : lexN xs = if bad xs < n then bad xs else if left xs = [] then 0 else n - (left xs).length := by rw [← hn]; rfl
 have hLT : lexT xs = if lexE xs = 0 then toks xs else [] := rfl
 have hlen : left xs = [] ↔ (left xs).length = 0 := by simp
 have Hn := Lib.hid hn
 have hnn : ¬ (16777216 : Int) < (n : Int) := by omega
 unfold maxLen at hcap'
 clear h hn hT
 by_cases hb : bad xs < n
 ·rw [if_pos hb] at hE hN
  have hfin : Hid (∀ nn ee, nn = (bad xs : Int) → ee = (3 : Int) → TokensPost xs w (.returned (.tuple #[.slice none 0 0, .int .i64 nn, .int .i64 ee])) w) := fun nn ee h1 h2 => tokens_post (by rw [h1, hN]) (by rw [h2, hE]) (by rw [hLT, hE]; exact World.ownsRow_nil _ _ _ _) (Below.refl _ _)
  clear hE hN hLT HROW hlle hlen Hn
  generalize bad xs = p at *
  have hpb : (p : Int) < (n : Int) := by omega
  go_enter Tryz.func17, Tryz.ntmps17
  go_wp2_with (go_at_call 25; refine HBAD.out.mono ?_; rintro e w' ⟨rfl, rfl⟩)
  go_ret3
  exact hfin.out _ _ rfl rfl
 ·rw [if_neg hb] at hE hN
  have hpb : ¬ (bad xs : Int) < (n : Int) := by omega
  generalize bad xs = p at *
  by_cases hl : left xs = []
  ·rw [if_pos hl] at hE hN
   have hl0 := hlen.1 hl
   have hfin : Hid (∀ v w', OwnT w' w.heap.size v (toks xs) → Below w.heap.size w w' → TokensPost xs w (.returned (.tuple #[v, .int .i64 0, .int .i64 0])) w') := fun v w' h1 h2 => tokens_post (by rw [hN]; rfl) hE.symm (by rw [hLT, hE]; exact h1) h2
   have HROW2 : Hid (Calls Tryz.prog 26 #[.slice A n cap] w fun e w' => ∃ v, e = .returned (.tuple #[v, .int .i64 (n : Int)]) ∧ OwnT w' w.heap.size v (toks xs) ∧ Below w.heap.size w w') := HROW.out.mono fun e w' ⟨v, h1, h2, h3⟩ => ⟨v, by rw [h1, Hn.out, hl0, Nat.sub_zero], h2, h3⟩
   clear hE hN hLT HROW hlle hlen Hn hl hl0
   go_enter Tryz.func17, Tryz.ntmps17
   go_wp2_with (first | (go_at_call 25; refine HBAD.out.mono ?_; rintro e w' ⟨rfl, rfl⟩) | (go_at_call 26; refine HROW2.out.mono ?_; rintro e w' ⟨v, rfl, ho, hbl⟩))
   go_ret3
   exact hfin.out _ _ ho hbl
  ·rw [if_neg hl] at hE hN
   have hl0 : ((n - (left xs).length : Nat) : Int) < (n : Int) := by
    have : (left xs).length ≠ 0 := fun e => hl (hlen.2 e)
    omega
   have hfin : Hid (∀ w' nn, nn = ((n - (left xs).length : Nat) : Int) → Below w.heap.size w w' → TokensPost xs w (.returned (.tuple #[.slice none 0 0, .int .i64 nn, .int .i64 4])) w') := fun w' nn h1 h2 => tokens_post (by rw [h1, hN]) hE.symm (by rw [hLT, hE]; exact World.ownsRow_nil _ _ _ _) h2
   have HROW2 : Hid (Calls Tryz.prog 26 #[.slice A n cap] w fun e w' => ∃ v, e = .returned (.tuple #[v, .int .i64 ((n - (left xs).length : Nat) : Int)]) ∧ OwnT w' w.heap.size v (toks xs) ∧ Below w.heap.size w w') := HROW.out.mono fun e w' ⟨v, h1, h2, h3⟩ => ⟨v, by rw [h1, Hn.out], h2, h3⟩
   clear hE hN hLT HROW hlle hlen Hn hl
   generalize n - (left xs).length = z at *
   go_enter Tryz.func17, Tryz.ntmps17
   go_wp2_with (first | (go_at_call 25; refine HBAD.out.mono ?_; rintro e w' ⟨rfl, rfl⟩) | (go_at_call 26; refine HROW2.out.mono ?_; rintro e w' ⟨v, rfl, ho, hbl⟩))
   go_ret3
   exact hfin.out _ _ rfl hbl

end Go.Proofs.YtaiihnniblibaaaGreatDoor.Lex

/-
 Layer 4 (lex): the chapter's examples hold in the program.
-/
namespace Go.Proofs.YtaiihnniblibaaaGreatDoor.Lex
open Go.ChangeShapes Go.WideShapes Go.ChangeAt Go.RowKit Utf MemT
set_option linter.unusedVariables false

def k1 : List Int := [120, 32, 58, 61, 32, 49, 32, 47, 47, 32, 111, 110, 101, 10, 121]
def k2 : List Int := [102, 40, 10, 97, 41]
def k3 : List Int := [97, 32, 36]
def t1 : List Tok := [⟨1, [120], 0, true⟩, ⟨4, [58, 61], 2, false⟩, ⟨2, [49], 5, false⟩, ⟨6, [], 6, false⟩, ⟨5, [47, 47, 32, 111, 110, 101], 7, false⟩, ⟨1, [121], 14, true⟩, ⟨6, [], 15, false⟩]
def t2 : List Tok := [⟨1, [102], 0, true⟩, ⟨4, [40], 1, false⟩, ⟨1, [97], 3, true⟩, ⟨4, [41], 4, false⟩, ⟨6, [], 5, false⟩]
theorem ownT_rt {w : World} {base : Nat} {v : Value} {L : List Tok} (h : OwnT w base v L) : ∃ a c, v = .slice a L.length c ∧ L.length ≤ c ∧ c ≤ maxLen ∧ RT tokC 4 w w.heap.size a L := by
 obtain ⟨a, c, rfl, h1, h2⟩ := ownT_slice h
 exact ⟨a, c, rfl, h1, h2, own_rt tokC_len h rfl⟩

end Go.Proofs.YtaiihnniblibaaaGreatDoor.Lex

/-
 Layer 6 (parse): Parse.
-/
namespace Go.Proofs.YtaiihnniblibaaaGreatDoor.Parse
open Go.ChangeShapes Go.WideShapes Go.ChangeAt Go.RowKit Tree MemT Mem Utf
set_option linter.unusedVariables false

theorem fin_len : ∀ (ps : List (Int × List Int)) (n : Nat) (f : Bool), (Lex.fin ps n f).length ≤ 2 * ps.length
 | [], _, _ => Nat.le_refl _
 | (k, t) :: ps, n, f => by
  unfold Lex.fin
  split
  ·have := fin_len ps (n + t.length) true; simp only [List.length_cons]; omega
  ·split
   ·have := fin_len ps (n + t.length) f; simp only [List.length_cons]; omega
   ·have := fin_len ps (n + t.length) false
    simp only [List.length_cons, List.length_append]
    split
    ·simp only [List.length_cons, List.length_nil]; omega
    ·simp only [List.length_nil]; omega
theorem tiles_len : ∀ {ps : List (Int × List Int)} {l z : List Int}, Lex.Tiles l ps z → ps.length ≤ l.length
 | [], _, _, _ => Nat.zero_le _
 | (k, t) :: ps, l, z, ⟨r, h1, _, h2, h3⟩ => by
  have := tiles_len h3
  rw [h1, List.length_append, List.length_cons]; omega
theorem toks_len (l : List Int) : (Lex.toks l).length ≤ 2 * l.length := by
 have h1 := fin_len (Lex.pieces l) 0 true
 have h2 := tiles_len (Lex.tiles_of l)
 unfold Lex.toks; omega
def tkOf (t : Lex.Tok) : Tk := ⟨t.kind, strOfNums t.text, t.place, t.first⟩
theorem rt_tk {w : World} {B : Nat} {A : Option Addr} {L : List Lex.Tok} (h : RT Lex.tokC 4 w B A L) : RT tkC 4 w B A (L.map tkOf) := by
 rcases h with h | ⟨b, e, hl, hc⟩
 ·exact .inl (by rw [h]; rfl)
 ·refine .inr ⟨b, e, hl, fun i x hx j u hu => ?_⟩
  rw [List.getElem?_map] at hx
  cases hi : L[i]? with
  | none => rw [hi] at hx; cases hx
  | some t =>
   rw [hi] at hx
   obtain rfl : tkOf t = x := by simpa using hx
   exact hc i t hi j u hu
/-- Parse, as mathematics. -/
def parseR (xs : List Int) : Rd Nd := if Lex.lexE xs = 0 then fileN xs.length ((Lex.toks xs).map tkOf) else .bad (Lex.lexN xs) (Lex.lexE xs)
def ParsePost (xs : List Int) (w : World) (e : Ending) (w' : World) : Prop :=
 Below w.heap.size w w' ∧ match parseR xs with
 | .ok n _ => ∃ A C, e = .returned (.tuple #[.agg #[.int .i64 n.k, .string n.x, .string n.y, .slice A n.c.len C], .int .i64 0, .int .i64 0]) ∧ Fs w' (Mi w.heap.size w'.heap.size) (.slice A n.c.len C) n.c
 | .bad p er => e = .returned (.tuple #[.agg #[.int .i64 0, .string ⟨#[]⟩, .string ⟨#[]⟩, .slice none 0 0], .int .i64 (p : Int), .int .i64 er])
theorem ps_new {W : World} {a : Option Addr} {c : Nat} {L : List Tk} (z : Nat) (h : RT tkC 4 W W.heap.size a L) (h1 : L.length ≤ c) (h2 : c ≤ maxLen) (hn : L.length ≤ 10000000) :
  PS (W.alloc (.cells #[.slice a L.length c, .int .i64 0, .int .i64 (z : Int), .int .i64 0] 46)) W.heap.size z L 0 := by
 refine ⟨a, L.length, c, 0, L, ⟨heap_alloc_new _ _, h.below ((Below.refl _ _).alloc (Nat.le_refl _) _) (Nat.le_refl _), rfl, Nat.zero_le _, hn, h1, ?_⟩, rfl⟩
 unfold maxLen at h2; omega
set_option maxHeartbeats 4000000 in
set_option maxRecDepth 100000 in
theorem parse_any (A : Option Addr) (n cap : Nat) (xs : List Int) (w : World) (B : Nat) (h : RB w B A xs) (hB : B ≤ w.heap.size) (hn : xs.length = n) (hcap : n ≤ cap) (hcap' : cap ≤ maxLen) (hsm : n ≤ 1000000) (hT : Lex.Tab w) :
  Calls Tryz.prog 9 #[.slice A n cap] w (ParsePost xs w) := by
 have hb0 : Below w.heap.size w (w.alloc ndZ) := ndz_below w
 have HTK := Lib.hid (Lex.tokens_any A n cap xs (w.alloc ndZ) B (h.below hb0 hB) (Nat.le_trans hB hb0.size) hn hcap hcap' hsm (hT.below hb0 hT.pos))
 have HB0 := Lib.hid hb0
 have HN := Lib.hid hn
 clear h hn hT hb0
 go_enter Tryz.func9, Tryz.ntmps9
 go_wp2_with fail
 refine HTK.out.mono ?_
 rintro e W ⟨v, rfl, ho, hb⟩
 obtain ⟨a, c, rfl, h1, h2, hrt⟩ := Lex.ownT_rt ho
 have HBX := Lib.hid ((ndz_box w).later hb)
 have HB := Lib.hid (HB0.out.trans (hb.mono (by simp)))
 by_cases hE : Lex.lexE xs = 0
 ·have hTT : Lex.lexT xs = Lex.toks xs := by unfold Lex.lexT; rw [if_pos hE]
  have hNN : Lex.lexN xs = 0 := by
   unfold Lex.lexE at hE
   unfold Lex.lexN
   split at hE
   ·cases hE
   ·rename_i hh
    rw [if_neg hh]
    split at hE
    ·rename_i h3; rw [if_pos h3]
    ·cases hE
  have hPR : Hid (parseR xs = fileN n ((Lex.toks xs).map tkOf)) := by show _ = _; unfold parseR; rw [if_pos hE, HN.out]
  rw [hTT] at h1 hrt ⊢
  rw [hE]
  have hLl : (Lex.toks xs).length = ((Lex.toks xs).map tkOf).length := by simp
  have htl := toks_len xs
  rw [HN.out] at htl
  have HRD := Lib.hid (read_any W.heap.size n _ _ (ps_new n (rt_tk hrt) (by rw [← hLl]; exact h1) h2 (by rw [← hLl]; omega)))
  rw [← hLl] at HRD
  generalize (Lex.toks xs).map tkOf = Ls at *
  generalize hm : (Lex.toks xs).length = m at *
  clear ho hb h1 hrt hTT hE hLl htl hm
  go_wp2_with fail
  refine HRD.out.mono ?_
  intro e W2 hp
  obtain ⟨hbe, hp⟩ := hp
  have hwl := HBX.out.lt
  have HBX2 := Lib.hid ((HBX.out.later ((Below.refl _ _).alloc (Nat.le_refl _) (.cells #[.slice a m c, .int .i64 0, .int .i64 (n : Int), .int .i64 0] 46))).bes hbe (Nat.ne_of_lt hwl))
  have HB2 := Lib.hid ((HB.out.trans (((Below.refl _ _).alloc (Nat.le_refl _) (.cells #[.slice a m c, .int .i64 0, .int .i64 (n : Int), .int .i64 0] 46)).mono (Nat.le_of_lt hwl))).trans ((hbe.lo (by simp)).mono (Nat.le_of_lt hwl)))
  obtain ⟨c0, c1, c2, c3⟩ := HBX2.out.cells
  obtain ⟨f0, f1, f2, f3⟩ := HBX2.out.frz
  have hsz : w.heap.size ≤ (W.alloc (.cells #[.slice a m c, .int .i64 0, .int .i64 (n : Int), .int .i64 0] 46)).heap.size := by simp; omega
  have HWL : Hid (w.heap.size < (W.alloc (.cells #[.slice a m c, .int .i64 0, .int .i64 (n : Int), .int .i64 0] 46)).heap.size) := by show _ < _; simp; omega
  clear hbe hsz
  cases hR : fileN n Ls with
  | bad pl er =>
   rw [hR] at hp
   have hp : e = _ := hp
   subst hp
   have HRR := Lib.hid hR
   clear hR
   go_wp2
   have b4 := HBX2.out.set4 (.int .i64 0) (.string ⟨#[]⟩) (.string ⟨#[]⟩) (.slice none 0 0)
   have hbl := (((HB2.out.setCell (p := ⟨w.heap.size, 0, none⟩) (Nat.le_refl _) (.int .i64 0)).setCell (p := ⟨w.heap.size, 1, none⟩) (Nat.le_refl _) (.string ⟨#[]⟩)).setCell (p := ⟨w.heap.size, 2, none⟩) (Nat.le_refl _) (.string ⟨#[]⟩)).setCell (p := ⟨w.heap.size, 3, none⟩) (Nat.le_refl _) (.slice none 0 0)
   clear c0 c1 c2 c3
   obtain ⟨c0, c1, c2, c3⟩ := b4.cells
   refine bodyPost_ret (v := .tuple #[.agg #[.int .i64 0, .string ⟨#[]⟩, .string ⟨#[]⟩, .slice none 0 0], .int .i64 (pl : Int), .int .i64 er]) (by simp [results, Tryz.results9, go_sem, c0, c1, c2, c3]) rfl ⟨hbl, ?_⟩
   rw [hPR.out, HRR.out]
   
  | ok nd l2 =>
   rw [hR] at hp
   obtain ⟨nk, nx, ny, nc⟩ := nd
   obtain ⟨A2, C2, rfl, hf⟩ := hp
   have HRR := Lib.hid hR
   have HFS := Lib.hid hf
   clear hR hf
   go_wp2
   have b4 := HBX2.out.set4 (.int .i64 nk) (.string nx) (.string ny) (.slice A2 nc.len C2)
   have hbl := (((HB2.out.setCell (p := ⟨w.heap.size, 0, none⟩) (Nat.le_refl _) (.int .i64 nk)).setCell (p := ⟨w.heap.size, 1, none⟩) (Nat.le_refl _) (.string nx)).setCell (p := ⟨w.heap.size, 2, none⟩) (Nat.le_refl _) (.string ny)).setCell (p := ⟨w.heap.size, 3, none⟩) (Nat.le_refl _) (.slice A2 nc.len C2)
   clear c0 c1 c2 c3
   obtain ⟨c0, c1, c2, c3⟩ := b4.cells
   refine bodyPost_ret (v := .tuple #[.agg #[.int .i64 nk, .string nx, .string ny, .slice A2 nc.len C2], .int .i64 0, .int .i64 0]) (by simp [results, Tryz.results9, go_sem, c0, c1, c2, c3]) rfl ⟨hbl, ?_⟩
   rw [hPR.out, HRR.out]
   exact ⟨A2, C2, rfl, mi_more (by rw [size_set4]; exact mi_set4 HFS.out (.inl HWL.out) _ _ _ _) (Nat.le_of_lt HWL.out) (Nat.le_refl _)⟩
 ·have hPR : Hid (parseR xs = .bad (Lex.lexN xs) (Lex.lexE xs)) := by show _ = _; unfold parseR; rw [if_neg hE]
  generalize Lex.lexE xs = er at *
  generalize Lex.lexN xs = pl at *
  clear ho h1 hrt
  have HBX2 := HBX
  have HB2 := HB
  obtain ⟨c0, c1, c2, c3⟩ := HBX.out.cells
  obtain ⟨f0, f1, f2, f3⟩ := HBX.out.frz
  go_wp2
  have b4 := HBX2.out.set4 (.int .i64 0) (.string ⟨#[]⟩) (.string ⟨#[]⟩) (.slice none 0 0)
  have hbl := (((HB2.out.setCell (p := ⟨w.heap.size, 0, none⟩) (Nat.le_refl _) (.int .i64 0)).setCell (p := ⟨w.heap.size, 1, none⟩) (Nat.le_refl _) (.string ⟨#[]⟩)).setCell (p := ⟨w.heap.size, 2, none⟩) (Nat.le_refl _) (.string ⟨#[]⟩)).setCell (p := ⟨w.heap.size, 3, none⟩) (Nat.le_refl _) (.slice none 0 0)
  clear c0 c1 c2 c3
  obtain ⟨c0, c1, c2, c3⟩ := b4.cells
  refine bodyPost_ret (v := .tuple #[.agg #[.int .i64 0, .string ⟨#[]⟩, .string ⟨#[]⟩, .slice none 0 0], .int .i64 (pl : Int), .int .i64 er]) (by simp [results, Tryz.results9, go_sem, c0, c1, c2, c3]) rfl ⟨hbl, ?_⟩
  rw [hPR.out]
  
end Go.Proofs.YtaiihnniblibaaaGreatDoor.Parse
