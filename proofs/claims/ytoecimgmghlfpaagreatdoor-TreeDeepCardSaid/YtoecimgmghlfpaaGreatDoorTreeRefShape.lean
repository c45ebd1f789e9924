/-
  Layer 5 (tree): the document's token and shape: a node's text and Kids as its kind asks. Written by gen_treerefshape.py.
-/
import Derived.Test.YtoecimgmghlfpaaGreatDoorJoinRef
import Derived.Test.YtoecimgmghlfpaaGreatDoorTreeRefParen
import Derived.Test.YtoecimgmghlfpaaGreatDoorTreeTok
import Derived.Test.YtoecimgmghlfpaaGreatDoorJoinLexRef
namespace Go.Proofs.YtoecimgmghlfpaaGreatDoor.Tree
open Go.ChangeShapes Go.WideShapes Go.ChangeAt Go.RowKit Mem
set_option linter.unusedVariables false

theorem refNm_any (x : ByteArray) (hx : x.size ≤ 1000000) (w : World) : Calls Tryz.prog 45 #[.string x] w fun e w' => e = .returned (.bool (nmB x)) ∧ Below w.heap.size w w' := by
  have := Lex.refName_any (Lex.nums x) (Lex.nums_byt x) (by rw [Lex.nums_len]; exact hx) w
  rwa [Lex.str_nums] at this

theorem ownR_rt' {w : World} {base : Nat} {v : Value} {L : List Lex.Tok} (h : Lex.OwnR w base v L) : ∃ a c, v = .slice a L.length c ∧ L.length ≤ c ∧ c ≤ maxLen ∧ MemT.RT Lex.tokC 4 w w.heap.size a L := by
  obtain ⟨a, c, rfl, h1, h2⟩ := Lex.ownR_slice h
  exact ⟨a, c, rfl, h1, h2, MemT.own_rt Lex.tokC_len h rfl⟩
set_option maxRecDepth 100000 in
set_option maxHeartbeats 4000000 in
theorem refTk_any (x : ByteArray) (k : Int) (hx : x.size ≤ 100000) (w : World) : Calls Tryz.prog 31 #[.string x, .int .i64 k] w fun e w' => e = .returned (.bool (tkB x k)) ∧ Below w.heap.size w w' := by
  obtain ⟨cc, W1, hconv, hc1, hc2, hbW, hrb⟩ := Lex.conv_str w x (by unfold maxLen; omega)
  have hln : (Lex.nums x).length = x.size := Lex.nums_len x
  have HTK := Lib.hid (Lex.refTokens_any _ x.size cc (Lex.nums x) W1 _ hrb (Nat.le_refl _) hln hc1 hc2 hx)
  have HBW := Lib.hid hbW
  have HV : Hid (tkB x k = (decide (Lex.lexE (Lex.nums x) = 0) && (match Lex.lexT (Lex.nums x) with
    | [] => false
    | t :: _ => t.kind == k && (strOfNums t.text).toList == x.toList))) := rfl
  unfold Lex.RefTPost at HTK
  generalize Lex.lexN (Lex.nums x) = N at *
  generalize Lex.lexE (Lex.nums x) = E at *
  generalize Lex.lexT (Lex.nums x) = L at *
  generalize tkB x k = bb at *
  clear hln hrb hbW
  go_enter Tryz.func31, Tryz.ntmps31
  go_wp2_with fail
  refine HTK.out.mono ?_
  rintro e w1 ⟨v1, rfl, ho1, hb1⟩
  obtain ⟨a1, c1, rfl, hl1, hl2, hrt⟩ := ownR_rt' ho1
  have HRT := Lib.hid hrt
  have HB := Lib.hid (HBW.out.trans (hb1.mono HBW.out.size))
  clear ho1 hb1 HTK hconv hrt
  by_cases hE : E = 0
  · subst hE
    cases L with
    | nil =>
      have hv : bb = false := by rw [HV.out]; rfl
      subst hv
      clear HV HRT
      go_wp2
      go_ret
      exact ⟨rfl, HB.out⟩
    | cons t r =>
      obtain ⟨b1, rfl, _, hcell⟩ := HRT.out.at_ (by simp)
      have d0 : w1.cell? ⟨b1, 0, none⟩ = some (.int .i64 t.kind) := by have := hcell 0 t rfl 0 _ rfl; simpa using this
      have d1 : w1.cell? ⟨b1, 1, none⟩ = some (.string (strOfNums t.text)) := by have := hcell 0 t rfl 1 _ rfl; simpa using this
      have HV2 : Hid (bb = (t.kind == k && (strOfNums t.text).toList == x.toList)) := by show _ = _; rw [HV.out]; rfl
      generalize t.kind = tk at *
      generalize strOfNums t.text = ts at *
      have hn : ((r.length + 1 : Nat) : Int) > 0 := by omega
      simp only [List.length_cons] at hl1 ⊢
      generalize r.length + 1 = m at *
      have hn0 : (0 : Int) < (m : Int) := hn
      clear HV HRT hcell hl1 hl2 hn
      cases hk : (tk == k) with
      | false =>
        have hv : bb = false := by rw [HV2.out, hk]; rfl
        subst hv
        clear HV2
        go_wp2
        go_ret
        exact ⟨rfl, HB.out⟩
      | true =>
        cases hs : (ts.toList == x.toList) with
        | false =>
          have hv : bb = false := by rw [HV2.out, hk, hs]; rfl
          subst hv
          clear HV2
          go_wp2
          go_ret
          exact ⟨rfl, HB.out⟩
        | true =>
          have hv : bb = true := by rw [HV2.out, hk, hs]; rfl
          subst hv
          clear HV2
          go_wp2
          go_ret
          exact ⟨rfl, HB.out⟩
  · have hv : bb = false := by rw [HV.out, decide_eq_false hE]; rfl
    subst hv
    have he : (E == 0) = false := kno hE
    clear HV HRT hE
    go_wp2
    go_ret
    exact ⟨rfl, HB.out⟩

/-- The signs of a row, as the program's tests. -/
def TS (s : Int) : List (Int → ByteArray → Bool) :=
  if s = 101 then [isVal] else if s = 116 then [isTyp] else if s = 112 then [isPlc] else if s = 84 then [isTyp, isOf [33]] else if s = 69 then [isVal, isOf [33]]
  else if s = 82 then [isOf [16], isOf [33]] else if s = 65 then [isOf [15]] else if s = 66 then [isOf [17]] else if s = 76 then [isOf [17, 18], isOf [33]] else if s = 67 then [isOf [30]] else if s = 78 then [isOf [9]] else []
theorem TS_is (s : Int) (hs : s ∈ ([101, 116, 112, 84, 69, 82, 65, 66, 76, 67, 78] : List Int)) (k : Int) (x : ByteArray) : (TS s).any (fun p => p k x) = fitsS s k x := by
  simp only [List.mem_cons, List.not_mem_nil, or_false] at hs
  rcases hs with rfl | rfl | rfl | rfl | rfl | rfl | rfl | rfl | rfl | rfl | rfl <;> simp [TS, fitsS, isOf, Bool.or_assoc]
theorem rows_one (f : F) (sg : List Int) (h : ∀ s ∈ sg, s ∈ ([101, 116, 112, 84, 69, 82, 65, 66, 76, 67, 78] : List Int)) : rowS f sg false = rowOK (sg.map fun s => .one (TS s)) f :=
  rowS_one TS f sg fun s hs k x => TS_is s (h s hs) k x

/-- Is a node's text and are its Kids as its kind asks? -/
def shapeOK (k : Int) (x : ByteArray) (c : F) : Bool := textOK nmB tkB k x && kidsOK k x c

theorem rr_e (A : Option Addr) (n C : Nat) (c : F) (w : World) (hf : Fs w (Lo w.heap.size) (.slice A n C) c) : Calls Tryz.prog 47 #[.slice A n C, .string ⟨#[101]⟩, .bool false] w fun e w' => e = .returned (.bool (rowOK [.one [isVal]] c)) ∧ Below w.heap.size w w' := by
  have h := refRow_any [101] false (by decide) (by intro x hx; simp at hx; omega) (by decide) (by decide) A n C c w hf
  rw [show rowS c [101] false = rowOK [.one [isVal]] c from rows_one c [101] (by decide)] at h
  exact h
theorem rr_TE (A : Option Addr) (n C : Nat) (c : F) (w : World) (hf : Fs w (Lo w.heap.size) (.slice A n C) c) : Calls Tryz.prog 47 #[.slice A n C, .string ⟨#[84, 69]⟩, .bool false] w fun e w' => e = .returned (.bool (rowOK [.one [isTyp, isOf [33]], .one [isVal, isOf [33]]] c)) ∧ Below w.heap.size w w' := by
  have h := refRow_any [84, 69] false (by decide) (by intro x hx; simp at hx; omega) (by decide) (by decide) A n C c w hf
  rw [show rowS c [84, 69] false = rowOK [.one [isTyp, isOf [33]], .one [isVal, isOf [33]]] c from rows_one c [84, 69] (by decide)] at h
  exact h
theorem rr_t (A : Option Addr) (n C : Nat) (c : F) (w : World) (hf : Fs w (Lo w.heap.size) (.slice A n C) c) : Calls Tryz.prog 47 #[.slice A n C, .string ⟨#[116]⟩, .bool false] w fun e w' => e = .returned (.bool (rowOK [.one [isTyp]] c)) ∧ Below w.heap.size w w' := by
  have h := refRow_any [116] false (by decide) (by intro x hx; simp at hx; omega) (by decide) (by decide) A n C c w hf
  rw [show rowS c [116] false = rowOK [.one [isTyp]] c from rows_one c [116] (by decide)] at h
  exact h
theorem rr_RATB (A : Option Addr) (n C : Nat) (c : F) (w : World) (hf : Fs w (Lo w.heap.size) (.slice A n C) c) : Calls Tryz.prog 47 #[.slice A n C, .string ⟨#[82, 65, 84, 66]⟩, .bool false] w fun e w' => e = .returned (.bool (rowOK [.one [isOf [16], isOf [33]], .one [isOf [15]], .one [isTyp, isOf [33]], .one [isOf [17]]] c)) ∧ Below w.heap.size w w' := by
  have h := refRow_any [82, 65, 84, 66] false (by decide) (by intro x hx; simp at hx; omega) (by decide) (by decide) A n C c w hf
  rw [show rowS c [82, 65, 84, 66] false = rowOK [.one [isOf [16], isOf [33]], .one [isOf [15]], .one [isTyp, isOf [33]], .one [isOf [17]]] c from rows_one c [82, 65, 84, 66] (by decide)] at h
  exact h
theorem rr_tt (A : Option Addr) (n C : Nat) (c : F) (w : World) (hf : Fs w (Lo w.heap.size) (.slice A n C) c) : Calls Tryz.prog 47 #[.slice A n C, .string ⟨#[116, 116]⟩, .bool false] w fun e w' => e = .returned (.bool (rowOK [.one [isTyp], .one [isTyp]] c)) ∧ Below w.heap.size w w' := by
  have h := refRow_any [116, 116] false (by decide) (by intro x hx; simp at hx; omega) (by decide) (by decide) A n C c w hf
  rw [show rowS c [116, 116] false = rowOK [.one [isTyp], .one [isTyp]] c from rows_one c [116, 116] (by decide)] at h
  exact h
theorem rr_fm (A : Option Addr) (n C : Nat) (c : F) (w : World) (hf : Fs w (Lo w.heap.size) (.slice A n C) c) : Calls Tryz.prog 47 #[.slice A n C, .string ⟨#[102]⟩, .bool true] w fun e w' => e = .returned (.bool (rowOK [.many (isOf [14, 8])] c)) ∧ Below w.heap.size w w' := by
  have h := refRow_any [102] true (by decide) (by intro x hx; simp at hx; omega) (by decide) (by decide) A n C c w hf
  rw [show rowS c [102] true = rowOK [.many (isOf [14, 8])] c from rowS_many (isOf [14, 8]) 102 (fun k x => by simp [fitsS, isOf]) c] at h
  exact h
theorem rr_Pm (A : Option Addr) (n C : Nat) (c : F) (w : World) (hf : Fs w (Lo w.heap.size) (.slice A n C) c) : Calls Tryz.prog 47 #[.slice A n C, .string ⟨#[80]⟩, .bool true] w fun e w' => e = .returned (.bool (rowOK [.many (isOf [16])] c)) ∧ Below w.heap.size w w' := by
  have h := refRow_any [80] true (by decide) (by intro x hx; simp at hx; omega) (by decide) (by decide) A n C c w hf
  rw [show rowS c [80] true = rowOK [.many (isOf [16])] c from rowS_many (isOf [16]) 80 (fun k x => by simp [fitsS, isOf]) c] at h
  exact h
theorem rr_sm (A : Option Addr) (n C : Nat) (c : F) (w : World) (hf : Fs w (Lo w.heap.size) (.slice A n C) c) : Calls Tryz.prog 47 #[.slice A n C, .string ⟨#[115]⟩, .bool true] w fun e w' => e = .returned (.bool (rowOK [.many isStm] c)) ∧ Below w.heap.size w w' := by
  have h := refRow_any [115] true (by decide) (by intro x hx; simp at hx; omega) (by decide) (by decide) A n C c w hf
  rw [show rowS c [115] true = rowOK [.many isStm] c from rowS_many isStm 115 (fun k x => rfl) c] at h
  exact h
theorem rr_eBL (A : Option Addr) (n C : Nat) (c : F) (w : World) (hf : Fs w (Lo w.heap.size) (.slice A n C) c) : Calls Tryz.prog 47 #[.slice A n C, .string ⟨#[101, 66, 76]⟩, .bool false] w fun e w' => e = .returned (.bool (rowOK [.one [isVal], .one [isOf [17]], .one [isOf [17, 18], isOf [33]]] c)) ∧ Below w.heap.size w w' := by
  have h := refRow_any [101, 66, 76] false (by decide) (by intro x hx; simp at hx; omega) (by decide) (by decide) A n C c w hf
  rw [show rowS c [101, 66, 76] false = rowOK [.one [isVal], .one [isOf [17]], .one [isOf [17, 18], isOf [33]]] c from rows_one c [101, 66, 76] (by decide)] at h
  exact h
theorem rr_EB (A : Option Addr) (n C : Nat) (c : F) (w : World) (hf : Fs w (Lo w.heap.size) (.slice A n C) c) : Calls Tryz.prog 47 #[.slice A n C, .string ⟨#[69, 66]⟩, .bool false] w fun e w' => e = .returned (.bool (rowOK [.one [isVal, isOf [33]], .one [isOf [17]]] c)) ∧ Below w.heap.size w w' := by
  have h := refRow_any [69, 66] false (by decide) (by intro x hx; simp at hx; omega) (by decide) (by decide) A n C c w hf
  rw [show rowS c [69, 66] false = rowOK [.one [isVal, isOf [33]], .one [isOf [17]]] c from rows_one c [69, 66] (by decide)] at h
  exact h
theorem rr_em (A : Option Addr) (n C : Nat) (c : F) (w : World) (hf : Fs w (Lo w.heap.size) (.slice A n C) c) : Calls Tryz.prog 47 #[.slice A n C, .string ⟨#[101]⟩, .bool true] w fun e w' => e = .returned (.bool (rowOK [.many isVal] c)) ∧ Below w.heap.size w w' := by
  have h := refRow_any [101] true (by decide) (by intro x hx; simp at hx; omega) (by decide) (by decide) A n C c w hf
  rw [show rowS c [101] true = rowOK [.many isVal] c from rowS_many isVal 101 (fun k x => rfl) c] at h
  exact h
theorem rr_Ne (A : Option Addr) (n C : Nat) (c : F) (w : World) (hf : Fs w (Lo w.heap.size) (.slice A n C) c) : Calls Tryz.prog 47 #[.slice A n C, .string ⟨#[78, 101]⟩, .bool false] w fun e w' => e = .returned (.bool (rowOK [.one [isOf [9]], .one [isVal]] c)) ∧ Below w.heap.size w w' := by
  have h := refRow_any [78, 101] false (by decide) (by intro x hx; simp at hx; omega) (by decide) (by decide) A n C c w hf
  rw [show rowS c [78, 101] false = rowOK [.one [isOf [9]], .one [isVal]] c from rows_one c [78, 101] (by decide)] at h
  exact h
theorem rr_pe (A : Option Addr) (n C : Nat) (c : F) (w : World) (hf : Fs w (Lo w.heap.size) (.slice A n C) c) : Calls Tryz.prog 47 #[.slice A n C, .string ⟨#[112, 101]⟩, .bool false] w fun e w' => e = .returned (.bool (rowOK [.one [isPlc], .one [isVal]] c)) ∧ Below w.heap.size w w' := by
  have h := refRow_any [112, 101] false (by decide) (by intro x hx; simp at hx; omega) (by decide) (by decide) A n C c w hf
  rw [show rowS c [112, 101] false = rowOK [.one [isPlc], .one [isVal]] c from rows_one c [112, 101] (by decide)] at h
  exact h
theorem rr_p (A : Option Addr) (n C : Nat) (c : F) (w : World) (hf : Fs w (Lo w.heap.size) (.slice A n C) c) : Calls Tryz.prog 47 #[.slice A n C, .string ⟨#[112]⟩, .bool false] w fun e w' => e = .returned (.bool (rowOK [.one [isPlc]] c)) ∧ Below w.heap.size w w' := by
  have h := refRow_any [112] false (by decide) (by intro x hx; simp at hx; omega) (by decide) (by decide) A n C c w hf
  rw [show rowS c [112] false = rowOK [.one [isPlc]] c from rows_one c [112] (by decide)] at h
  exact h
theorem rr_C (A : Option Addr) (n C : Nat) (c : F) (w : World) (hf : Fs w (Lo w.heap.size) (.slice A n C) c) : Calls Tryz.prog 47 #[.slice A n C, .string ⟨#[67]⟩, .bool false] w fun e w' => e = .returned (.bool (rowOK [.one [isOf [30]]] c)) ∧ Below w.heap.size w w' := by
  have h := refRow_any [67] false (by decide) (by intro x hx; simp at hx; omega) (by decide) (by decide) A n C c w hf
  rw [show rowS c [67] false = rowOK [.one [isOf [30]]] c from rows_one c [67] (by decide)] at h
  exact h
theorem rr_ee (A : Option Addr) (n C : Nat) (c : F) (w : World) (hf : Fs w (Lo w.heap.size) (.slice A n C) c) : Calls Tryz.prog 47 #[.slice A n C, .string ⟨#[101, 101]⟩, .bool false] w fun e w' => e = .returned (.bool (rowOK [.one [isVal], .one [isVal]] c)) ∧ Below w.heap.size w w' := by
  have h := refRow_any [101, 101] false (by decide) (by intro x hx; simp at hx; omega) (by decide) (by decide) A n C c w hf
  rw [show rowS c [101, 101] false = rowOK [.one [isVal], .one [isVal]] c from rows_one c [101, 101] (by decide)] at h
  exact h
theorem rr_eem (A : Option Addr) (n C : Nat) (c : F) (w : World) (hf : Fs w (Lo w.heap.size) (.slice A n C) c) : Calls Tryz.prog 47 #[.slice A n C, .string ⟨#[101, 101]⟩, .bool true] w fun e w' => e = .returned (.bool (rowOK [.one [isVal], .many isVal] c)) ∧ Below w.heap.size w w' := by
  have h := refRow_any [101, 101] true (by decide) (by intro x hx; simp at hx; omega) (by decide) (by decide) A n C c w hf
  rw [show rowS c [101, 101] true = rowOK [.one [isVal], .many isVal] c from rowS_one_many [isVal] isVal 101 101 (fun k x => by simp [fitsS]) (fun k x => rfl) c] at h
  exact h
set_option maxRecDepth 100000 in
set_option maxHeartbeats 8000000 in
theorem shape_1 (x y : ByteArray) (A : Option Addr) (n C : Nat) (c : F) (w : World) (hf : Fs w (Lo w.heap.size) (.slice A n C) c) (hx : x.size ≤ 100000) : Calls Tryz.prog 30 #[.agg #[.int .i64 1, .string x, .string y, .slice A n C]] w fun e w' => e = .returned (.bool (shapeOK 1 x c)) ∧ Below w.heap.size w w' := by
  have b1 := below1 w (.cells #[.int .i64 1, .string x, .string y, .slice A n C] 24)
  have HN := Lib.hid (refNm_any x (by omega) (w.alloc (.cells #[.int .i64 1, .string x, .string y, .slice A n C] 24)))
  have HB := Lib.hid b1
  have HF := Lib.hid hf
  have HBX : Hid (∀ W, Below (w.alloc (.cells #[.int .i64 1, .string x, .string y, .slice A n C] 24)).heap.size (w.alloc (.cells #[.int .i64 1, .string x, .string y, .slice A n C] 24)) W → W.cell? ⟨w.heap.size, 0, none⟩ = some (.int .i64 1) ∧ W.cell? ⟨w.heap.size, 1, none⟩ = some (.string x) ∧ W.cell? ⟨w.heap.size, 3, none⟩ = some (.slice A n C)) := fun W hW => by
    have cel : ∀ i v, #[Value.int .i64 1, .string x, .string y, .slice A n C][i]? = some v → W.cell? ⟨w.heap.size, i, none⟩ = some v := fun i v hv => by
      rw [hW.cell (p := ⟨w.heap.size, i, none⟩) (by simp), World.cell?_alloc_at _ _ _ _ rfl]
      simpa using hv
    exact ⟨cel 0 _ rfl, cel 1 _ rfl, cel 3 _ rfl⟩
  obtain ⟨nb, hnb⟩ : ∃ nb, nmB x = nb := ⟨_, rfl⟩
  rw [hnb] at HN
  obtain ⟨eb, heb⟩ : ∃ eb, (x.toList == []) = eb := ⟨_, rfl⟩
  clear b1 hf
  have HV0 : Hid (shapeOK 1 x c = (eb && rowOK [.many (isOf [8]), .one [isOf [2]], .many (isOf [3, 8]), .many isDecl] c)) := by show _ = _; rw [← heb]; unfold shapeOK textOK kidsOK; simp
  cases eb with
  | false =>
    have he : ¬ x.toList = [] := by simpa using heb
    have he2 : x.toList.isEmpty = false := by simpa using heb
    have HV : Hid (shapeOK 1 x c = false) := by show _ = _; rw [HV0.out]; rfl
    clear heb HV0
    go_enter Tryz.func30, Tryz.ntmps30
    go_wp2_with fail
    refine HN.out.mono ?_
    rintro e w1 ⟨rfl, hb⟩
    obtain ⟨q0, q1, q3⟩ := HBX.out w1 hb
    have HB1 := Lib.hid (HB.out.trans (hb.mono HB.out.size))
    clear hb HN HBX
    go_wp2
    go_ret
    exact ⟨by rw [HV.out]; rfl, HB1.out⟩
  | true =>
    have he : x.toList = [] := by simpa using heb
    have HV : Hid (shapeOK 1 x c = rowOK [.many (isOf [8]), .one [isOf [2]], .many (isOf [3, 8]), .many isDecl] c) := by show _ = _; rw [HV0.out]; rfl
    clear heb HV0
    go_enter Tryz.func30, Tryz.ntmps30
    go_wp2_with fail
    refine HN.out.mono ?_
    rintro e w1 ⟨rfl, hb⟩
    obtain ⟨q0, q1, q3⟩ := HBX.out w1 hb
    have HB1 := Lib.hid (HB.out.trans (hb.mono HB.out.size))
    clear hb HN HBX
    have HR := Lib.hid (refFile_any A n C c w1 (HF.out.later HB1.out))
    rw [file0] at HR
    go_wp2_with fail
    refine HR.out.mono ?_
    rintro e w2 ⟨rfl, hb⟩
    have HB2 : Hid (Below w.heap.size w w2) := by show Below _ _ _; rw [hb]; exact HB1.out
    clear hb
    go_wp2
    go_ret
    exact ⟨by rw [HV.out]; rfl, HB2.out⟩
set_option maxRecDepth 100000 in
set_option maxHeartbeats 8000000 in
theorem shape_10 (x y : ByteArray) (A : Option Addr) (n C : Nat) (c : F) (w : World) (hf : Fs w (Lo w.heap.size) (.slice A n C) c) (hx : x.size ≤ 100000) : Calls Tryz.prog 30 #[.agg #[.int .i64 10, .string x, .string y, .slice A n C]] w fun e w' => e = .returned (.bool (shapeOK 10 x c)) ∧ Below w.heap.size w w' := by
  have b1 := below1 w (.cells #[.int .i64 10, .string x, .string y, .slice A n C] 24)
  have HN := Lib.hid (refNm_any x (by omega) (w.alloc (.cells #[.int .i64 10, .string x, .string y, .slice A n C] 24)))
  have HB := Lib.hid b1
  have HF := Lib.hid hf
  have HBX : Hid (∀ W, Below (w.alloc (.cells #[.int .i64 10, .string x, .string y, .slice A n C] 24)).heap.size (w.alloc (.cells #[.int .i64 10, .string x, .string y, .slice A n C] 24)) W → W.cell? ⟨w.heap.size, 0, none⟩ = some (.int .i64 10) ∧ W.cell? ⟨w.heap.size, 1, none⟩ = some (.string x) ∧ W.cell? ⟨w.heap.size, 3, none⟩ = some (.slice A n C)) := fun W hW => by
    have cel : ∀ i v, #[Value.int .i64 10, .string x, .string y, .slice A n C][i]? = some v → W.cell? ⟨w.heap.size, i, none⟩ = some v := fun i v hv => by
      rw [hW.cell (p := ⟨w.heap.size, i, none⟩) (by simp), World.cell?_alloc_at _ _ _ _ rfl]
      simpa using hv
    exact ⟨cel 0 _ rfl, cel 1 _ rfl, cel 3 _ rfl⟩
  obtain ⟨nb, hnb⟩ : ∃ nb, nmB x = nb := ⟨_, rfl⟩
  rw [hnb] at HN
  obtain ⟨eb, heb⟩ : ∃ eb, (x.toList == []) = eb := ⟨_, rfl⟩
  clear b1 hf
  have HV0 : Hid (shapeOK 10 x c = (eb && rowOK [.one [isTyp]] c)) := by show _ = _; rw [← heb]; unfold shapeOK textOK kidsOK; simp
  cases eb with
  | false =>
    have he : ¬ x.toList = [] := by simpa using heb
    have he2 : x.toList.isEmpty = false := by simpa using heb
    have HV : Hid (shapeOK 10 x c = false) := by show _ = _; rw [HV0.out]; rfl
    clear heb HV0
    go_enter Tryz.func30, Tryz.ntmps30
    go_wp2_with fail
    refine HN.out.mono ?_
    rintro e w1 ⟨rfl, hb⟩
    obtain ⟨q0, q1, q3⟩ := HBX.out w1 hb
    have HB1 := Lib.hid (HB.out.trans (hb.mono HB.out.size))
    clear hb HN HBX
    go_wp2
    go_ret
    exact ⟨by rw [HV.out]; rfl, HB1.out⟩
  | true =>
    have he : x.toList = [] := by simpa using heb
    have HV : Hid (shapeOK 10 x c = rowOK [.one [isTyp]] c) := by show _ = _; rw [HV0.out]; rfl
    clear heb HV0
    go_enter Tryz.func30, Tryz.ntmps30
    go_wp2_with fail
    refine HN.out.mono ?_
    rintro e w1 ⟨rfl, hb⟩
    obtain ⟨q0, q1, q3⟩ := HBX.out w1 hb
    have HB1 := Lib.hid (HB.out.trans (hb.mono HB.out.size))
    clear hb HN HBX
    have HR := Lib.hid (rr_t A n C c w1 (HF.out.later HB1.out))
    go_wp2_with fail
    refine HR.out.mono ?_
    rintro e w2 ⟨rfl, hb⟩
    have HB2 := Lib.hid (HB1.out.trans (hb.mono HB1.out.size))
    clear hb
    go_wp2
    go_ret
    exact ⟨by rw [HV.out]; rfl, HB2.out⟩
set_option maxRecDepth 100000 in
set_option maxHeartbeats 8000000 in
theorem shape_11 (x y : ByteArray) (A : Option Addr) (n C : Nat) (c : F) (w : World) (hf : Fs w (Lo w.heap.size) (.slice A n C) c) (hx : x.size ≤ 100000) : Calls Tryz.prog 30 #[.agg #[.int .i64 11, .string x, .string y, .slice A n C]] w fun e w' => e = .returned (.bool (shapeOK 11 x c)) ∧ Below w.heap.size w w' := by
  have b1 := below1 w (.cells #[.int .i64 11, .string x, .string y, .slice A n C] 24)
  have HN := Lib.hid (refNm_any x (by omega) (w.alloc (.cells #[.int .i64 11, .string x, .string y, .slice A n C] 24)))
  have HB := Lib.hid b1
  have HF := Lib.hid hf
  have HBX : Hid (∀ W, Below (w.alloc (.cells #[.int .i64 11, .string x, .string y, .slice A n C] 24)).heap.size (w.alloc (.cells #[.int .i64 11, .string x, .string y, .slice A n C] 24)) W → W.cell? ⟨w.heap.size, 0, none⟩ = some (.int .i64 11) ∧ W.cell? ⟨w.heap.size, 1, none⟩ = some (.string x) ∧ W.cell? ⟨w.heap.size, 3, none⟩ = some (.slice A n C)) := fun W hW => by
    have cel : ∀ i v, #[Value.int .i64 11, .string x, .string y, .slice A n C][i]? = some v → W.cell? ⟨w.heap.size, i, none⟩ = some v := fun i v hv => by
      rw [hW.cell (p := ⟨w.heap.size, i, none⟩) (by simp), World.cell?_alloc_at _ _ _ _ rfl]
      simpa using hv
    exact ⟨cel 0 _ rfl, cel 1 _ rfl, cel 3 _ rfl⟩
  obtain ⟨nb, hnb⟩ : ∃ nb, nmB x = nb := ⟨_, rfl⟩
  rw [hnb] at HN
  obtain ⟨eb, heb⟩ : ∃ eb, (x.toList == []) = eb := ⟨_, rfl⟩
  clear b1 hf
  have HV0 : Hid (shapeOK 11 x c = (eb && rowOK [.one [isTyp]] c)) := by show _ = _; rw [← heb]; unfold shapeOK textOK kidsOK; simp
  cases eb with
  | false =>
    have he : ¬ x.toList = [] := by simpa using heb
    have he2 : x.toList.isEmpty = false := by simpa using heb
    have HV : Hid (shapeOK 11 x c = false) := by show _ = _; rw [HV0.out]; rfl
    clear heb HV0
    go_enter Tryz.func30, Tryz.ntmps30
    go_wp2_with fail
    refine HN.out.mono ?_
    rintro e w1 ⟨rfl, hb⟩
    obtain ⟨q0, q1, q3⟩ := HBX.out w1 hb
    have HB1 := Lib.hid (HB.out.trans (hb.mono HB.out.size))
    clear hb HN HBX
    go_wp2
    go_ret
    exact ⟨by rw [HV.out]; rfl, HB1.out⟩
  | true =>
    have he : x.toList = [] := by simpa using heb
    have HV : Hid (shapeOK 11 x c = rowOK [.one [isTyp]] c) := by show _ = _; rw [HV0.out]; rfl
    clear heb HV0
    go_enter Tryz.func30, Tryz.ntmps30
    go_wp2_with fail
    refine HN.out.mono ?_
    rintro e w1 ⟨rfl, hb⟩
    obtain ⟨q0, q1, q3⟩ := HBX.out w1 hb
    have HB1 := Lib.hid (HB.out.trans (hb.mono HB.out.size))
    clear hb HN HBX
    have HR := Lib.hid (rr_t A n C c w1 (HF.out.later HB1.out))
    go_wp2_with fail
    refine HR.out.mono ?_
    rintro e w2 ⟨rfl, hb⟩
    have HB2 := Lib.hid (HB1.out.trans (hb.mono HB1.out.size))
    clear hb
    go_wp2
    go_ret
    exact ⟨by rw [HV.out]; rfl, HB2.out⟩
set_option maxRecDepth 100000 in
set_option maxHeartbeats 8000000 in
theorem shape_12 (x y : ByteArray) (A : Option Addr) (n C : Nat) (c : F) (w : World) (hf : Fs w (Lo w.heap.size) (.slice A n C) c) (hx : x.size ≤ 100000) : Calls Tryz.prog 30 #[.agg #[.int .i64 12, .string x, .string y, .slice A n C]] w fun e w' => e = .returned (.bool (shapeOK 12 x c)) ∧ Below w.heap.size w w' := by
  have b1 := below1 w (.cells #[.int .i64 12, .string x, .string y, .slice A n C] 24)
  have HN := Lib.hid (refNm_any x (by omega) (w.alloc (.cells #[.int .i64 12, .string x, .string y, .slice A n C] 24)))
  have HB := Lib.hid b1
  have HF := Lib.hid hf
  have HBX : Hid (∀ W, Below (w.alloc (.cells #[.int .i64 12, .string x, .string y, .slice A n C] 24)).heap.size (w.alloc (.cells #[.int .i64 12, .string x, .string y, .slice A n C] 24)) W → W.cell? ⟨w.heap.size, 0, none⟩ = some (.int .i64 12) ∧ W.cell? ⟨w.heap.size, 1, none⟩ = some (.string x) ∧ W.cell? ⟨w.heap.size, 3, none⟩ = some (.slice A n C)) := fun W hW => by
    have cel : ∀ i v, #[Value.int .i64 12, .string x, .string y, .slice A n C][i]? = some v → W.cell? ⟨w.heap.size, i, none⟩ = some v := fun i v hv => by
      rw [hW.cell (p := ⟨w.heap.size, i, none⟩) (by simp), World.cell?_alloc_at _ _ _ _ rfl]
      simpa using hv
    exact ⟨cel 0 _ rfl, cel 1 _ rfl, cel 3 _ rfl⟩
  obtain ⟨nb, hnb⟩ : ∃ nb, nmB x = nb := ⟨_, rfl⟩
  rw [hnb] at HN
  obtain ⟨eb, heb⟩ : ∃ eb, (x.toList == []) = eb := ⟨_, rfl⟩
  clear b1 hf
  have HV0 : Hid (shapeOK 12 x c = (eb && rowOK [.one [isTyp], .one [isTyp]] c)) := by show _ = _; rw [← heb]; unfold shapeOK textOK kidsOK; simp
  cases eb with
  | false =>
    have he : ¬ x.toList = [] := by simpa using heb
    have he2 : x.toList.isEmpty = false := by simpa using heb
    have HV : Hid (shapeOK 12 x c = false) := by show _ = _; rw [HV0.out]; rfl
    clear heb HV0
    go_enter Tryz.func30, Tryz.ntmps30
    go_wp2_with fail
    refine HN.out.mono ?_
    rintro e w1 ⟨rfl, hb⟩
    obtain ⟨q0, q1, q3⟩ := HBX.out w1 hb
    have HB1 := Lib.hid (HB.out.trans (hb.mono HB.out.size))
    clear hb HN HBX
    go_wp2
    go_ret
    exact ⟨by rw [HV.out]; rfl, HB1.out⟩
  | true =>
    have he : x.toList = [] := by simpa using heb
    have HV : Hid (shapeOK 12 x c = rowOK [.one [isTyp], .one [isTyp]] c) := by show _ = _; rw [HV0.out]; rfl
    clear heb HV0
    go_enter Tryz.func30, Tryz.ntmps30
    go_wp2_with fail
    refine HN.out.mono ?_
    rintro e w1 ⟨rfl, hb⟩
    obtain ⟨q0, q1, q3⟩ := HBX.out w1 hb
    have HB1 := Lib.hid (HB.out.trans (hb.mono HB.out.size))
    clear hb HN HBX
    have HR := Lib.hid (rr_tt A n C c w1 (HF.out.later HB1.out))
    go_wp2_with fail
    refine HR.out.mono ?_
    rintro e w2 ⟨rfl, hb⟩
    have HB2 := Lib.hid (HB1.out.trans (hb.mono HB1.out.size))
    clear hb
    go_wp2
    go_ret
    exact ⟨by rw [HV.out]; rfl, HB2.out⟩
set_option maxRecDepth 100000 in
set_option maxHeartbeats 8000000 in
theorem shape_13 (x y : ByteArray) (A : Option Addr) (n C : Nat) (c : F) (w : World) (hf : Fs w (Lo w.heap.size) (.slice A n C) c) (hx : x.size ≤ 100000) : Calls Tryz.prog 30 #[.agg #[.int .i64 13, .string x, .string y, .slice A n C]] w fun e w' => e = .returned (.bool (shapeOK 13 x c)) ∧ Below w.heap.size w w' := by
  have b1 := below1 w (.cells #[.int .i64 13, .string x, .string y, .slice A n C] 24)
  have HN := Lib.hid (refNm_any x (by omega) (w.alloc (.cells #[.int .i64 13, .string x, .string y, .slice A n C] 24)))
  have HB := Lib.hid b1
  have HF := Lib.hid hf
  have HBX : Hid (∀ W, Below (w.alloc (.cells #[.int .i64 13, .string x, .string y, .slice A n C] 24)).heap.size (w.alloc (.cells #[.int .i64 13, .string x, .string y, .slice A n C] 24)) W → W.cell? ⟨w.heap.size, 0, none⟩ = some (.int .i64 13) ∧ W.cell? ⟨w.heap.size, 1, none⟩ = some (.string x) ∧ W.cell? ⟨w.heap.size, 3, none⟩ = some (.slice A n C)) := fun W hW => by
    have cel : ∀ i v, #[Value.int .i64 13, .string x, .string y, .slice A n C][i]? = some v → W.cell? ⟨w.heap.size, i, none⟩ = some v := fun i v hv => by
      rw [hW.cell (p := ⟨w.heap.size, i, none⟩) (by simp), World.cell?_alloc_at _ _ _ _ rfl]
      simpa using hv
    exact ⟨cel 0 _ rfl, cel 1 _ rfl, cel 3 _ rfl⟩
  obtain ⟨nb, hnb⟩ : ∃ nb, nmB x = nb := ⟨_, rfl⟩
  rw [hnb] at HN
  obtain ⟨eb, heb⟩ : ∃ eb, (x.toList == []) = eb := ⟨_, rfl⟩
  clear b1 hf
  have HV0 : Hid (shapeOK 13 x c = (eb && rowOK [.many (isOf [14, 8])] c)) := by show _ = _; rw [← heb]; unfold shapeOK textOK kidsOK; simp
  cases eb with
  | false =>
    have he : ¬ x.toList = [] := by simpa using heb
    have he2 : x.toList.isEmpty = false := by simpa using heb
    have HV : Hid (shapeOK 13 x c = false) := by show _ = _; rw [HV0.out]; rfl
    clear heb HV0
    go_enter Tryz.func30, Tryz.ntmps30
    go_wp2_with fail
    refine HN.out.mono ?_
    rintro e w1 ⟨rfl, hb⟩
    obtain ⟨q0, q1, q3⟩ := HBX.out w1 hb
    have HB1 := Lib.hid (HB.out.trans (hb.mono HB.out.size))
    clear hb HN HBX
    go_wp2
    go_ret
    exact ⟨by rw [HV.out]; rfl, HB1.out⟩
  | true =>
    have he : x.toList = [] := by simpa using heb
    have HV : Hid (shapeOK 13 x c = rowOK [.many (isOf [14, 8])] c) := by show _ = _; rw [HV0.out]; rfl
    clear heb HV0
    go_enter Tryz.func30, Tryz.ntmps30
    go_wp2_with fail
    refine HN.out.mono ?_
    rintro e w1 ⟨rfl, hb⟩
    obtain ⟨q0, q1, q3⟩ := HBX.out w1 hb
    have HB1 := Lib.hid (HB.out.trans (hb.mono HB.out.size))
    clear hb HN HBX
    have HR := Lib.hid (rr_fm A n C c w1 (HF.out.later HB1.out))
    go_wp2_with fail
    refine HR.out.mono ?_
    rintro e w2 ⟨rfl, hb⟩
    have HB2 := Lib.hid (HB1.out.trans (hb.mono HB1.out.size))
    clear hb
    go_wp2
    go_ret
    exact ⟨by rw [HV.out]; rfl, HB2.out⟩
set_option maxRecDepth 100000 in
set_option maxHeartbeats 8000000 in
theorem shape_15 (x y : ByteArray) (A : Option Addr) (n C : Nat) (c : F) (w : World) (hf : Fs w (Lo w.heap.size) (.slice A n C) c) (hx : x.size ≤ 100000) : Calls Tryz.prog 30 #[.agg #[.int .i64 15, .string x, .string y, .slice A n C]] w fun e w' => e = .returned (.bool (shapeOK 15 x c)) ∧ Below w.heap.size w w' := by
  have b1 := below1 w (.cells #[.int .i64 15, .string x, .string y, .slice A n C] 24)
  have HN := Lib.hid (refNm_any x (by omega) (w.alloc (.cells #[.int .i64 15, .string x, .string y, .slice A n C] 24)))
  have HB := Lib.hid b1
  have HF := Lib.hid hf
  have HBX : Hid (∀ W, Below (w.alloc (.cells #[.int .i64 15, .string x, .string y, .slice A n C] 24)).heap.size (w.alloc (.cells #[.int .i64 15, .string x, .string y, .slice A n C] 24)) W → W.cell? ⟨w.heap.size, 0, none⟩ = some (.int .i64 15) ∧ W.cell? ⟨w.heap.size, 1, none⟩ = some (.string x) ∧ W.cell? ⟨w.heap.size, 3, none⟩ = some (.slice A n C)) := fun W hW => by
    have cel : ∀ i v, #[Value.int .i64 15, .string x, .string y, .slice A n C][i]? = some v → W.cell? ⟨w.heap.size, i, none⟩ = some v := fun i v hv => by
      rw [hW.cell (p := ⟨w.heap.size, i, none⟩) (by simp), World.cell?_alloc_at _ _ _ _ rfl]
      simpa using hv
    exact ⟨cel 0 _ rfl, cel 1 _ rfl, cel 3 _ rfl⟩
  obtain ⟨nb, hnb⟩ : ∃ nb, nmB x = nb := ⟨_, rfl⟩
  rw [hnb] at HN
  obtain ⟨eb, heb⟩ : ∃ eb, (x.toList == []) = eb := ⟨_, rfl⟩
  clear b1 hf
  have HV0 : Hid (shapeOK 15 x c = (eb && rowOK [.many (isOf [16])] c)) := by show _ = _; rw [← heb]; unfold shapeOK textOK kidsOK; simp
  cases eb with
  | false =>
    have he : ¬ x.toList = [] := by simpa using heb
    have he2 : x.toList.isEmpty = false := by simpa using heb
    have HV : Hid (shapeOK 15 x c = false) := by show _ = _; rw [HV0.out]; rfl
    clear heb HV0
    go_enter Tryz.func30, Tryz.ntmps30
    go_wp2_with fail
    refine HN.out.mono ?_
    rintro e w1 ⟨rfl, hb⟩
    obtain ⟨q0, q1, q3⟩ := HBX.out w1 hb
    have HB1 := Lib.hid (HB.out.trans (hb.mono HB.out.size))
    clear hb HN HBX
    go_wp2
    go_ret
    exact ⟨by rw [HV.out]; rfl, HB1.out⟩
  | true =>
    have he : x.toList = [] := by simpa using heb
    have HV : Hid (shapeOK 15 x c = rowOK [.many (isOf [16])] c) := by show _ = _; rw [HV0.out]; rfl
    clear heb HV0
    go_enter Tryz.func30, Tryz.ntmps30
    go_wp2_with fail
    refine HN.out.mono ?_
    rintro e w1 ⟨rfl, hb⟩
    obtain ⟨q0, q1, q3⟩ := HBX.out w1 hb
    have HB1 := Lib.hid (HB.out.trans (hb.mono HB.out.size))
    clear hb HN HBX
    have HR := Lib.hid (rr_Pm A n C c w1 (HF.out.later HB1.out))
    go_wp2_with fail
    refine HR.out.mono ?_
    rintro e w2 ⟨rfl, hb⟩
    have HB2 := Lib.hid (HB1.out.trans (hb.mono HB1.out.size))
    clear hb
    go_wp2
    go_ret
    exact ⟨by rw [HV.out]; rfl, HB2.out⟩
set_option maxRecDepth 100000 in
set_option maxHeartbeats 8000000 in
theorem shape_17 (x y : ByteArray) (A : Option Addr) (n C : Nat) (c : F) (w : World) (hf : Fs w (Lo w.heap.size) (.slice A n C) c) (hx : x.size ≤ 100000) : Calls Tryz.prog 30 #[.agg #[.int .i64 17, .string x, .string y, .slice A n C]] w fun e w' => e = .returned (.bool (shapeOK 17 x c)) ∧ Below w.heap.size w w' := by
  have b1 := below1 w (.cells #[.int .i64 17, .string x, .string y, .slice A n C] 24)
  have HN := Lib.hid (refNm_any x (by omega) (w.alloc (.cells #[.int .i64 17, .string x, .string y, .slice A n C] 24)))
  have HB := Lib.hid b1
  have HF := Lib.hid hf
  have HBX : Hid (∀ W, Below (w.alloc (.cells #[.int .i64 17, .string x, .string y, .slice A n C] 24)).heap.size (w.alloc (.cells #[.int .i64 17, .string x, .string y, .slice A n C] 24)) W → W.cell? ⟨w.heap.size, 0, none⟩ = some (.int .i64 17) ∧ W.cell? ⟨w.heap.size, 1, none⟩ = some (.string x) ∧ W.cell? ⟨w.heap.size, 3, none⟩ = some (.slice A n C)) := fun W hW => by
    have cel : ∀ i v, #[Value.int .i64 17, .string x, .string y, .slice A n C][i]? = some v → W.cell? ⟨w.heap.size, i, none⟩ = some v := fun i v hv => by
      rw [hW.cell (p := ⟨w.heap.size, i, none⟩) (by simp), World.cell?_alloc_at _ _ _ _ rfl]
      simpa using hv
    exact ⟨cel 0 _ rfl, cel 1 _ rfl, cel 3 _ rfl⟩
  obtain ⟨nb, hnb⟩ : ∃ nb, nmB x = nb := ⟨_, rfl⟩
  rw [hnb] at HN
  obtain ⟨eb, heb⟩ : ∃ eb, (x.toList == []) = eb := ⟨_, rfl⟩
  clear b1 hf
  have HV0 : Hid (shapeOK 17 x c = (eb && rowOK [.many isStm] c)) := by show _ = _; rw [← heb]; unfold shapeOK textOK kidsOK; simp
  cases eb with
  | false =>
    have he : ¬ x.toList = [] := by simpa using heb
    have he2 : x.toList.isEmpty = false := by simpa using heb
    have HV : Hid (shapeOK 17 x c = false) := by show _ = _; rw [HV0.out]; rfl
    clear heb HV0
    go_enter Tryz.func30, Tryz.ntmps30
    go_wp2_with fail
    refine HN.out.mono ?_
    rintro e w1 ⟨rfl, hb⟩
    obtain ⟨q0, q1, q3⟩ := HBX.out w1 hb
    have HB1 := Lib.hid (HB.out.trans (hb.mono HB.out.size))
    clear hb HN HBX
    go_wp2
    go_ret
    exact ⟨by rw [HV.out]; rfl, HB1.out⟩
  | true =>
    have he : x.toList = [] := by simpa using heb
    have HV : Hid (shapeOK 17 x c = rowOK [.many isStm] c) := by show _ = _; rw [HV0.out]; rfl
    clear heb HV0
    go_enter Tryz.func30, Tryz.ntmps30
    go_wp2_with fail
    refine HN.out.mono ?_
    rintro e w1 ⟨rfl, hb⟩
    obtain ⟨q0, q1, q3⟩ := HBX.out w1 hb
    have HB1 := Lib.hid (HB.out.trans (hb.mono HB.out.size))
    clear hb HN HBX
    have HR := Lib.hid (rr_sm A n C c w1 (HF.out.later HB1.out))
    go_wp2_with fail
    refine HR.out.mono ?_
    rintro e w2 ⟨rfl, hb⟩
    have HB2 := Lib.hid (HB1.out.trans (hb.mono HB1.out.size))
    clear hb
    go_wp2
    go_ret
    exact ⟨by rw [HV.out]; rfl, HB2.out⟩
set_option maxRecDepth 100000 in
set_option maxHeartbeats 8000000 in
theorem shape_18 (x y : ByteArray) (A : Option Addr) (n C : Nat) (c : F) (w : World) (hf : Fs w (Lo w.heap.size) (.slice A n C) c) (hx : x.size ≤ 100000) : Calls Tryz.prog 30 #[.agg #[.int .i64 18, .string x, .string y, .slice A n C]] w fun e w' => e = .returned (.bool (shapeOK 18 x c)) ∧ Below w.heap.size w w' := by
  have b1 := below1 w (.cells #[.int .i64 18, .string x, .string y, .slice A n C] 24)
  have HN := Lib.hid (refNm_any x (by omega) (w.alloc (.cells #[.int .i64 18, .string x, .string y, .slice A n C] 24)))
  have HB := Lib.hid b1
  have HF := Lib.hid hf
  have HBX : Hid (∀ W, Below (w.alloc (.cells #[.int .i64 18, .string x, .string y, .slice A n C] 24)).heap.size (w.alloc (.cells #[.int .i64 18, .string x, .string y, .slice A n C] 24)) W → W.cell? ⟨w.heap.size, 0, none⟩ = some (.int .i64 18) ∧ W.cell? ⟨w.heap.size, 1, none⟩ = some (.string x) ∧ W.cell? ⟨w.heap.size, 3, none⟩ = some (.slice A n C)) := fun W hW => by
    have cel : ∀ i v, #[Value.int .i64 18, .string x, .string y, .slice A n C][i]? = some v → W.cell? ⟨w.heap.size, i, none⟩ = some v := fun i v hv => by
      rw [hW.cell (p := ⟨w.heap.size, i, none⟩) (by simp), World.cell?_alloc_at _ _ _ _ rfl]
      simpa using hv
    exact ⟨cel 0 _ rfl, cel 1 _ rfl, cel 3 _ rfl⟩
  obtain ⟨nb, hnb⟩ : ∃ nb, nmB x = nb := ⟨_, rfl⟩
  rw [hnb] at HN
  obtain ⟨eb, heb⟩ : ∃ eb, (x.toList == []) = eb := ⟨_, rfl⟩
  clear b1 hf
  have HV0 : Hid (shapeOK 18 x c = (eb && rowOK [.one [isVal], .one [isOf [17]], .one [isOf [17, 18], isOf [33]]] c)) := by show _ = _; rw [← heb]; unfold shapeOK textOK kidsOK; simp
  cases eb with
  | false =>
    have he : ¬ x.toList = [] := by simpa using heb
    have he2 : x.toList.isEmpty = false := by simpa using heb
    have HV : Hid (shapeOK 18 x c = false) := by show _ = _; rw [HV0.out]; rfl
    clear heb HV0
    go_enter Tryz.func30, Tryz.ntmps30
    go_wp2_with fail
    refine HN.out.mono ?_
    rintro e w1 ⟨rfl, hb⟩
    obtain ⟨q0, q1, q3⟩ := HBX.out w1 hb
    have HB1 := Lib.hid (HB.out.trans (hb.mono HB.out.size))
    clear hb HN HBX
    go_wp2
    go_ret
    exact ⟨by rw [HV.out]; rfl, HB1.out⟩
  | true =>
    have he : x.toList = [] := by simpa using heb
    have HV : Hid (shapeOK 18 x c = rowOK [.one [isVal], .one [isOf [17]], .one [isOf [17, 18], isOf [33]]] c) := by show _ = _; rw [HV0.out]; rfl
    clear heb HV0
    go_enter Tryz.func30, Tryz.ntmps30
    go_wp2_with fail
    refine HN.out.mono ?_
    rintro e w1 ⟨rfl, hb⟩
    obtain ⟨q0, q1, q3⟩ := HBX.out w1 hb
    have HB1 := Lib.hid (HB.out.trans (hb.mono HB.out.size))
    clear hb HN HBX
    have HR := Lib.hid (rr_eBL A n C c w1 (HF.out.later HB1.out))
    go_wp2_with fail
    refine HR.out.mono ?_
    rintro e w2 ⟨rfl, hb⟩
    have HB2 := Lib.hid (HB1.out.trans (hb.mono HB1.out.size))
    clear hb
    go_wp2
    go_ret
    exact ⟨by rw [HV.out]; rfl, HB2.out⟩
set_option maxRecDepth 100000 in
set_option maxHeartbeats 8000000 in
theorem shape_19 (x y : ByteArray) (A : Option Addr) (n C : Nat) (c : F) (w : World) (hf : Fs w (Lo w.heap.size) (.slice A n C) c) (hx : x.size ≤ 100000) : Calls Tryz.prog 30 #[.agg #[.int .i64 19, .string x, .string y, .slice A n C]] w fun e w' => e = .returned (.bool (shapeOK 19 x c)) ∧ Below w.heap.size w w' := by
  have b1 := below1 w (.cells #[.int .i64 19, .string x, .string y, .slice A n C] 24)
  have HN := Lib.hid (refNm_any x (by omega) (w.alloc (.cells #[.int .i64 19, .string x, .string y, .slice A n C] 24)))
  have HB := Lib.hid b1
  have HF := Lib.hid hf
  have HBX : Hid (∀ W, Below (w.alloc (.cells #[.int .i64 19, .string x, .string y, .slice A n C] 24)).heap.size (w.alloc (.cells #[.int .i64 19, .string x, .string y, .slice A n C] 24)) W → W.cell? ⟨w.heap.size, 0, none⟩ = some (.int .i64 19) ∧ W.cell? ⟨w.heap.size, 1, none⟩ = some (.string x) ∧ W.cell? ⟨w.heap.size, 3, none⟩ = some (.slice A n C)) := fun W hW => by
    have cel : ∀ i v, #[Value.int .i64 19, .string x, .string y, .slice A n C][i]? = some v → W.cell? ⟨w.heap.size, i, none⟩ = some v := fun i v hv => by
      rw [hW.cell (p := ⟨w.heap.size, i, none⟩) (by simp), World.cell?_alloc_at _ _ _ _ rfl]
      simpa using hv
    exact ⟨cel 0 _ rfl, cel 1 _ rfl, cel 3 _ rfl⟩
  obtain ⟨nb, hnb⟩ : ∃ nb, nmB x = nb := ⟨_, rfl⟩
  rw [hnb] at HN
  obtain ⟨eb, heb⟩ : ∃ eb, (x.toList == []) = eb := ⟨_, rfl⟩
  clear b1 hf
  have HV0 : Hid (shapeOK 19 x c = (eb && rowOK [.one [isVal, isOf [33]], .one [isOf [17]]] c)) := by show _ = _; rw [← heb]; unfold shapeOK textOK kidsOK; simp
  cases eb with
  | false =>
    have he : ¬ x.toList = [] := by simpa using heb
    have he2 : x.toList.isEmpty = false := by simpa using heb
    have HV : Hid (shapeOK 19 x c = false) := by show _ = _; rw [HV0.out]; rfl
    clear heb HV0
    go_enter Tryz.func30, Tryz.ntmps30
    go_wp2_with fail
    refine HN.out.mono ?_
    rintro e w1 ⟨rfl, hb⟩
    obtain ⟨q0, q1, q3⟩ := HBX.out w1 hb
    have HB1 := Lib.hid (HB.out.trans (hb.mono HB.out.size))
    clear hb HN HBX
    go_wp2
    go_ret
    exact ⟨by rw [HV.out]; rfl, HB1.out⟩
  | true =>
    have he : x.toList = [] := by simpa using heb
    have HV : Hid (shapeOK 19 x c = rowOK [.one [isVal, isOf [33]], .one [isOf [17]]] c) := by show _ = _; rw [HV0.out]; rfl
    clear heb HV0
    go_enter Tryz.func30, Tryz.ntmps30
    go_wp2_with fail
    refine HN.out.mono ?_
    rintro e w1 ⟨rfl, hb⟩
    obtain ⟨q0, q1, q3⟩ := HBX.out w1 hb
    have HB1 := Lib.hid (HB.out.trans (hb.mono HB.out.size))
    clear hb HN HBX
    have HR := Lib.hid (rr_EB A n C c w1 (HF.out.later HB1.out))
    go_wp2_with fail
    refine HR.out.mono ?_
    rintro e w2 ⟨rfl, hb⟩
    have HB2 := Lib.hid (HB1.out.trans (hb.mono HB1.out.size))
    clear hb
    go_wp2
    go_ret
    exact ⟨by rw [HV.out]; rfl, HB2.out⟩
set_option maxRecDepth 100000 in
set_option maxHeartbeats 8000000 in
theorem shape_20 (x y : ByteArray) (A : Option Addr) (n C : Nat) (c : F) (w : World) (hf : Fs w (Lo w.heap.size) (.slice A n C) c) (hx : x.size ≤ 100000) : Calls Tryz.prog 30 #[.agg #[.int .i64 20, .string x, .string y, .slice A n C]] w fun e w' => e = .returned (.bool (shapeOK 20 x c)) ∧ Below w.heap.size w w' := by
  have b1 := below1 w (.cells #[.int .i64 20, .string x, .string y, .slice A n C] 24)
  have HN := Lib.hid (refNm_any x (by omega) (w.alloc (.cells #[.int .i64 20, .string x, .string y, .slice A n C] 24)))
  have HB := Lib.hid b1
  have HF := Lib.hid hf
  have HBX : Hid (∀ W, Below (w.alloc (.cells #[.int .i64 20, .string x, .string y, .slice A n C] 24)).heap.size (w.alloc (.cells #[.int .i64 20, .string x, .string y, .slice A n C] 24)) W → W.cell? ⟨w.heap.size, 0, none⟩ = some (.int .i64 20) ∧ W.cell? ⟨w.heap.size, 1, none⟩ = some (.string x) ∧ W.cell? ⟨w.heap.size, 3, none⟩ = some (.slice A n C)) := fun W hW => by
    have cel : ∀ i v, #[Value.int .i64 20, .string x, .string y, .slice A n C][i]? = some v → W.cell? ⟨w.heap.size, i, none⟩ = some v := fun i v hv => by
      rw [hW.cell (p := ⟨w.heap.size, i, none⟩) (by simp), World.cell?_alloc_at _ _ _ _ rfl]
      simpa using hv
    exact ⟨cel 0 _ rfl, cel 1 _ rfl, cel 3 _ rfl⟩
  obtain ⟨nb, hnb⟩ : ∃ nb, nmB x = nb := ⟨_, rfl⟩
  rw [hnb] at HN
  obtain ⟨eb, heb⟩ : ∃ eb, (x.toList == []) = eb := ⟨_, rfl⟩
  clear b1 hf
  have HV0 : Hid (shapeOK 20 x c = (eb && rowOK [.many isVal] c)) := by show _ = _; rw [← heb]; unfold shapeOK textOK kidsOK; simp
  cases eb with
  | false =>
    have he : ¬ x.toList = [] := by simpa using heb
    have he2 : x.toList.isEmpty = false := by simpa using heb
    have HV : Hid (shapeOK 20 x c = false) := by show _ = _; rw [HV0.out]; rfl
    clear heb HV0
    go_enter Tryz.func30, Tryz.ntmps30
    go_wp2_with fail
    refine HN.out.mono ?_
    rintro e w1 ⟨rfl, hb⟩
    obtain ⟨q0, q1, q3⟩ := HBX.out w1 hb
    have HB1 := Lib.hid (HB.out.trans (hb.mono HB.out.size))
    clear hb HN HBX
    go_wp2
    go_ret
    exact ⟨by rw [HV.out]; rfl, HB1.out⟩
  | true =>
    have he : x.toList = [] := by simpa using heb
    have HV : Hid (shapeOK 20 x c = rowOK [.many isVal] c) := by show _ = _; rw [HV0.out]; rfl
    clear heb HV0
    go_enter Tryz.func30, Tryz.ntmps30
    go_wp2_with fail
    refine HN.out.mono ?_
    rintro e w1 ⟨rfl, hb⟩
    obtain ⟨q0, q1, q3⟩ := HBX.out w1 hb
    have HB1 := Lib.hid (HB.out.trans (hb.mono HB.out.size))
    clear hb HN HBX
    have HR := Lib.hid (rr_em A n C c w1 (HF.out.later HB1.out))
    go_wp2_with fail
    refine HR.out.mono ?_
    rintro e w2 ⟨rfl, hb⟩
    have HB2 := Lib.hid (HB1.out.trans (hb.mono HB1.out.size))
    clear hb
    go_wp2
    go_ret
    exact ⟨by rw [HV.out]; rfl, HB2.out⟩
set_option maxRecDepth 100000 in
set_option maxHeartbeats 8000000 in
theorem shape_23 (x y : ByteArray) (A : Option Addr) (n C : Nat) (c : F) (w : World) (hf : Fs w (Lo w.heap.size) (.slice A n C) c) (hx : x.size ≤ 100000) : Calls Tryz.prog 30 #[.agg #[.int .i64 23, .string x, .string y, .slice A n C]] w fun e w' => e = .returned (.bool (shapeOK 23 x c)) ∧ Below w.heap.size w w' := by
  have b1 := below1 w (.cells #[.int .i64 23, .string x, .string y, .slice A n C] 24)
  have HN := Lib.hid (refNm_any x (by omega) (w.alloc (.cells #[.int .i64 23, .string x, .string y, .slice A n C] 24)))
  have HB := Lib.hid b1
  have HF := Lib.hid hf
  have HBX : Hid (∀ W, Below (w.alloc (.cells #[.int .i64 23, .string x, .string y, .slice A n C] 24)).heap.size (w.alloc (.cells #[.int .i64 23, .string x, .string y, .slice A n C] 24)) W → W.cell? ⟨w.heap.size, 0, none⟩ = some (.int .i64 23) ∧ W.cell? ⟨w.heap.size, 1, none⟩ = some (.string x) ∧ W.cell? ⟨w.heap.size, 3, none⟩ = some (.slice A n C)) := fun W hW => by
    have cel : ∀ i v, #[Value.int .i64 23, .string x, .string y, .slice A n C][i]? = some v → W.cell? ⟨w.heap.size, i, none⟩ = some v := fun i v hv => by
      rw [hW.cell (p := ⟨w.heap.size, i, none⟩) (by simp), World.cell?_alloc_at _ _ _ _ rfl]
      simpa using hv
    exact ⟨cel 0 _ rfl, cel 1 _ rfl, cel 3 _ rfl⟩
  obtain ⟨nb, hnb⟩ : ∃ nb, nmB x = nb := ⟨_, rfl⟩
  rw [hnb] at HN
  obtain ⟨eb, heb⟩ : ∃ eb, (x.toList == []) = eb := ⟨_, rfl⟩
  clear b1 hf
  have HV0 : Hid (shapeOK 23 x c = (eb && rowOK [.one [isOf [30]]] c)) := by show _ = _; rw [← heb]; unfold shapeOK textOK kidsOK; simp
  cases eb with
  | false =>
    have he : ¬ x.toList = [] := by simpa using heb
    have he2 : x.toList.isEmpty = false := by simpa using heb
    have HV : Hid (shapeOK 23 x c = false) := by show _ = _; rw [HV0.out]; rfl
    clear heb HV0
    go_enter Tryz.func30, Tryz.ntmps30
    go_wp2_with fail
    refine HN.out.mono ?_
    rintro e w1 ⟨rfl, hb⟩
    obtain ⟨q0, q1, q3⟩ := HBX.out w1 hb
    have HB1 := Lib.hid (HB.out.trans (hb.mono HB.out.size))
    clear hb HN HBX
    go_wp2
    go_ret
    exact ⟨by rw [HV.out]; rfl, HB1.out⟩
  | true =>
    have he : x.toList = [] := by simpa using heb
    have HV : Hid (shapeOK 23 x c = rowOK [.one [isOf [30]]] c) := by show _ = _; rw [HV0.out]; rfl
    clear heb HV0
    go_enter Tryz.func30, Tryz.ntmps30
    go_wp2_with fail
    refine HN.out.mono ?_
    rintro e w1 ⟨rfl, hb⟩
    obtain ⟨q0, q1, q3⟩ := HBX.out w1 hb
    have HB1 := Lib.hid (HB.out.trans (hb.mono HB.out.size))
    clear hb HN HBX
    have HR := Lib.hid (rr_C A n C c w1 (HF.out.later HB1.out))
    go_wp2_with fail
    refine HR.out.mono ?_
    rintro e w2 ⟨rfl, hb⟩
    have HB2 := Lib.hid (HB1.out.trans (hb.mono HB1.out.size))
    clear hb
    go_wp2
    go_ret
    exact ⟨by rw [HV.out]; rfl, HB2.out⟩
set_option maxRecDepth 100000 in
set_option maxHeartbeats 8000000 in
theorem shape_30 (x y : ByteArray) (A : Option Addr) (n C : Nat) (c : F) (w : World) (hf : Fs w (Lo w.heap.size) (.slice A n C) c) (hx : x.size ≤ 100000) : Calls Tryz.prog 30 #[.agg #[.int .i64 30, .string x, .string y, .slice A n C]] w fun e w' => e = .returned (.bool (shapeOK 30 x c)) ∧ Below w.heap.size w w' := by
  have b1 := below1 w (.cells #[.int .i64 30, .string x, .string y, .slice A n C] 24)
  have HN := Lib.hid (refNm_any x (by omega) (w.alloc (.cells #[.int .i64 30, .string x, .string y, .slice A n C] 24)))
  have HB := Lib.hid b1
  have HF := Lib.hid hf
  have HBX : Hid (∀ W, Below (w.alloc (.cells #[.int .i64 30, .string x, .string y, .slice A n C] 24)).heap.size (w.alloc (.cells #[.int .i64 30, .string x, .string y, .slice A n C] 24)) W → W.cell? ⟨w.heap.size, 0, none⟩ = some (.int .i64 30) ∧ W.cell? ⟨w.heap.size, 1, none⟩ = some (.string x) ∧ W.cell? ⟨w.heap.size, 3, none⟩ = some (.slice A n C)) := fun W hW => by
    have cel : ∀ i v, #[Value.int .i64 30, .string x, .string y, .slice A n C][i]? = some v → W.cell? ⟨w.heap.size, i, none⟩ = some v := fun i v hv => by
      rw [hW.cell (p := ⟨w.heap.size, i, none⟩) (by simp), World.cell?_alloc_at _ _ _ _ rfl]
      simpa using hv
    exact ⟨cel 0 _ rfl, cel 1 _ rfl, cel 3 _ rfl⟩
  obtain ⟨nb, hnb⟩ : ∃ nb, nmB x = nb := ⟨_, rfl⟩
  rw [hnb] at HN
  obtain ⟨eb, heb⟩ : ∃ eb, (x.toList == []) = eb := ⟨_, rfl⟩
  clear b1 hf
  have HV0 : Hid (shapeOK 30 x c = (eb && rowOK [.one [isVal], .many isVal] c)) := by show _ = _; rw [← heb]; unfold shapeOK textOK kidsOK; simp
  cases eb with
  | false =>
    have he : ¬ x.toList = [] := by simpa using heb
    have he2 : x.toList.isEmpty = false := by simpa using heb
    have HV : Hid (shapeOK 30 x c = false) := by show _ = _; rw [HV0.out]; rfl
    clear heb HV0
    go_enter Tryz.func30, Tryz.ntmps30
    go_wp2_with fail
    refine HN.out.mono ?_
    rintro e w1 ⟨rfl, hb⟩
    obtain ⟨q0, q1, q3⟩ := HBX.out w1 hb
    have HB1 := Lib.hid (HB.out.trans (hb.mono HB.out.size))
    clear hb HN HBX
    go_wp2
    go_ret
    exact ⟨by rw [HV.out]; rfl, HB1.out⟩
  | true =>
    have he : x.toList = [] := by simpa using heb
    have HV : Hid (shapeOK 30 x c = rowOK [.one [isVal], .many isVal] c) := by show _ = _; rw [HV0.out]; rfl
    clear heb HV0
    go_enter Tryz.func30, Tryz.ntmps30
    go_wp2_with fail
    refine HN.out.mono ?_
    rintro e w1 ⟨rfl, hb⟩
    obtain ⟨q0, q1, q3⟩ := HBX.out w1 hb
    have HB1 := Lib.hid (HB.out.trans (hb.mono HB.out.size))
    clear hb HN HBX
    have HR := Lib.hid (rr_eem A n C c w1 (HF.out.later HB1.out))
    go_wp2_with fail
    refine HR.out.mono ?_
    rintro e w2 ⟨rfl, hb⟩
    have HB2 := Lib.hid (HB1.out.trans (hb.mono HB1.out.size))
    clear hb
    go_wp2
    go_ret
    exact ⟨by rw [HV.out]; rfl, HB2.out⟩
set_option maxRecDepth 100000 in
set_option maxHeartbeats 8000000 in
theorem shape_31 (x y : ByteArray) (A : Option Addr) (n C : Nat) (c : F) (w : World) (hf : Fs w (Lo w.heap.size) (.slice A n C) c) (hx : x.size ≤ 100000) : Calls Tryz.prog 30 #[.agg #[.int .i64 31, .string x, .string y, .slice A n C]] w fun e w' => e = .returned (.bool (shapeOK 31 x c)) ∧ Below w.heap.size w w' := by
  have b1 := below1 w (.cells #[.int .i64 31, .string x, .string y, .slice A n C] 24)
  have HN := Lib.hid (refNm_any x (by omega) (w.alloc (.cells #[.int .i64 31, .string x, .string y, .slice A n C] 24)))
  have HB := Lib.hid b1
  have HF := Lib.hid hf
  have HBX : Hid (∀ W, Below (w.alloc (.cells #[.int .i64 31, .string x, .string y, .slice A n C] 24)).heap.size (w.alloc (.cells #[.int .i64 31, .string x, .string y, .slice A n C] 24)) W → W.cell? ⟨w.heap.size, 0, none⟩ = some (.int .i64 31) ∧ W.cell? ⟨w.heap.size, 1, none⟩ = some (.string x) ∧ W.cell? ⟨w.heap.size, 3, none⟩ = some (.slice A n C)) := fun W hW => by
    have cel : ∀ i v, #[Value.int .i64 31, .string x, .string y, .slice A n C][i]? = some v → W.cell? ⟨w.heap.size, i, none⟩ = some v := fun i v hv => by
      rw [hW.cell (p := ⟨w.heap.size, i, none⟩) (by simp), World.cell?_alloc_at _ _ _ _ rfl]
      simpa using hv
    exact ⟨cel 0 _ rfl, cel 1 _ rfl, cel 3 _ rfl⟩
  obtain ⟨nb, hnb⟩ : ∃ nb, nmB x = nb := ⟨_, rfl⟩
  rw [hnb] at HN
  obtain ⟨eb, heb⟩ : ∃ eb, (x.toList == []) = eb := ⟨_, rfl⟩
  clear b1 hf
  have HV0 : Hid (shapeOK 31 x c = (eb && rowOK [.one [isVal], .one [isVal]] c)) := by show _ = _; rw [← heb]; unfold shapeOK textOK kidsOK; simp
  cases eb with
  | false =>
    have he : ¬ x.toList = [] := by simpa using heb
    have he2 : x.toList.isEmpty = false := by simpa using heb
    have HV : Hid (shapeOK 31 x c = false) := by show _ = _; rw [HV0.out]; rfl
    clear heb HV0
    go_enter Tryz.func30, Tryz.ntmps30
    go_wp2_with fail
    refine HN.out.mono ?_
    rintro e w1 ⟨rfl, hb⟩
    obtain ⟨q0, q1, q3⟩ := HBX.out w1 hb
    have HB1 := Lib.hid (HB.out.trans (hb.mono HB.out.size))
    clear hb HN HBX
    go_wp2
    go_ret
    exact ⟨by rw [HV.out]; rfl, HB1.out⟩
  | true =>
    have he : x.toList = [] := by simpa using heb
    have HV : Hid (shapeOK 31 x c = rowOK [.one [isVal], .one [isVal]] c) := by show _ = _; rw [HV0.out]; rfl
    clear heb HV0
    go_enter Tryz.func30, Tryz.ntmps30
    go_wp2_with fail
    refine HN.out.mono ?_
    rintro e w1 ⟨rfl, hb⟩
    obtain ⟨q0, q1, q3⟩ := HBX.out w1 hb
    have HB1 := Lib.hid (HB.out.trans (hb.mono HB.out.size))
    clear hb HN HBX
    have HR := Lib.hid (rr_ee A n C c w1 (HF.out.later HB1.out))
    go_wp2_with fail
    refine HR.out.mono ?_
    rintro e w2 ⟨rfl, hb⟩
    have HB2 := Lib.hid (HB1.out.trans (hb.mono HB1.out.size))
    clear hb
    go_wp2
    go_ret
    exact ⟨by rw [HV.out]; rfl, HB2.out⟩
set_option maxRecDepth 100000 in
set_option maxHeartbeats 8000000 in
theorem shape_24 (x y : ByteArray) (A : Option Addr) (n C : Nat) (c : F) (w : World) (hf : Fs w (Lo w.heap.size) (.slice A n C) c) (hx : x.size ≤ 100000) : Calls Tryz.prog 30 #[.agg #[.int .i64 24, .string x, .string y, .slice A n C]] w fun e w' => e = .returned (.bool (shapeOK 24 x c)) ∧ Below w.heap.size w w' := by
  have b1 := below1 w (.cells #[.int .i64 24, .string x, .string y, .slice A n C] 24)
  have HN := Lib.hid (refNm_any x (by omega) (w.alloc (.cells #[.int .i64 24, .string x, .string y, .slice A n C] 24)))
  have HB := Lib.hid b1
  have HF := Lib.hid hf
  have HBX : Hid (∀ W, Below (w.alloc (.cells #[.int .i64 24, .string x, .string y, .slice A n C] 24)).heap.size (w.alloc (.cells #[.int .i64 24, .string x, .string y, .slice A n C] 24)) W → W.cell? ⟨w.heap.size, 0, none⟩ = some (.int .i64 24) ∧ W.cell? ⟨w.heap.size, 1, none⟩ = some (.string x) ∧ W.cell? ⟨w.heap.size, 3, none⟩ = some (.slice A n C)) := fun W hW => by
    have cel : ∀ i v, #[Value.int .i64 24, .string x, .string y, .slice A n C][i]? = some v → W.cell? ⟨w.heap.size, i, none⟩ = some v := fun i v hv => by
      rw [hW.cell (p := ⟨w.heap.size, i, none⟩) (by simp), World.cell?_alloc_at _ _ _ _ rfl]
      simpa using hv
    exact ⟨cel 0 _ rfl, cel 1 _ rfl, cel 3 _ rfl⟩
  obtain ⟨nb, hnb⟩ : ∃ nb, nmB x = nb := ⟨_, rfl⟩
  rw [hnb] at HN
  obtain ⟨eb, heb⟩ : ∃ eb, (x.toList == []) = eb := ⟨_, rfl⟩
  clear b1 hf
  have HV0 : Hid (shapeOK 24 x c = (eb && decide (c.len = 0))) := by show _ = _; rw [← heb]; unfold shapeOK textOK kidsOK; simp
  obtain ⟨A0, C0, e, _, _⟩ := HF.out.slice
  injection e with e1 e2 e3
  have hlen : c.len = n := e2.symm
  clear e1 e2 e3
  cases eb with
  | false =>
    have he : ¬ x.toList = [] := by simpa using heb
    have he2 : x.toList.isEmpty = false := by simpa using heb
    have HV : Hid (shapeOK 24 x c = false) := by show _ = _; rw [HV0.out]; rfl
    clear heb HV0
    go_enter Tryz.func30, Tryz.ntmps30
    go_wp2_with fail
    refine HN.out.mono ?_
    rintro e w1 ⟨rfl, hb⟩
    obtain ⟨q0, q1, q3⟩ := HBX.out w1 hb
    have HB1 := Lib.hid (HB.out.trans (hb.mono HB.out.size))
    clear hb HN HBX
    go_wp2
    go_ret
    exact ⟨by rw [HV.out]; rfl, HB1.out⟩
  | true =>
    have he : x.toList = [] := by simpa using heb
    have HV : Hid (shapeOK 24 x c = ((n : Int) == 0)) := by
      show _ = _
      rw [HV0.out, hlen]
      by_cases hz : n = 0
      · subst hz; rfl
      · rw [decide_eq_false hz, kno (by omega)]; rfl
    clear heb HV0 hlen
    go_enter Tryz.func30, Tryz.ntmps30
    go_wp2_with fail
    refine HN.out.mono ?_
    rintro e w1 ⟨rfl, hb⟩
    obtain ⟨q0, q1, q3⟩ := HBX.out w1 hb
    have HB1 := Lib.hid (HB.out.trans (hb.mono HB.out.size))
    clear hb HN HBX
    go_wp2
    go_ret
    exact ⟨by rw [HV.out]; rfl, HB1.out⟩
set_option maxRecDepth 100000 in
set_option maxHeartbeats 8000000 in
theorem shape_25 (x y : ByteArray) (A : Option Addr) (n C : Nat) (c : F) (w : World) (hf : Fs w (Lo w.heap.size) (.slice A n C) c) (hx : x.size ≤ 100000) : Calls Tryz.prog 30 #[.agg #[.int .i64 25, .string x, .string y, .slice A n C]] w fun e w' => e = .returned (.bool (shapeOK 25 x c)) ∧ Below w.heap.size w w' := by
  have b1 := below1 w (.cells #[.int .i64 25, .string x, .string y, .slice A n C] 24)
  have HN := Lib.hid (refNm_any x (by omega) (w.alloc (.cells #[.int .i64 25, .string x, .string y, .slice A n C] 24)))
  have HB := Lib.hid b1
  have HF := Lib.hid hf
  have HBX : Hid (∀ W, Below (w.alloc (.cells #[.int .i64 25, .string x, .string y, .slice A n C] 24)).heap.size (w.alloc (.cells #[.int .i64 25, .string x, .string y, .slice A n C] 24)) W → W.cell? ⟨w.heap.size, 0, none⟩ = some (.int .i64 25) ∧ W.cell? ⟨w.heap.size, 1, none⟩ = some (.string x) ∧ W.cell? ⟨w.heap.size, 3, none⟩ = some (.slice A n C)) := fun W hW => by
    have cel : ∀ i v, #[Value.int .i64 25, .string x, .string y, .slice A n C][i]? = some v → W.cell? ⟨w.heap.size, i, none⟩ = some v := fun i v hv => by
      rw [hW.cell (p := ⟨w.heap.size, i, none⟩) (by simp), World.cell?_alloc_at _ _ _ _ rfl]
      simpa using hv
    exact ⟨cel 0 _ rfl, cel 1 _ rfl, cel 3 _ rfl⟩
  obtain ⟨nb, hnb⟩ : ∃ nb, nmB x = nb := ⟨_, rfl⟩
  rw [hnb] at HN
  obtain ⟨eb, heb⟩ : ∃ eb, (x.toList == []) = eb := ⟨_, rfl⟩
  clear b1 hf
  have HV0 : Hid (shapeOK 25 x c = (eb && decide (c.len = 0))) := by show _ = _; rw [← heb]; unfold shapeOK textOK kidsOK; simp
  obtain ⟨A0, C0, e, _, _⟩ := HF.out.slice
  injection e with e1 e2 e3
  have hlen : c.len = n := e2.symm
  clear e1 e2 e3
  cases eb with
  | false =>
    have he : ¬ x.toList = [] := by simpa using heb
    have he2 : x.toList.isEmpty = false := by simpa using heb
    have HV : Hid (shapeOK 25 x c = false) := by show _ = _; rw [HV0.out]; rfl
    clear heb HV0
    go_enter Tryz.func30, Tryz.ntmps30
    go_wp2_with fail
    refine HN.out.mono ?_
    rintro e w1 ⟨rfl, hb⟩
    obtain ⟨q0, q1, q3⟩ := HBX.out w1 hb
    have HB1 := Lib.hid (HB.out.trans (hb.mono HB.out.size))
    clear hb HN HBX
    go_wp2
    go_ret
    exact ⟨by rw [HV.out]; rfl, HB1.out⟩
  | true =>
    have he : x.toList = [] := by simpa using heb
    have HV : Hid (shapeOK 25 x c = ((n : Int) == 0)) := by
      show _ = _
      rw [HV0.out, hlen]
      by_cases hz : n = 0
      · subst hz; rfl
      · rw [decide_eq_false hz, kno (by omega)]; rfl
    clear heb HV0 hlen
    go_enter Tryz.func30, Tryz.ntmps30
    go_wp2_with fail
    refine HN.out.mono ?_
    rintro e w1 ⟨rfl, hb⟩
    obtain ⟨q0, q1, q3⟩ := HBX.out w1 hb
    have HB1 := Lib.hid (HB.out.trans (hb.mono HB.out.size))
    clear hb HN HBX
    go_wp2
    go_ret
    exact ⟨by rw [HV.out]; rfl, HB1.out⟩
set_option maxRecDepth 100000 in
set_option maxHeartbeats 8000000 in
theorem shape_33 (x y : ByteArray) (A : Option Addr) (n C : Nat) (c : F) (w : World) (hf : Fs w (Lo w.heap.size) (.slice A n C) c) (hx : x.size ≤ 100000) : Calls Tryz.prog 30 #[.agg #[.int .i64 33, .string x, .string y, .slice A n C]] w fun e w' => e = .returned (.bool (shapeOK 33 x c)) ∧ Below w.heap.size w w' := by
  have b1 := below1 w (.cells #[.int .i64 33, .string x, .string y, .slice A n C] 24)
  have HN := Lib.hid (refNm_any x (by omega) (w.alloc (.cells #[.int .i64 33, .string x, .string y, .slice A n C] 24)))
  have HB := Lib.hid b1
  have HF := Lib.hid hf
  have HBX : Hid (∀ W, Below (w.alloc (.cells #[.int .i64 33, .string x, .string y, .slice A n C] 24)).heap.size (w.alloc (.cells #[.int .i64 33, .string x, .string y, .slice A n C] 24)) W → W.cell? ⟨w.heap.size, 0, none⟩ = some (.int .i64 33) ∧ W.cell? ⟨w.heap.size, 1, none⟩ = some (.string x) ∧ W.cell? ⟨w.heap.size, 3, none⟩ = some (.slice A n C)) := fun W hW => by
    have cel : ∀ i v, #[Value.int .i64 33, .string x, .string y, .slice A n C][i]? = some v → W.cell? ⟨w.heap.size, i, none⟩ = some v := fun i v hv => by
      rw [hW.cell (p := ⟨w.heap.size, i, none⟩) (by simp), World.cell?_alloc_at _ _ _ _ rfl]
      simpa using hv
    exact ⟨cel 0 _ rfl, cel 1 _ rfl, cel 3 _ rfl⟩
  obtain ⟨nb, hnb⟩ : ∃ nb, nmB x = nb := ⟨_, rfl⟩
  rw [hnb] at HN
  obtain ⟨eb, heb⟩ : ∃ eb, (x.toList == []) = eb := ⟨_, rfl⟩
  clear b1 hf
  have HV0 : Hid (shapeOK 33 x c = (eb && decide (c.len = 0))) := by show _ = _; rw [← heb]; unfold shapeOK textOK kidsOK; simp
  obtain ⟨A0, C0, e, _, _⟩ := HF.out.slice
  injection e with e1 e2 e3
  have hlen : c.len = n := e2.symm
  clear e1 e2 e3
  cases eb with
  | false =>
    have he : ¬ x.toList = [] := by simpa using heb
    have he2 : x.toList.isEmpty = false := by simpa using heb
    have HV : Hid (shapeOK 33 x c = false) := by show _ = _; rw [HV0.out]; rfl
    clear heb HV0
    go_enter Tryz.func30, Tryz.ntmps30
    go_wp2_with fail
    refine HN.out.mono ?_
    rintro e w1 ⟨rfl, hb⟩
    obtain ⟨q0, q1, q3⟩ := HBX.out w1 hb
    have HB1 := Lib.hid (HB.out.trans (hb.mono HB.out.size))
    clear hb HN HBX
    go_wp2
    go_ret
    exact ⟨by rw [HV.out]; rfl, HB1.out⟩
  | true =>
    have he : x.toList = [] := by simpa using heb
    have HV : Hid (shapeOK 33 x c = ((n : Int) == 0)) := by
      show _ = _
      rw [HV0.out, hlen]
      by_cases hz : n = 0
      · subst hz; rfl
      · rw [decide_eq_false hz, kno (by omega)]; rfl
    clear heb HV0 hlen
    go_enter Tryz.func30, Tryz.ntmps30
    go_wp2_with fail
    refine HN.out.mono ?_
    rintro e w1 ⟨rfl, hb⟩
    obtain ⟨q0, q1, q3⟩ := HBX.out w1 hb
    have HB1 := Lib.hid (HB.out.trans (hb.mono HB.out.size))
    clear hb HN HBX
    go_wp2
    go_ret
    exact ⟨by rw [HV.out]; rfl, HB1.out⟩
set_option maxRecDepth 100000 in
set_option maxHeartbeats 8000000 in
theorem shape_2 (x y : ByteArray) (A : Option Addr) (n C : Nat) (c : F) (w : World) (hf : Fs w (Lo w.heap.size) (.slice A n C) c) (hx : x.size ≤ 100000) : Calls Tryz.prog 30 #[.agg #[.int .i64 2, .string x, .string y, .slice A n C]] w fun e w' => e = .returned (.bool (shapeOK 2 x c)) ∧ Below w.heap.size w w' := by
  have b1 := below1 w (.cells #[.int .i64 2, .string x, .string y, .slice A n C] 24)
  have HN := Lib.hid (refNm_any x (by omega) (w.alloc (.cells #[.int .i64 2, .string x, .string y, .slice A n C] 24)))
  have HB := Lib.hid b1
  have HF := Lib.hid hf
  have HBX : Hid (∀ W, Below (w.alloc (.cells #[.int .i64 2, .string x, .string y, .slice A n C] 24)).heap.size (w.alloc (.cells #[.int .i64 2, .string x, .string y, .slice A n C] 24)) W → W.cell? ⟨w.heap.size, 0, none⟩ = some (.int .i64 2) ∧ W.cell? ⟨w.heap.size, 1, none⟩ = some (.string x) ∧ W.cell? ⟨w.heap.size, 3, none⟩ = some (.slice A n C)) := fun W hW => by
    have cel : ∀ i v, #[Value.int .i64 2, .string x, .string y, .slice A n C][i]? = some v → W.cell? ⟨w.heap.size, i, none⟩ = some v := fun i v hv => by
      rw [hW.cell (p := ⟨w.heap.size, i, none⟩) (by simp), World.cell?_alloc_at _ _ _ _ rfl]
      simpa using hv
    exact ⟨cel 0 _ rfl, cel 1 _ rfl, cel 3 _ rfl⟩
  obtain ⟨nb, hnb⟩ : ∃ nb, nmB x = nb := ⟨_, rfl⟩
  rw [hnb] at HN
  obtain ⟨eb, heb⟩ : ∃ eb, (x.toList == []) = eb := ⟨_, rfl⟩
  clear b1 hf
  have HV0 : Hid (shapeOK 2 x c = (nb && decide (c.len = 0))) := by show _ = _; rw [← hnb]; unfold shapeOK textOK kidsOK; simp
  obtain ⟨A0, C0, e, _, _⟩ := HF.out.slice
  injection e with e1 e2 e3
  have hlen : c.len = n := e2.symm
  clear e1 e2 e3
  cases eb with
  | false =>
    have he : ¬ x.toList = [] := by simpa using heb
    have he2 : x.toList.isEmpty = false := by simpa using heb
    cases nb with
    | false =>
      have HV : Hid (shapeOK 2 x c = false) := by show _ = _; rw [HV0.out]; rfl
      clear heb HV0 hnb
      go_enter Tryz.func30, Tryz.ntmps30
      go_wp2_with fail
      refine HN.out.mono ?_
      rintro e w1 ⟨rfl, hb⟩
      obtain ⟨q0, q1, q3⟩ := HBX.out w1 hb
      have HB1 := Lib.hid (HB.out.trans (hb.mono HB.out.size))
      clear hb HN HBX
      go_wp2
      go_ret
      exact ⟨by rw [HV.out]; rfl, HB1.out⟩
    | true =>
      have HV : Hid (shapeOK 2 x c = ((n : Int) == 0)) := by
        show _ = _
        rw [HV0.out, hlen]
        by_cases hz : n = 0
        · subst hz; rfl
        · rw [decide_eq_false hz, kno (by omega)]; rfl
      clear heb HV0 hlen hnb
      go_enter Tryz.func30, Tryz.ntmps30
      go_wp2_with fail
      refine HN.out.mono ?_
      rintro e w1 ⟨rfl, hb⟩
      obtain ⟨q0, q1, q3⟩ := HBX.out w1 hb
      have HB1 := Lib.hid (HB.out.trans (hb.mono HB.out.size))
      clear hb HN HBX
      go_wp2
      go_ret
      exact ⟨by rw [HV.out]; rfl, HB1.out⟩
  | true =>
    have he : x.toList = [] := by simpa using heb
    cases nb with
    | false =>
      have HV : Hid (shapeOK 2 x c = false) := by show _ = _; rw [HV0.out]; rfl
      clear heb HV0 hnb
      go_enter Tryz.func30, Tryz.ntmps30
      go_wp2_with fail
      refine HN.out.mono ?_
      rintro e w1 ⟨rfl, hb⟩
      obtain ⟨q0, q1, q3⟩ := HBX.out w1 hb
      have HB1 := Lib.hid (HB.out.trans (hb.mono HB.out.size))
      clear hb HN HBX
      go_wp2
      go_ret
      exact ⟨by rw [HV.out]; rfl, HB1.out⟩
    | true =>
      have HV : Hid (shapeOK 2 x c = ((n : Int) == 0)) := by
        show _ = _
        rw [HV0.out, hlen]
        by_cases hz : n = 0
        · subst hz; rfl
        · rw [decide_eq_false hz, kno (by omega)]; rfl
      clear heb HV0 hlen hnb
      go_enter Tryz.func30, Tryz.ntmps30
      go_wp2_with fail
      refine HN.out.mono ?_
      rintro e w1 ⟨rfl, hb⟩
      obtain ⟨q0, q1, q3⟩ := HBX.out w1 hb
      have HB1 := Lib.hid (HB.out.trans (hb.mono HB.out.size))
      clear hb HN HBX
      go_wp2
      go_ret
      exact ⟨by rw [HV.out]; rfl, HB1.out⟩
set_option maxRecDepth 100000 in
set_option maxHeartbeats 8000000 in
theorem shape_9 (x y : ByteArray) (A : Option Addr) (n C : Nat) (c : F) (w : World) (hf : Fs w (Lo w.heap.size) (.slice A n C) c) (hx : x.size ≤ 100000) : Calls Tryz.prog 30 #[.agg #[.int .i64 9, .string x, .string y, .slice A n C]] w fun e w' => e = .returned (.bool (shapeOK 9 x c)) ∧ Below w.heap.size w w' := by
  have b1 := below1 w (.cells #[.int .i64 9, .string x, .string y, .slice A n C] 24)
  have HN := Lib.hid (refNm_any x (by omega) (w.alloc (.cells #[.int .i64 9, .string x, .string y, .slice A n C] 24)))
  have HB := Lib.hid b1
  have HF := Lib.hid hf
  have HBX : Hid (∀ W, Below (w.alloc (.cells #[.int .i64 9, .string x, .string y, .slice A n C] 24)).heap.size (w.alloc (.cells #[.int .i64 9, .string x, .string y, .slice A n C] 24)) W → W.cell? ⟨w.heap.size, 0, none⟩ = some (.int .i64 9) ∧ W.cell? ⟨w.heap.size, 1, none⟩ = some (.string x) ∧ W.cell? ⟨w.heap.size, 3, none⟩ = some (.slice A n C)) := fun W hW => by
    have cel : ∀ i v, #[Value.int .i64 9, .string x, .string y, .slice A n C][i]? = some v → W.cell? ⟨w.heap.size, i, none⟩ = some v := fun i v hv => by
      rw [hW.cell (p := ⟨w.heap.size, i, none⟩) (by simp), World.cell?_alloc_at _ _ _ _ rfl]
      simpa using hv
    exact ⟨cel 0 _ rfl, cel 1 _ rfl, cel 3 _ rfl⟩
  obtain ⟨nb, hnb⟩ : ∃ nb, nmB x = nb := ⟨_, rfl⟩
  rw [hnb] at HN
  obtain ⟨eb, heb⟩ : ∃ eb, (x.toList == []) = eb := ⟨_, rfl⟩
  clear b1 hf
  have HV0 : Hid (shapeOK 9 x c = (nb && decide (c.len = 0))) := by show _ = _; rw [← hnb]; unfold shapeOK textOK kidsOK; simp
  obtain ⟨A0, C0, e, _, _⟩ := HF.out.slice
  injection e with e1 e2 e3
  have hlen : c.len = n := e2.symm
  clear e1 e2 e3
  cases eb with
  | false =>
    have he : ¬ x.toList = [] := by simpa using heb
    have he2 : x.toList.isEmpty = false := by simpa using heb
    cases nb with
    | false =>
      have HV : Hid (shapeOK 9 x c = false) := by show _ = _; rw [HV0.out]; rfl
      clear heb HV0 hnb
      go_enter Tryz.func30, Tryz.ntmps30
      go_wp2_with fail
      refine HN.out.mono ?_
      rintro e w1 ⟨rfl, hb⟩
      obtain ⟨q0, q1, q3⟩ := HBX.out w1 hb
      have HB1 := Lib.hid (HB.out.trans (hb.mono HB.out.size))
      clear hb HN HBX
      go_wp2
      go_ret
      exact ⟨by rw [HV.out]; rfl, HB1.out⟩
    | true =>
      have HV : Hid (shapeOK 9 x c = ((n : Int) == 0)) := by
        show _ = _
        rw [HV0.out, hlen]
        by_cases hz : n = 0
        · subst hz; rfl
        · rw [decide_eq_false hz, kno (by omega)]; rfl
      clear heb HV0 hlen hnb
      go_enter Tryz.func30, Tryz.ntmps30
      go_wp2_with fail
      refine HN.out.mono ?_
      rintro e w1 ⟨rfl, hb⟩
      obtain ⟨q0, q1, q3⟩ := HBX.out w1 hb
      have HB1 := Lib.hid (HB.out.trans (hb.mono HB.out.size))
      clear hb HN HBX
      go_wp2
      go_ret
      exact ⟨by rw [HV.out]; rfl, HB1.out⟩
  | true =>
    have he : x.toList = [] := by simpa using heb
    cases nb with
    | false =>
      have HV : Hid (shapeOK 9 x c = false) := by show _ = _; rw [HV0.out]; rfl
      clear heb HV0 hnb
      go_enter Tryz.func30, Tryz.ntmps30
      go_wp2_with fail
      refine HN.out.mono ?_
      rintro e w1 ⟨rfl, hb⟩
      obtain ⟨q0, q1, q3⟩ := HBX.out w1 hb
      have HB1 := Lib.hid (HB.out.trans (hb.mono HB.out.size))
      clear hb HN HBX
      go_wp2
      go_ret
      exact ⟨by rw [HV.out]; rfl, HB1.out⟩
    | true =>
      have HV : Hid (shapeOK 9 x c = ((n : Int) == 0)) := by
        show _ = _
        rw [HV0.out, hlen]
        by_cases hz : n = 0
        · subst hz; rfl
        · rw [decide_eq_false hz, kno (by omega)]; rfl
      clear heb HV0 hlen hnb
      go_enter Tryz.func30, Tryz.ntmps30
      go_wp2_with fail
      refine HN.out.mono ?_
      rintro e w1 ⟨rfl, hb⟩
      obtain ⟨q0, q1, q3⟩ := HBX.out w1 hb
      have HB1 := Lib.hid (HB.out.trans (hb.mono HB.out.size))
      clear hb HN HBX
      go_wp2
      go_ret
      exact ⟨by rw [HV.out]; rfl, HB1.out⟩
set_option maxRecDepth 100000 in
set_option maxHeartbeats 8000000 in
theorem shape_4 (x y : ByteArray) (A : Option Addr) (n C : Nat) (c : F) (w : World) (hf : Fs w (Lo w.heap.size) (.slice A n C) c) (hx : x.size ≤ 100000) : Calls Tryz.prog 30 #[.agg #[.int .i64 4, .string x, .string y, .slice A n C]] w fun e w' => e = .returned (.bool (shapeOK 4 x c)) ∧ Below w.heap.size w w' := by
  have b1 := below1 w (.cells #[.int .i64 4, .string x, .string y, .slice A n C] 24)
  have HN := Lib.hid (refNm_any x (by omega) (w.alloc (.cells #[.int .i64 4, .string x, .string y, .slice A n C] 24)))
  have HB := Lib.hid b1
  have HF := Lib.hid hf
  have HBX : Hid (∀ W, Below (w.alloc (.cells #[.int .i64 4, .string x, .string y, .slice A n C] 24)).heap.size (w.alloc (.cells #[.int .i64 4, .string x, .string y, .slice A n C] 24)) W → W.cell? ⟨w.heap.size, 0, none⟩ = some (.int .i64 4) ∧ W.cell? ⟨w.heap.size, 1, none⟩ = some (.string x) ∧ W.cell? ⟨w.heap.size, 3, none⟩ = some (.slice A n C)) := fun W hW => by
    have cel : ∀ i v, #[Value.int .i64 4, .string x, .string y, .slice A n C][i]? = some v → W.cell? ⟨w.heap.size, i, none⟩ = some v := fun i v hv => by
      rw [hW.cell (p := ⟨w.heap.size, i, none⟩) (by simp), World.cell?_alloc_at _ _ _ _ rfl]
      simpa using hv
    exact ⟨cel 0 _ rfl, cel 1 _ rfl, cel 3 _ rfl⟩
  obtain ⟨nb, hnb⟩ : ∃ nb, nmB x = nb := ⟨_, rfl⟩
  rw [hnb] at HN
  obtain ⟨eb, heb⟩ : ∃ eb, (x.toList == []) = eb := ⟨_, rfl⟩
  clear b1 hf
  have HV0 : Hid (shapeOK 4 x c = (nb && rowOK [.one [isVal]] c)) := by show _ = _; rw [← hnb]; unfold shapeOK textOK kidsOK; simp
  cases eb with
  | false =>
    have he : ¬ x.toList = [] := by simpa using heb
    have he2 : x.toList.isEmpty = false := by simpa using heb
    cases nb with
    | false =>
      have HV : Hid (shapeOK 4 x c = false) := by show _ = _; rw [HV0.out]; rfl
      clear heb HV0 hnb
      go_enter Tryz.func30, Tryz.ntmps30
      go_wp2_with fail
      refine HN.out.mono ?_
      rintro e w1 ⟨rfl, hb⟩
      obtain ⟨q0, q1, q3⟩ := HBX.out w1 hb
      have HB1 := Lib.hid (HB.out.trans (hb.mono HB.out.size))
      clear hb HN HBX
      go_wp2
      go_ret
      exact ⟨by rw [HV.out]; rfl, HB1.out⟩
    | true =>
      have HV : Hid (shapeOK 4 x c = rowOK [.one [isVal]] c) := by show _ = _; rw [HV0.out]; rfl
      clear heb HV0 hnb
      go_enter Tryz.func30, Tryz.ntmps30
      go_wp2_with fail
      refine HN.out.mono ?_
      rintro e w1 ⟨rfl, hb⟩
      obtain ⟨q0, q1, q3⟩ := HBX.out w1 hb
      have HB1 := Lib.hid (HB.out.trans (hb.mono HB.out.size))
      clear hb HN HBX
      have HR := Lib.hid (rr_e A n C c w1 (HF.out.later HB1.out))
      go_wp2_with fail
      refine HR.out.mono ?_
      rintro e w2 ⟨rfl, hb⟩
      have HB2 := Lib.hid (HB1.out.trans (hb.mono HB1.out.size))
      clear hb
      go_wp2
      go_ret
      exact ⟨by rw [HV.out]; rfl, HB2.out⟩
  | true =>
    have he : x.toList = [] := by simpa using heb
    cases nb with
    | false =>
      have HV : Hid (shapeOK 4 x c = false) := by show _ = _; rw [HV0.out]; rfl
      clear heb HV0 hnb
      go_enter Tryz.func30, Tryz.ntmps30
      go_wp2_with fail
      refine HN.out.mono ?_
      rintro e w1 ⟨rfl, hb⟩
      obtain ⟨q0, q1, q3⟩ := HBX.out w1 hb
      have HB1 := Lib.hid (HB.out.trans (hb.mono HB.out.size))
      clear hb HN HBX
      go_wp2
      go_ret
      exact ⟨by rw [HV.out]; rfl, HB1.out⟩
    | true =>
      have HV : Hid (shapeOK 4 x c = rowOK [.one [isVal]] c) := by show _ = _; rw [HV0.out]; rfl
      clear heb HV0 hnb
      go_enter Tryz.func30, Tryz.ntmps30
      go_wp2_with fail
      refine HN.out.mono ?_
      rintro e w1 ⟨rfl, hb⟩
      obtain ⟨q0, q1, q3⟩ := HBX.out w1 hb
      have HB1 := Lib.hid (HB.out.trans (hb.mono HB.out.size))
      clear hb HN HBX
      have HR := Lib.hid (rr_e A n C c w1 (HF.out.later HB1.out))
      go_wp2_with fail
      refine HR.out.mono ?_
      rintro e w2 ⟨rfl, hb⟩
      have HB2 := Lib.hid (HB1.out.trans (hb.mono HB1.out.size))
      clear hb
      go_wp2
      go_ret
      exact ⟨by rw [HV.out]; rfl, HB2.out⟩
set_option maxRecDepth 100000 in
set_option maxHeartbeats 8000000 in
theorem shape_32 (x y : ByteArray) (A : Option Addr) (n C : Nat) (c : F) (w : World) (hf : Fs w (Lo w.heap.size) (.slice A n C) c) (hx : x.size ≤ 100000) : Calls Tryz.prog 30 #[.agg #[.int .i64 32, .string x, .string y, .slice A n C]] w fun e w' => e = .returned (.bool (shapeOK 32 x c)) ∧ Below w.heap.size w w' := by
  have b1 := below1 w (.cells #[.int .i64 32, .string x, .string y, .slice A n C] 24)
  have HN := Lib.hid (refNm_any x (by omega) (w.alloc (.cells #[.int .i64 32, .string x, .string y, .slice A n C] 24)))
  have HB := Lib.hid b1
  have HF := Lib.hid hf
  have HBX : Hid (∀ W, Below (w.alloc (.cells #[.int .i64 32, .string x, .string y, .slice A n C] 24)).heap.size (w.alloc (.cells #[.int .i64 32, .string x, .string y, .slice A n C] 24)) W → W.cell? ⟨w.heap.size, 0, none⟩ = some (.int .i64 32) ∧ W.cell? ⟨w.heap.size, 1, none⟩ = some (.string x) ∧ W.cell? ⟨w.heap.size, 3, none⟩ = some (.slice A n C)) := fun W hW => by
    have cel : ∀ i v, #[Value.int .i64 32, .string x, .string y, .slice A n C][i]? = some v → W.cell? ⟨w.heap.size, i, none⟩ = some v := fun i v hv => by
      rw [hW.cell (p := ⟨w.heap.size, i, none⟩) (by simp), World.cell?_alloc_at _ _ _ _ rfl]
      simpa using hv
    exact ⟨cel 0 _ rfl, cel 1 _ rfl, cel 3 _ rfl⟩
  obtain ⟨nb, hnb⟩ : ∃ nb, nmB x = nb := ⟨_, rfl⟩
  rw [hnb] at HN
  obtain ⟨eb, heb⟩ : ∃ eb, (x.toList == []) = eb := ⟨_, rfl⟩
  clear b1 hf
  have HV0 : Hid (shapeOK 32 x c = (nb && rowOK [.one [isVal]] c)) := by show _ = _; rw [← hnb]; unfold shapeOK textOK kidsOK; simp
  cases eb with
  | false =>
    have he : ¬ x.toList = [] := by simpa using heb
    have he2 : x.toList.isEmpty = false := by simpa using heb
    cases nb with
    | false =>
      have HV : Hid (shapeOK 32 x c = false) := by show _ = _; rw [HV0.out]; rfl
      clear heb HV0 hnb
      go_enter Tryz.func30, Tryz.ntmps30
      go_wp2_with fail
      refine HN.out.mono ?_
      rintro e w1 ⟨rfl, hb⟩
      obtain ⟨q0, q1, q3⟩ := HBX.out w1 hb
      have HB1 := Lib.hid (HB.out.trans (hb.mono HB.out.size))
      clear hb HN HBX
      go_wp2
      go_ret
      exact ⟨by rw [HV.out]; rfl, HB1.out⟩
    | true =>
      have HV : Hid (shapeOK 32 x c = rowOK [.one [isVal]] c) := by show _ = _; rw [HV0.out]; rfl
      clear heb HV0 hnb
      go_enter Tryz.func30, Tryz.ntmps30
      go_wp2_with fail
      refine HN.out.mono ?_
      rintro e w1 ⟨rfl, hb⟩
      obtain ⟨q0, q1, q3⟩ := HBX.out w1 hb
      have HB1 := Lib.hid (HB.out.trans (hb.mono HB.out.size))
      clear hb HN HBX
      have HR := Lib.hid (rr_e A n C c w1 (HF.out.later HB1.out))
      go_wp2_with fail
      refine HR.out.mono ?_
      rintro e w2 ⟨rfl, hb⟩
      have HB2 := Lib.hid (HB1.out.trans (hb.mono HB1.out.size))
      clear hb
      go_wp2
      go_ret
      exact ⟨by rw [HV.out]; rfl, HB2.out⟩
  | true =>
    have he : x.toList = [] := by simpa using heb
    cases nb with
    | false =>
      have HV : Hid (shapeOK 32 x c = false) := by show _ = _; rw [HV0.out]; rfl
      clear heb HV0 hnb
      go_enter Tryz.func30, Tryz.ntmps30
      go_wp2_with fail
      refine HN.out.mono ?_
      rintro e w1 ⟨rfl, hb⟩
      obtain ⟨q0, q1, q3⟩ := HBX.out w1 hb
      have HB1 := Lib.hid (HB.out.trans (hb.mono HB.out.size))
      clear hb HN HBX
      go_wp2
      go_ret
      exact ⟨by rw [HV.out]; rfl, HB1.out⟩
    | true =>
      have HV : Hid (shapeOK 32 x c = rowOK [.one [isVal]] c) := by show _ = _; rw [HV0.out]; rfl
      clear heb HV0 hnb
      go_enter Tryz.func30, Tryz.ntmps30
      go_wp2_with fail
      refine HN.out.mono ?_
      rintro e w1 ⟨rfl, hb⟩
      obtain ⟨q0, q1, q3⟩ := HBX.out w1 hb
      have HB1 := Lib.hid (HB.out.trans (hb.mono HB.out.size))
      clear hb HN HBX
      have HR := Lib.hid (rr_e A n C c w1 (HF.out.later HB1.out))
      go_wp2_with fail
      refine HR.out.mono ?_
      rintro e w2 ⟨rfl, hb⟩
      have HB2 := Lib.hid (HB1.out.trans (hb.mono HB1.out.size))
      clear hb
      go_wp2
      go_ret
      exact ⟨by rw [HV.out]; rfl, HB2.out⟩
set_option maxRecDepth 100000 in
set_option maxHeartbeats 8000000 in
theorem shape_6 (x y : ByteArray) (A : Option Addr) (n C : Nat) (c : F) (w : World) (hf : Fs w (Lo w.heap.size) (.slice A n C) c) (hx : x.size ≤ 100000) : Calls Tryz.prog 30 #[.agg #[.int .i64 6, .string x, .string y, .slice A n C]] w fun e w' => e = .returned (.bool (shapeOK 6 x c)) ∧ Below w.heap.size w w' := by
  have b1 := below1 w (.cells #[.int .i64 6, .string x, .string y, .slice A n C] 24)
  have HN := Lib.hid (refNm_any x (by omega) (w.alloc (.cells #[.int .i64 6, .string x, .string y, .slice A n C] 24)))
  have HB := Lib.hid b1
  have HF := Lib.hid hf
  have HBX : Hid (∀ W, Below (w.alloc (.cells #[.int .i64 6, .string x, .string y, .slice A n C] 24)).heap.size (w.alloc (.cells #[.int .i64 6, .string x, .string y, .slice A n C] 24)) W → W.cell? ⟨w.heap.size, 0, none⟩ = some (.int .i64 6) ∧ W.cell? ⟨w.heap.size, 1, none⟩ = some (.string x) ∧ W.cell? ⟨w.heap.size, 3, none⟩ = some (.slice A n C)) := fun W hW => by
    have cel : ∀ i v, #[Value.int .i64 6, .string x, .string y, .slice A n C][i]? = some v → W.cell? ⟨w.heap.size, i, none⟩ = some v := fun i v hv => by
      rw [hW.cell (p := ⟨w.heap.size, i, none⟩) (by simp), World.cell?_alloc_at _ _ _ _ rfl]
      simpa using hv
    exact ⟨cel 0 _ rfl, cel 1 _ rfl, cel 3 _ rfl⟩
  obtain ⟨nb, hnb⟩ : ∃ nb, nmB x = nb := ⟨_, rfl⟩
  rw [hnb] at HN
  obtain ⟨eb, heb⟩ : ∃ eb, (x.toList == []) = eb := ⟨_, rfl⟩
  clear b1 hf
  have HV0 : Hid (shapeOK 6 x c = (nb && rowOK [.one [isTyp]] c)) := by show _ = _; rw [← hnb]; unfold shapeOK textOK kidsOK; simp
  cases eb with
  | false =>
    have he : ¬ x.toList = [] := by simpa using heb
    have he2 : x.toList.isEmpty = false := by simpa using heb
    cases nb with
    | false =>
      have HV : Hid (shapeOK 6 x c = false) := by show _ = _; rw [HV0.out]; rfl
      clear heb HV0 hnb
      go_enter Tryz.func30, Tryz.ntmps30
      go_wp2_with fail
      refine HN.out.mono ?_
      rintro e w1 ⟨rfl, hb⟩
      obtain ⟨q0, q1, q3⟩ := HBX.out w1 hb
      have HB1 := Lib.hid (HB.out.trans (hb.mono HB.out.size))
      clear hb HN HBX
      go_wp2
      go_ret
      exact ⟨by rw [HV.out]; rfl, HB1.out⟩
    | true =>
      have HV : Hid (shapeOK 6 x c = rowOK [.one [isTyp]] c) := by show _ = _; rw [HV0.out]; rfl
      clear heb HV0 hnb
      go_enter Tryz.func30, Tryz.ntmps30
      go_wp2_with fail
      refine HN.out.mono ?_
      rintro e w1 ⟨rfl, hb⟩
      obtain ⟨q0, q1, q3⟩ := HBX.out w1 hb
      have HB1 := Lib.hid (HB.out.trans (hb.mono HB.out.size))
      clear hb HN HBX
      have HR := Lib.hid (rr_t A n C c w1 (HF.out.later HB1.out))
      go_wp2_with fail
      refine HR.out.mono ?_
      rintro e w2 ⟨rfl, hb⟩
      have HB2 := Lib.hid (HB1.out.trans (hb.mono HB1.out.size))
      clear hb
      go_wp2
      go_ret
      exact ⟨by rw [HV.out]; rfl, HB2.out⟩
  | true =>
    have he : x.toList = [] := by simpa using heb
    cases nb with
    | false =>
      have HV : Hid (shapeOK 6 x c = false) := by show _ = _; rw [HV0.out]; rfl
      clear heb HV0 hnb
      go_enter Tryz.func30, Tryz.ntmps30
      go_wp2_with fail
      refine HN.out.mono ?_
      rintro e w1 ⟨rfl, hb⟩
      obtain ⟨q0, q1, q3⟩ := HBX.out w1 hb
      have HB1 := Lib.hid (HB.out.trans (hb.mono HB.out.size))
      clear hb HN HBX
      go_wp2
      go_ret
      exact ⟨by rw [HV.out]; rfl, HB1.out⟩
    | true =>
      have HV : Hid (shapeOK 6 x c = rowOK [.one [isTyp]] c) := by show _ = _; rw [HV0.out]; rfl
      clear heb HV0 hnb
      go_enter Tryz.func30, Tryz.ntmps30
      go_wp2_with fail
      refine HN.out.mono ?_
      rintro e w1 ⟨rfl, hb⟩
      obtain ⟨q0, q1, q3⟩ := HBX.out w1 hb
      have HB1 := Lib.hid (HB.out.trans (hb.mono HB.out.size))
      clear hb HN HBX
      have HR := Lib.hid (rr_t A n C c w1 (HF.out.later HB1.out))
      go_wp2_with fail
      refine HR.out.mono ?_
      rintro e w2 ⟨rfl, hb⟩
      have HB2 := Lib.hid (HB1.out.trans (hb.mono HB1.out.size))
      clear hb
      go_wp2
      go_ret
      exact ⟨by rw [HV.out]; rfl, HB2.out⟩
set_option maxRecDepth 100000 in
set_option maxHeartbeats 8000000 in
theorem shape_14 (x y : ByteArray) (A : Option Addr) (n C : Nat) (c : F) (w : World) (hf : Fs w (Lo w.heap.size) (.slice A n C) c) (hx : x.size ≤ 100000) : Calls Tryz.prog 30 #[.agg #[.int .i64 14, .string x, .string y, .slice A n C]] w fun e w' => e = .returned (.bool (shapeOK 14 x c)) ∧ Below w.heap.size w w' := by
  have b1 := below1 w (.cells #[.int .i64 14, .string x, .string y, .slice A n C] 24)
  have HN := Lib.hid (refNm_any x (by omega) (w.alloc (.cells #[.int .i64 14, .string x, .string y, .slice A n C] 24)))
  have HB := Lib.hid b1
  have HF := Lib.hid hf
  have HBX : Hid (∀ W, Below (w.alloc (.cells #[.int .i64 14, .string x, .string y, .slice A n C] 24)).heap.size (w.alloc (.cells #[.int .i64 14, .string x, .string y, .slice A n C] 24)) W → W.cell? ⟨w.heap.size, 0, none⟩ = some (.int .i64 14) ∧ W.cell? ⟨w.heap.size, 1, none⟩ = some (.string x) ∧ W.cell? ⟨w.heap.size, 3, none⟩ = some (.slice A n C)) := fun W hW => by
    have cel : ∀ i v, #[Value.int .i64 14, .string x, .string y, .slice A n C][i]? = some v → W.cell? ⟨w.heap.size, i, none⟩ = some v := fun i v hv => by
      rw [hW.cell (p := ⟨w.heap.size, i, none⟩) (by simp), World.cell?_alloc_at _ _ _ _ rfl]
      simpa using hv
    exact ⟨cel 0 _ rfl, cel 1 _ rfl, cel 3 _ rfl⟩
  obtain ⟨nb, hnb⟩ : ∃ nb, nmB x = nb := ⟨_, rfl⟩
  rw [hnb] at HN
  obtain ⟨eb, heb⟩ : ∃ eb, (x.toList == []) = eb := ⟨_, rfl⟩
  clear b1 hf
  have HV0 : Hid (shapeOK 14 x c = (nb && rowOK [.one [isTyp]] c)) := by show _ = _; rw [← hnb]; unfold shapeOK textOK kidsOK; simp
  cases eb with
  | false =>
    have he : ¬ x.toList = [] := by simpa using heb
    have he2 : x.toList.isEmpty = false := by simpa using heb
    cases nb with
    | false =>
      have HV : Hid (shapeOK 14 x c = false) := by show _ = _; rw [HV0.out]; rfl
      clear heb HV0 hnb
      go_enter Tryz.func30, Tryz.ntmps30
      go_wp2_with fail
      refine HN.out.mono ?_
      rintro e w1 ⟨rfl, hb⟩
      obtain ⟨q0, q1, q3⟩ := HBX.out w1 hb
      have HB1 := Lib.hid (HB.out.trans (hb.mono HB.out.size))
      clear hb HN HBX
      go_wp2
      go_ret
      exact ⟨by rw [HV.out]; rfl, HB1.out⟩
    | true =>
      have HV : Hid (shapeOK 14 x c = rowOK [.one [isTyp]] c) := by show _ = _; rw [HV0.out]; rfl
      clear heb HV0 hnb
      go_enter Tryz.func30, Tryz.ntmps30
      go_wp2_with fail
      refine HN.out.mono ?_
      rintro e w1 ⟨rfl, hb⟩
      obtain ⟨q0, q1, q3⟩ := HBX.out w1 hb
      have HB1 := Lib.hid (HB.out.trans (hb.mono HB.out.size))
      clear hb HN HBX
      have HR := Lib.hid (rr_t A n C c w1 (HF.out.later HB1.out))
      go_wp2_with fail
      refine HR.out.mono ?_
      rintro e w2 ⟨rfl, hb⟩
      have HB2 := Lib.hid (HB1.out.trans (hb.mono HB1.out.size))
      clear hb
      go_wp2
      go_ret
      exact ⟨by rw [HV.out]; rfl, HB2.out⟩
  | true =>
    have he : x.toList = [] := by simpa using heb
    cases nb with
    | false =>
      have HV : Hid (shapeOK 14 x c = false) := by show _ = _; rw [HV0.out]; rfl
      clear heb HV0 hnb
      go_enter Tryz.func30, Tryz.ntmps30
      go_wp2_with fail
      refine HN.out.mono ?_
      rintro e w1 ⟨rfl, hb⟩
      obtain ⟨q0, q1, q3⟩ := HBX.out w1 hb
      have HB1 := Lib.hid (HB.out.trans (hb.mono HB.out.size))
      clear hb HN HBX
      go_wp2
      go_ret
      exact ⟨by rw [HV.out]; rfl, HB1.out⟩
    | true =>
      have HV : Hid (shapeOK 14 x c = rowOK [.one [isTyp]] c) := by show _ = _; rw [HV0.out]; rfl
      clear heb HV0 hnb
      go_enter Tryz.func30, Tryz.ntmps30
      go_wp2_with fail
      refine HN.out.mono ?_
      rintro e w1 ⟨rfl, hb⟩
      obtain ⟨q0, q1, q3⟩ := HBX.out w1 hb
      have HB1 := Lib.hid (HB.out.trans (hb.mono HB.out.size))
      clear hb HN HBX
      have HR := Lib.hid (rr_t A n C c w1 (HF.out.later HB1.out))
      go_wp2_with fail
      refine HR.out.mono ?_
      rintro e w2 ⟨rfl, hb⟩
      have HB2 := Lib.hid (HB1.out.trans (hb.mono HB1.out.size))
      clear hb
      go_wp2
      go_ret
      exact ⟨by rw [HV.out]; rfl, HB2.out⟩
set_option maxRecDepth 100000 in
set_option maxHeartbeats 8000000 in
theorem shape_16 (x y : ByteArray) (A : Option Addr) (n C : Nat) (c : F) (w : World) (hf : Fs w (Lo w.heap.size) (.slice A n C) c) (hx : x.size ≤ 100000) : Calls Tryz.prog 30 #[.agg #[.int .i64 16, .string x, .string y, .slice A n C]] w fun e w' => e = .returned (.bool (shapeOK 16 x c)) ∧ Below w.heap.size w w' := by
  have b1 := below1 w (.cells #[.int .i64 16, .string x, .string y, .slice A n C] 24)
  have HN := Lib.hid (refNm_any x (by omega) (w.alloc (.cells #[.int .i64 16, .string x, .string y, .slice A n C] 24)))
  have HB := Lib.hid b1
  have HF := Lib.hid hf
  have HBX : Hid (∀ W, Below (w.alloc (.cells #[.int .i64 16, .string x, .string y, .slice A n C] 24)).heap.size (w.alloc (.cells #[.int .i64 16, .string x, .string y, .slice A n C] 24)) W → W.cell? ⟨w.heap.size, 0, none⟩ = some (.int .i64 16) ∧ W.cell? ⟨w.heap.size, 1, none⟩ = some (.string x) ∧ W.cell? ⟨w.heap.size, 3, none⟩ = some (.slice A n C)) := fun W hW => by
    have cel : ∀ i v, #[Value.int .i64 16, .string x, .string y, .slice A n C][i]? = some v → W.cell? ⟨w.heap.size, i, none⟩ = some v := fun i v hv => by
      rw [hW.cell (p := ⟨w.heap.size, i, none⟩) (by simp), World.cell?_alloc_at _ _ _ _ rfl]
      simpa using hv
    exact ⟨cel 0 _ rfl, cel 1 _ rfl, cel 3 _ rfl⟩
  obtain ⟨nb, hnb⟩ : ∃ nb, nmB x = nb := ⟨_, rfl⟩
  rw [hnb] at HN
  obtain ⟨eb, heb⟩ : ∃ eb, (x.toList == []) = eb := ⟨_, rfl⟩
  clear b1 hf
  have HV0 : Hid (shapeOK 16 x c = (nb && rowOK [.one [isTyp]] c)) := by show _ = _; rw [← hnb]; unfold shapeOK textOK kidsOK; simp
  cases eb with
  | false =>
    have he : ¬ x.toList = [] := by simpa using heb
    have he2 : x.toList.isEmpty = false := by simpa using heb
    cases nb with
    | false =>
      have HV : Hid (shapeOK 16 x c = false) := by show _ = _; rw [HV0.out]; rfl
      clear heb HV0 hnb
      go_enter Tryz.func30, Tryz.ntmps30
      go_wp2_with fail
      refine HN.out.mono ?_
      rintro e w1 ⟨rfl, hb⟩
      obtain ⟨q0, q1, q3⟩ := HBX.out w1 hb
      have HB1 := Lib.hid (HB.out.trans (hb.mono HB.out.size))
      clear hb HN HBX
      go_wp2
      go_ret
      exact ⟨by rw [HV.out]; rfl, HB1.out⟩
    | true =>
      have HV : Hid (shapeOK 16 x c = rowOK [.one [isTyp]] c) := by show _ = _; rw [HV0.out]; rfl
      clear heb HV0 hnb
      go_enter Tryz.func30, Tryz.ntmps30
      go_wp2_with fail
      refine HN.out.mono ?_
      rintro e w1 ⟨rfl, hb⟩
      obtain ⟨q0, q1, q3⟩ := HBX.out w1 hb
      have HB1 := Lib.hid (HB.out.trans (hb.mono HB.out.size))
      clear hb HN HBX
      have HR := Lib.hid (rr_t A n C c w1 (HF.out.later HB1.out))
      go_wp2_with fail
      refine HR.out.mono ?_
      rintro e w2 ⟨rfl, hb⟩
      have HB2 := Lib.hid (HB1.out.trans (hb.mono HB1.out.size))
      clear hb
      go_wp2
      go_ret
      exact ⟨by rw [HV.out]; rfl, HB2.out⟩
  | true =>
    have he : x.toList = [] := by simpa using heb
    cases nb with
    | false =>
      have HV : Hid (shapeOK 16 x c = false) := by show _ = _; rw [HV0.out]; rfl
      clear heb HV0 hnb
      go_enter Tryz.func30, Tryz.ntmps30
      go_wp2_with fail
      refine HN.out.mono ?_
      rintro e w1 ⟨rfl, hb⟩
      obtain ⟨q0, q1, q3⟩ := HBX.out w1 hb
      have HB1 := Lib.hid (HB.out.trans (hb.mono HB.out.size))
      clear hb HN HBX
      go_wp2
      go_ret
      exact ⟨by rw [HV.out]; rfl, HB1.out⟩
    | true =>
      have HV : Hid (shapeOK 16 x c = rowOK [.one [isTyp]] c) := by show _ = _; rw [HV0.out]; rfl
      clear heb HV0 hnb
      go_enter Tryz.func30, Tryz.ntmps30
      go_wp2_with fail
      refine HN.out.mono ?_
      rintro e w1 ⟨rfl, hb⟩
      obtain ⟨q0, q1, q3⟩ := HBX.out w1 hb
      have HB1 := Lib.hid (HB.out.trans (hb.mono HB.out.size))
      clear hb HN HBX
      have HR := Lib.hid (rr_t A n C c w1 (HF.out.later HB1.out))
      go_wp2_with fail
      refine HR.out.mono ?_
      rintro e w2 ⟨rfl, hb⟩
      have HB2 := Lib.hid (HB1.out.trans (hb.mono HB1.out.size))
      clear hb
      go_wp2
      go_ret
      exact ⟨by rw [HV.out]; rfl, HB2.out⟩
set_option maxRecDepth 100000 in
set_option maxHeartbeats 8000000 in
theorem shape_7 (x y : ByteArray) (A : Option Addr) (n C : Nat) (c : F) (w : World) (hf : Fs w (Lo w.heap.size) (.slice A n C) c) (hx : x.size ≤ 100000) : Calls Tryz.prog 30 #[.agg #[.int .i64 7, .string x, .string y, .slice A n C]] w fun e w' => e = .returned (.bool (shapeOK 7 x c)) ∧ Below w.heap.size w w' := by
  have b1 := below1 w (.cells #[.int .i64 7, .string x, .string y, .slice A n C] 24)
  have HN := Lib.hid (refNm_any x (by omega) (w.alloc (.cells #[.int .i64 7, .string x, .string y, .slice A n C] 24)))
  have HB := Lib.hid b1
  have HF := Lib.hid hf
  have HBX : Hid (∀ W, Below (w.alloc (.cells #[.int .i64 7, .string x, .string y, .slice A n C] 24)).heap.size (w.alloc (.cells #[.int .i64 7, .string x, .string y, .slice A n C] 24)) W → W.cell? ⟨w.heap.size, 0, none⟩ = some (.int .i64 7) ∧ W.cell? ⟨w.heap.size, 1, none⟩ = some (.string x) ∧ W.cell? ⟨w.heap.size, 3, none⟩ = some (.slice A n C)) := fun W hW => by
    have cel : ∀ i v, #[Value.int .i64 7, .string x, .string y, .slice A n C][i]? = some v → W.cell? ⟨w.heap.size, i, none⟩ = some v := fun i v hv => by
      rw [hW.cell (p := ⟨w.heap.size, i, none⟩) (by simp), World.cell?_alloc_at _ _ _ _ rfl]
      simpa using hv
    exact ⟨cel 0 _ rfl, cel 1 _ rfl, cel 3 _ rfl⟩
  obtain ⟨nb, hnb⟩ : ∃ nb, nmB x = nb := ⟨_, rfl⟩
  rw [hnb] at HN
  obtain ⟨eb, heb⟩ : ∃ eb, (x.toList == []) = eb := ⟨_, rfl⟩
  clear b1 hf
  have HV0 : Hid (shapeOK 7 x c = (nb && rowOK [.one [isOf [16], isOf [33]], .one [isOf [15]], .one [isTyp, isOf [33]], .one [isOf [17]]] c)) := by show _ = _; rw [← hnb]; unfold shapeOK textOK kidsOK; simp
  cases eb with
  | false =>
    have he : ¬ x.toList = [] := by simpa using heb
    have he2 : x.toList.isEmpty = false := by simpa using heb
    cases nb with
    | false =>
      have HV : Hid (shapeOK 7 x c = false) := by show _ = _; rw [HV0.out]; rfl
      clear heb HV0 hnb
      go_enter Tryz.func30, Tryz.ntmps30
      go_wp2_with fail
      refine HN.out.mono ?_
      rintro e w1 ⟨rfl, hb⟩
      obtain ⟨q0, q1, q3⟩ := HBX.out w1 hb
      have HB1 := Lib.hid (HB.out.trans (hb.mono HB.out.size))
      clear hb HN HBX
      go_wp2
      go_ret
      exact ⟨by rw [HV.out]; rfl, HB1.out⟩
    | true =>
      have HV : Hid (shapeOK 7 x c = rowOK [.one [isOf [16], isOf [33]], .one [isOf [15]], .one [isTyp, isOf [33]], .one [isOf [17]]] c) := by show _ = _; rw [HV0.out]; rfl
      clear heb HV0 hnb
      go_enter Tryz.func30, Tryz.ntmps30
      go_wp2_with fail
      refine HN.out.mono ?_
      rintro e w1 ⟨rfl, hb⟩
      obtain ⟨q0, q1, q3⟩ := HBX.out w1 hb
      have HB1 := Lib.hid (HB.out.trans (hb.mono HB.out.size))
      clear hb HN HBX
      have HR := Lib.hid (rr_RATB A n C c w1 (HF.out.later HB1.out))
      go_wp2_with fail
      refine HR.out.mono ?_
      rintro e w2 ⟨rfl, hb⟩
      have HB2 := Lib.hid (HB1.out.trans (hb.mono HB1.out.size))
      clear hb
      go_wp2
      go_ret
      exact ⟨by rw [HV.out]; rfl, HB2.out⟩
  | true =>
    have he : x.toList = [] := by simpa using heb
    cases nb with
    | false =>
      have HV : Hid (shapeOK 7 x c = false) := by show _ = _; rw [HV0.out]; rfl
      clear heb HV0 hnb
      go_enter Tryz.func30, Tryz.ntmps30
      go_wp2_with fail
      refine HN.out.mono ?_
      rintro e w1 ⟨rfl, hb⟩
      obtain ⟨q0, q1, q3⟩ := HBX.out w1 hb
      have HB1 := Lib.hid (HB.out.trans (hb.mono HB.out.size))
      clear hb HN HBX
      go_wp2
      go_ret
      exact ⟨by rw [HV.out]; rfl, HB1.out⟩
    | true =>
      have HV : Hid (shapeOK 7 x c = rowOK [.one [isOf [16], isOf [33]], .one [isOf [15]], .one [isTyp, isOf [33]], .one [isOf [17]]] c) := by show _ = _; rw [HV0.out]; rfl
      clear heb HV0 hnb
      go_enter Tryz.func30, Tryz.ntmps30
      go_wp2_with fail
      refine HN.out.mono ?_
      rintro e w1 ⟨rfl, hb⟩
      obtain ⟨q0, q1, q3⟩ := HBX.out w1 hb
      have HB1 := Lib.hid (HB.out.trans (hb.mono HB.out.size))
      clear hb HN HBX
      have HR := Lib.hid (rr_RATB A n C c w1 (HF.out.later HB1.out))
      go_wp2_with fail
      refine HR.out.mono ?_
      rintro e w2 ⟨rfl, hb⟩
      have HB2 := Lib.hid (HB1.out.trans (hb.mono HB1.out.size))
      clear hb
      go_wp2
      go_ret
      exact ⟨by rw [HV.out]; rfl, HB2.out⟩
end Go.Proofs.YtoecimgmghlfpaaGreatDoor.Tree
