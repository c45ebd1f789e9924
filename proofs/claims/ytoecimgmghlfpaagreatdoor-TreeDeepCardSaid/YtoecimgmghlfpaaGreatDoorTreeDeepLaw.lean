/-
  Layer 5 (tree): the walk of TreeDeep: chains of operators, of blocks, of ifs. Written by gen_treedeeplaw.py.
-/
import Derived.Test.YtoecimgmghlfpaaGreatDoorTreeBox
import Derived.Test.YtoecimgmghlfpaaGreatDoorTreeRightLaw
import Derived.Test.YtoecimgmghlfpaaGreatDoorMemRel2
namespace Go.Proofs.YtoecimgmghlfpaaGreatDoor.Tree
open Go.ChangeShapes Go.WideShapes Go.ChangeAt Go.RowKit Mem
set_option linter.unusedVariables false

theorem sz0 : (⟨#[]⟩ : ByteArray).size ≤ 100000 := by decide
theorem sz97 : (⟨#[97]⟩ : ByteArray).size ≤ 100000 := by decide
theorem fs_newL (w : World) (ps : List (Nd × Value)) (cs : Array Value) (hcs : cs = (ps.flatMap ndC).toArray) (n : Nat) (hn : ps.length = n) (hn2 : n ≤ 1000000) (hf : ∀ p ∈ ps, Fs w (Lo w.heap.size) p.2 p.1.c) :
    Fs (w.alloc (.cells cs 24)) (Lo (w.alloc (.cells cs 24)).heap.size) (.slice (some ⟨w.heap.size, 0, none⟩) n n) (ofL (ps.map (·.1))) :=
  (fs_new w [] (by simp) ps cs hcs n hn hn2 (fun p hp => (hf p hp).more fun b hb => ⟨hb, by simp⟩)).more fun b hb => hb.1

def dw1 (wr : World) (k5 : Int) (x5 : ByteArray) (A5 : Option Addr) (n5 C5 : Nat) : World := wr.alloc (.cells #[.int .i64 k5, .string x5, .string ⟨#[]⟩, .slice A5 n5 C5] 24)
def dw2 (wr : World) (k5 k6 k7 : Int) (x5 x6 x7 : ByteArray) (A5 A6 A7 : Option Addr) (n5 C5 n6 C6 n7 C7 : Nat) : World := (dw1 wr k5 x5 A5 n5 C5).alloc (.cells #[.int .i64 k6, .string x6, .string ⟨#[]⟩, .slice A6 n6 C6, .int .i64 k7, .string x7, .string ⟨#[]⟩, .slice A7 n7 C7, .int .i64 20, .string ⟨#[]⟩, .string ⟨#[]⟩, .slice (some ⟨wr.heap.size, 0, none⟩) 1 1] 24)
def dw3 (wr : World) (k5 k6 k7 : Int) (x5 x6 x7 : ByteArray) (A5 A6 A7 : Option Addr) (n5 C5 n6 C6 n7 C7 : Nat) : World := (dw2 wr k5 k6 k7 x5 x6 x7 A5 A6 A7 n5 C5 n6 C6 n7 C7).alloc (.cells #[.int .i64 17, .string ⟨#[]⟩, .string ⟨#[]⟩, .slice (some ⟨wr.heap.size + 1, 0, none⟩) 3 3] 24)
def dw4 (wr : World) (k5 k6 k7 : Int) (x5 x6 x7 : ByteArray) (A5 A6 A7 : Option Addr) (n5 C5 n6 C6 n7 C7 : Nat) : World := (dw3 wr k5 k6 k7 x5 x6 x7 A5 A6 A7 n5 C5 n6 C6 n7 C7).alloc (.cells #[.int .i64 33, .string ⟨#[]⟩, .string ⟨#[]⟩, .slice none 0 0, .int .i64 15, .string ⟨#[]⟩, .string ⟨#[]⟩, .slice none 0 0, .int .i64 33, .string ⟨#[]⟩, .string ⟨#[]⟩, .slice none 0 0, .int .i64 17, .string ⟨#[]⟩, .string ⟨#[]⟩, .slice (some ⟨wr.heap.size + 1, 0, none⟩) 3 3] 24)
def dw5 (wr : World) (k5 k6 k7 : Int) (x5 x6 x7 : ByteArray) (A5 A6 A7 : Option Addr) (n5 C5 n6 C6 n7 C7 : Nat) : World := (dw4 wr k5 k6 k7 x5 x6 x7 A5 A6 A7 n5 C5 n6 C6 n7 C7).alloc (.cells #[.int .i64 7, .string ⟨#[102]⟩, .string ⟨#[]⟩, .slice (some ⟨wr.heap.size + 1 + 1 + 1, 0, none⟩) 4 4] 24)
section
variable (wr : World) (k5 k6 k7 : Int) (x5 x6 x7 : ByteArray) (A5 A6 A7 : Option Addr) (n5 C5 n6 C6 n7 C7 : Nat)
theorem deep_below : Below wr.heap.size wr (dw5 wr k5 k6 k7 x5 x6 x7 A5 A6 A7 n5 C5 n6 C6 n7 C7) := by
  have h1 := below1 wr (.cells #[.int .i64 k5, .string x5, .string ⟨#[]⟩, .slice A5 n5 C5] 24)
  unfold dw5 dw4 dw3 dw2 dw1
  have h2 := h1.trans ((below1 _ (.cells #[.int .i64 k6, .string x6, .string ⟨#[]⟩, .slice A6 n6 C6, .int .i64 k7, .string x7, .string ⟨#[]⟩, .slice A7 n7 C7, .int .i64 20, .string ⟨#[]⟩, .string ⟨#[]⟩, .slice (some ⟨wr.heap.size, 0, none⟩) 1 1] 24)).mono h1.size)
  have h3 := h2.trans ((below1 _ (.cells #[.int .i64 17, .string ⟨#[]⟩, .string ⟨#[]⟩, .slice (some ⟨wr.heap.size + 1, 0, none⟩) 3 3] 24)).mono h2.size)
  have h4 := h3.trans ((below1 _ (.cells #[.int .i64 33, .string ⟨#[]⟩, .string ⟨#[]⟩, .slice none 0 0, .int .i64 15, .string ⟨#[]⟩, .string ⟨#[]⟩, .slice none 0 0, .int .i64 33, .string ⟨#[]⟩, .string ⟨#[]⟩, .slice none 0 0, .int .i64 17, .string ⟨#[]⟩, .string ⟨#[]⟩, .slice (some ⟨wr.heap.size + 1, 0, none⟩) 3 3] 24)).mono h3.size)
  exact h4.trans ((below1 _ _).mono h4.size)
theorem deep_fs (c5 c6 c7 : F) (f5 : Fs wr (Lo wr.heap.size) (.slice A5 n5 C5) c5) (f6 : Fs wr (Lo wr.heap.size) (.slice A6 n6 C6) c6) (f7 : Fs wr (Lo wr.heap.size) (.slice A7 n7 C7) c7) :
    Fs (dw5 wr k5 k6 k7 x5 x6 x7 A5 A6 A7 n5 C5 n6 C6 n7 C7) (Lo (dw5 wr k5 k6 k7 x5 x6 x7 A5 A6 A7 n5 C5 n6 C6 n7 C7).heap.size) (.slice (some ⟨wr.heap.size + 1 + 1 + 1 + 1, 0, none⟩) 1 1) (.cons 7 ⟨#[102]⟩ ⟨#[]⟩ (.cons 33 ⟨#[]⟩ ⟨#[]⟩ .nil (.cons 15 ⟨#[]⟩ ⟨#[]⟩ .nil (.cons 33 ⟨#[]⟩ ⟨#[]⟩ .nil (.cons 17 ⟨#[]⟩ ⟨#[]⟩ (.cons k6 x6 ⟨#[]⟩ c6 (.cons k7 x7 ⟨#[]⟩ c7 (.cons 20 ⟨#[]⟩ ⟨#[]⟩ (.cons k5 x5 ⟨#[]⟩ c5 .nil) .nil))) .nil)))) .nil) := by
  have e1 : (dw1 wr k5 x5 A5 n5 C5).heap.size = wr.heap.size + 1 := by simp [dw1]
  have e2 : (dw2 wr k5 k6 k7 x5 x6 x7 A5 A6 A7 n5 C5 n6 C6 n7 C7).heap.size = wr.heap.size + 1 + 1 := by simp [dw2, e1]
  have e3 : (dw3 wr k5 k6 k7 x5 x6 x7 A5 A6 A7 n5 C5 n6 C6 n7 C7).heap.size = wr.heap.size + 1 + 1 + 1 := by simp [dw3, e2]
  have e4 : (dw4 wr k5 k6 k7 x5 x6 x7 A5 A6 A7 n5 C5 n6 C6 n7 C7).heap.size = wr.heap.size + 1 + 1 + 1 + 1 := by simp [dw4, e3]
  have v1 : Fs (dw1 wr k5 x5 A5 n5 C5) (Lo (dw1 wr k5 x5 A5 n5 C5).heap.size) (.slice (some ⟨wr.heap.size, 0, none⟩) 1 1) (.cons k5 x5 ⟨#[]⟩ c5 .nil) := fs_newL wr [(⟨k5, x5, ⟨#[]⟩, c5⟩, .slice A5 n5 C5)] _ rfl 1 rfl (by omega) (fun p hp => by
    simp only [List.mem_cons, List.not_mem_nil, or_false] at hp
    subst hp; exact f5)
  have b1 : Below wr.heap.size wr (dw1 wr k5 x5 A5 n5 C5) := below1 _ _
  have v2 : Fs (dw2 wr k5 k6 k7 x5 x6 x7 A5 A6 A7 n5 C5 n6 C6 n7 C7) (Lo (dw2 wr k5 k6 k7 x5 x6 x7 A5 A6 A7 n5 C5 n6 C6 n7 C7).heap.size) (.slice (some ⟨(dw1 wr k5 x5 A5 n5 C5).heap.size, 0, none⟩) 3 3) (.cons k6 x6 ⟨#[]⟩ c6 (.cons k7 x7 ⟨#[]⟩ c7 (.cons 20 ⟨#[]⟩ ⟨#[]⟩ (.cons k5 x5 ⟨#[]⟩ c5 .nil) .nil))) := fs_newL (dw1 wr k5 x5 A5 n5 C5) [(⟨k6, x6, ⟨#[]⟩, c6⟩, .slice A6 n6 C6), (⟨k7, x7, ⟨#[]⟩, c7⟩, .slice A7 n7 C7), (⟨20, ⟨#[]⟩, ⟨#[]⟩, .cons k5 x5 ⟨#[]⟩ c5 .nil⟩, .slice (some ⟨wr.heap.size, 0, none⟩) 1 1)] _ rfl 3 rfl (by omega) (fun p hp => by
    simp only [List.mem_cons, List.not_mem_nil, or_false] at hp
    rcases hp with rfl | rfl | rfl
    · exact f6.later b1
    · exact f7.later b1
    · exact v1)
  rw [e1] at v2
  have b3 : Below (dw2 wr k5 k6 k7 x5 x6 x7 A5 A6 A7 n5 C5 n6 C6 n7 C7).heap.size (dw2 wr k5 k6 k7 x5 x6 x7 A5 A6 A7 n5 C5 n6 C6 n7 C7) (dw3 wr k5 k6 k7 x5 x6 x7 A5 A6 A7 n5 C5 n6 C6 n7 C7) := below1 _ _
  have v4 : Fs (dw4 wr k5 k6 k7 x5 x6 x7 A5 A6 A7 n5 C5 n6 C6 n7 C7) (Lo (dw4 wr k5 k6 k7 x5 x6 x7 A5 A6 A7 n5 C5 n6 C6 n7 C7).heap.size) (.slice (some ⟨(dw3 wr k5 k6 k7 x5 x6 x7 A5 A6 A7 n5 C5 n6 C6 n7 C7).heap.size, 0, none⟩) 4 4) (.cons 33 ⟨#[]⟩ ⟨#[]⟩ .nil (.cons 15 ⟨#[]⟩ ⟨#[]⟩ .nil (.cons 33 ⟨#[]⟩ ⟨#[]⟩ .nil (.cons 17 ⟨#[]⟩ ⟨#[]⟩ (.cons k6 x6 ⟨#[]⟩ c6 (.cons k7 x7 ⟨#[]⟩ c7 (.cons 20 ⟨#[]⟩ ⟨#[]⟩ (.cons k5 x5 ⟨#[]⟩ c5 .nil) .nil))) .nil)))) := fs_newL (dw3 wr k5 k6 k7 x5 x6 x7 A5 A6 A7 n5 C5 n6 C6 n7 C7) [(⟨33, ⟨#[]⟩, ⟨#[]⟩, .nil⟩, .slice none 0 0), (⟨15, ⟨#[]⟩, ⟨#[]⟩, .nil⟩, .slice none 0 0), (⟨33, ⟨#[]⟩, ⟨#[]⟩, .nil⟩, .slice none 0 0), (⟨17, ⟨#[]⟩, ⟨#[]⟩, (.cons k6 x6 ⟨#[]⟩ c6 (.cons k7 x7 ⟨#[]⟩ c7 (.cons 20 ⟨#[]⟩ ⟨#[]⟩ (.cons k5 x5 ⟨#[]⟩ c5 .nil) .nil)))⟩, .slice (some ⟨wr.heap.size + 1, 0, none⟩) 3 3)] _ rfl 4 rfl (by omega) (fun p hp => by
    simp only [List.mem_cons, List.not_mem_nil, or_false] at hp
    rcases hp with rfl | rfl | rfl | rfl
    · exact fs_empty _ _
    · exact fs_empty _ _
    · exact fs_empty _ _
    · exact v2.later b3)
  rw [e3] at v4
  have v5 : Fs (dw5 wr k5 k6 k7 x5 x6 x7 A5 A6 A7 n5 C5 n6 C6 n7 C7) (Lo (dw5 wr k5 k6 k7 x5 x6 x7 A5 A6 A7 n5 C5 n6 C6 n7 C7).heap.size) (.slice (some ⟨(dw4 wr k5 k6 k7 x5 x6 x7 A5 A6 A7 n5 C5 n6 C6 n7 C7).heap.size, 0, none⟩) 1 1) (.cons 7 ⟨#[102]⟩ ⟨#[]⟩ (.cons 33 ⟨#[]⟩ ⟨#[]⟩ .nil (.cons 15 ⟨#[]⟩ ⟨#[]⟩ .nil (.cons 33 ⟨#[]⟩ ⟨#[]⟩ .nil (.cons 17 ⟨#[]⟩ ⟨#[]⟩ (.cons k6 x6 ⟨#[]⟩ c6 (.cons k7 x7 ⟨#[]⟩ c7 (.cons 20 ⟨#[]⟩ ⟨#[]⟩ (.cons k5 x5 ⟨#[]⟩ c5 .nil) .nil))) .nil)))) .nil) := fs_newL (dw4 wr k5 k6 k7 x5 x6 x7 A5 A6 A7 n5 C5 n6 C6 n7 C7) [(⟨7, ⟨#[102]⟩, ⟨#[]⟩, (.cons 33 ⟨#[]⟩ ⟨#[]⟩ .nil (.cons 15 ⟨#[]⟩ ⟨#[]⟩ .nil (.cons 33 ⟨#[]⟩ ⟨#[]⟩ .nil (.cons 17 ⟨#[]⟩ ⟨#[]⟩ (.cons k6 x6 ⟨#[]⟩ c6 (.cons k7 x7 ⟨#[]⟩ c7 (.cons 20 ⟨#[]⟩ ⟨#[]⟩ (.cons k5 x5 ⟨#[]⟩ c5 .nil) .nil))) .nil))))⟩, .slice (some ⟨wr.heap.size + 1 + 1 + 1, 0, none⟩) 4 4)] _ rfl 1 rfl (by omega) (fun p hp => by
    simp only [List.mem_cons, List.not_mem_nil, or_false] at hp
    subst hp; exact v4)
  rwa [e4] at v5
end

set_option maxRecDepth 100000 in
set_option maxHeartbeats 16000000 in
theorem treeDeep_walk (n0 how : Int) (w : World) (hT : Lex.Tab w) :
    Calls Tryz.prog 5 #[.int .i64 n0, .int .i64 how] w fun e w' => e = .returned (.bool true) ∧ Below w.heap.size w w' := by
  have HTW := Lib.hid hT
  have HN1 := Lib.hid (lawName_any ⟨#[97]⟩ w)
  have hle : wrap64 (250 + wrap64 ((IntKind.u64.wrap n0).tmod 12)) ≤ 9223372036854775807 := by
    generalize 250 + wrap64 ((IntKind.u64.wrap n0).tmod 12) = z
    unfold wrap64
    omega
  have HLE : Hid (∃ N0, wrap64 (250 + wrap64 ((IntKind.u64.wrap n0).tmod 12)) = N0 ∧ N0 ≤ 9223372036854775807) := ⟨_, rfl, hle⟩
  clear hT hle
  go_enter Tryz.func5, Tryz.ntmps5
  go_wp2_with fail
  refine HN1.out.mono ?_
  rintro e w1 ⟨hb1, v1, rfl, A1, n1, C1, rfl, hf1⟩
  have HB1 := Lib.hid hb1; have HF1 := Lib.hid hf1
  have b2 := below2 w1 (.cells #[.int .i64 9, .string ⟨#[97]⟩, .string ⟨#[]⟩, .slice A1 n1 C1] 24) (.cells #[.int .i64 17, .string ⟨#[]⟩, .string ⟨#[]⟩, .slice none 0 0] 24)
  have HB2 := Lib.hid b2
  have HN2 := Lib.hid (lawName_any ⟨#[97]⟩ ((w1.alloc (.cells #[.int .i64 9, .string ⟨#[97]⟩, .string ⟨#[]⟩, .slice A1 n1 C1] 24)).alloc (.cells #[.int .i64 17, .string ⟨#[]⟩, .string ⟨#[]⟩, .slice none 0 0] 24)))
  clear hb1 hf1 HN1 b2
  go_wp2_with fail
  obtain ⟨N0, hN0, hle⟩ := HLE.out
  rw [hN0]
  clear hN0 HLE
  refine HN2.out.mono ?_
  rintro e w3 ⟨hb3, v3, rfl, A3, n3, C3, rfl, hf3⟩
  have HB3 := Lib.hid hb3; have HF3 := Lib.hid hf3
  clear hb3 hf3 HN2
  have HM : Hid (St w ((w3.alloc (.cells #[.int .i64 9, .string ⟨#[97]⟩, .string ⟨#[]⟩, .slice A3 n3 C3, .int .i64 17, .string ⟨#[]⟩, .string ⟨#[]⟩, .slice none 0 0, .int .i64 33, .string ⟨#[]⟩, .string ⟨#[]⟩, .slice none 0 0] 24)).alloc (.cells #[.int .i64 18, .string ⟨#[]⟩, .string ⟨#[]⟩, .slice (some ⟨w3.heap.size, 0, none⟩) 3 3] 24)) w1.heap.size (w1.heap.size + 1) (w3.heap.size + 1)) := by
    have b12 := below2 w1 (.cells #[.int .i64 9, .string ⟨#[97]⟩, .string ⟨#[]⟩, .slice A1 n1 C1] 24) (.cells #[.int .i64 17, .string ⟨#[]⟩, .string ⟨#[]⟩, .slice none 0 0] 24)
    have b34 := below2 w3 (.cells #[.int .i64 9, .string ⟨#[97]⟩, .string ⟨#[]⟩, .slice A3 n3 C3, .int .i64 17, .string ⟨#[]⟩, .string ⟨#[]⟩, .slice none 0 0, .int .i64 33, .string ⟨#[]⟩, .string ⟨#[]⟩, .slice none 0 0] 24) (.cells #[.int .i64 18, .string ⟨#[]⟩, .string ⟨#[]⟩, .slice (some ⟨w3.heap.size, 0, none⟩) 3 3] 24)
    have s3 : w1.heap.size + 2 ≤ w3.heap.size := by have := HB3.out.size; simpa using this
    have s1 := HB1.out.size
    have nilF : ∀ {W : World} {S S' : Nat → Prop} {W' : World} {v : Value}, Fs W S v .nil → Fs W' S' v .nil := fun h => h
    have hx1 : Boxed ((w1.alloc (.cells #[.int .i64 9, .string ⟨#[97]⟩, .string ⟨#[]⟩, .slice A1 n1 C1] 24)).alloc (.cells #[.int .i64 17, .string ⟨#[]⟩, .string ⟨#[]⟩, .slice none 0 0] 24)) w1.heap.size 9 ⟨#[97]⟩ ⟨#[]⟩ (.slice A1 n1 C1) := (Below.heap_alloc _ _ _ (by simp)).trans (heap_alloc_new _ _)
    have hx2 : Boxed ((w1.alloc (.cells #[.int .i64 9, .string ⟨#[97]⟩, .string ⟨#[]⟩, .slice A1 n1 C1] 24)).alloc (.cells #[.int .i64 17, .string ⟨#[]⟩, .string ⟨#[]⟩, .slice none 0 0] 24)) (w1.heap.size + 1) 17 ⟨#[]⟩ ⟨#[]⟩ (.slice none 0 0) := by
      have e : w1.heap.size + 1 = (w1.alloc (.cells #[.int .i64 9, .string ⟨#[97]⟩, .string ⟨#[]⟩, .slice A1 n1 C1] 24)).heap.size := by simp
      rw [e]
      exact heap_alloc_new _ _
    have hx3 : Boxed ((w3.alloc (.cells #[.int .i64 9, .string ⟨#[97]⟩, .string ⟨#[]⟩, .slice A3 n3 C3, .int .i64 17, .string ⟨#[]⟩, .string ⟨#[]⟩, .slice none 0 0, .int .i64 33, .string ⟨#[]⟩, .string ⟨#[]⟩, .slice none 0 0] 24)).alloc (.cells #[.int .i64 18, .string ⟨#[]⟩, .string ⟨#[]⟩, .slice (some ⟨w3.heap.size, 0, none⟩) 3 3] 24)) (w3.heap.size + 1) 18 ⟨#[]⟩ ⟨#[]⟩ (.slice (some ⟨w3.heap.size, 0, none⟩) 3 3) := by
      have e : w3.heap.size + 1 = (w3.alloc (.cells #[.int .i64 9, .string ⟨#[97]⟩, .string ⟨#[]⟩, .slice A3 n3 C3, .int .i64 17, .string ⟨#[]⟩, .string ⟨#[]⟩, .slice none 0 0, .int .i64 33, .string ⟨#[]⟩, .string ⟨#[]⟩, .slice none 0 0] 24)).heap.size := by simp
      rw [e]
      exact heap_alloc_new _ _
    have hr := fs_newG w3 [w1.heap.size, w1.heap.size + 1, w3.heap.size + 1] (by simp; omega) [(⟨9, ⟨#[97]⟩, ⟨#[]⟩, .nil⟩, .slice A3 n3 C3), (⟨17, ⟨#[]⟩, ⟨#[]⟩, .nil⟩, .slice none 0 0), (⟨33, ⟨#[]⟩, ⟨#[]⟩, .nil⟩, .slice none 0 0)] _ rfl 3 rfl (by omega) (fun p hp => by
      simp only [List.mem_cons, List.not_mem_nil, or_false] at hp
      rcases hp with rfl | rfl | rfl
      · exact nilF HF3.out
      · exact fs_empty _ _
      · exact fs_empty _ _)
    refine ⟨(((HB1.out.trans (b12.mono s1)).trans (HB3.out.mono (Nat.le_trans s1 b12.size)))).trans (b34.mono (by omega)), by omega, by omega, by omega, by omega, by omega, by omega, ?_, ?_, ?_⟩
    · exact ⟨9, ⟨#[97]⟩, A1, n1, C1, .nil, (hx1.below HB3.out hx1.lt).below b34 (by omega), nilF HF1.out, by decide, trivial⟩
    · exact ⟨17, ⟨#[]⟩, none, 0, 0, .nil, (hx2.below HB3.out hx2.lt).below b34 (by omega), fs_empty _ _, by decide, trivial⟩
    · exact ⟨18, ⟨#[]⟩, some ⟨w3.heap.size, 0, none⟩, 3, 3, _, hx3, fs_out hr (below1 _ _), by decide, ⟨sz97, sz0, trivial, sz0, sz0, trivial, sz0, sz0, trivial, trivial⟩⟩
  have HHS : Hid (w.heap.size ≤ w3.heap.size) := by show _ ≤ _; have := HB1.out.size; have := HB2.out.size; have := HB3.out.size; omega
  go_wp2
  obtain ⟨g6, hg6⟩ : ∃ g, w1.heap.size + 1 = g := ⟨_, rfl⟩
  obtain ⟨g5, hg5⟩ : ∃ g, w1.heap.size = g := ⟨_, rfl⟩
  obtain ⟨g7, hg7⟩ : ∃ g, w3.heap.size + 1 = g := ⟨_, rfl⟩
  rw [hg6, hg7] at HM
  rw [hg5] at HM
  rw [hg6, hg7]
  rw [hg5]
  clear hg5 hg6 hg7 HB1 HB2 HB3 HF1 HF3
  go_loopw [8] (fun i wr => ∃ j : Int, 0 ≤ j ∧ i = .int .i64 j ∧ Hid (St w wr g5 g6 g7)) (fun i _ => (N0 - intOf i).toNat)
  case atStart => exact ⟨0, by omega, rfl, HM.out⟩
  case round =>
    clear HM
    obtain ⟨j, hj0, rfl, HS⟩ := hrel
    have HGS : Hid (∀ g ∈ [g5, g6, g7], g < wr.heap.size) := HS.out.gs
    obtain ⟨k5, x5, A5, n5, C5, c5, hb5, hf5, hx5, hs5⟩ := HS.out.b5
    obtain ⟨k6, x6, A6, n6, C6, c6, hb6, hf6, hx6, hs6⟩ := HS.out.b6
    obtain ⟨k7, x7, A7, n7, C7, c7, hb7, hf7, hx7, hs7⟩ := HS.out.b7
    have HX5 := Lib.hid hx5; have HX6 := Lib.hid hx6; have HX7 := Lib.hid hx7
    have HSM5 := Lib.hid hs5; have HSM6 := Lib.hid hs6; have HSM7 := Lib.hid hs7
    have HF5 := Lib.hid hf5; have HF6 := Lib.hid hf6; have HF7 := Lib.hid hf7
    have H5 : Hid (∀ W, Below wr.heap.size wr W → Boxed W g5 k5 x5 ⟨#[]⟩ (.slice A5 n5 C5)) := fun W hW => hb5.below hW hb5.lt
    have H6 : Hid (∀ W, Below wr.heap.size wr W → Boxed W g6 k6 x6 ⟨#[]⟩ (.slice A6 n6 C6)) := fun W hW => hb6.below hW hb6.lt
    have H7 : Hid (∀ W, Below wr.heap.size wr W → Boxed W g7 k7 x7 ⟨#[]⟩ (.slice A7 n7 C7)) := fun W hW => hb7.below hW hb7.lt
    clear hb5 hb6 hb7 hf5 hf6 hf7 hx5 hx6 hx7 hs5 hs6 hs7
    by_cases hlt : j < N0
    · go_upto_if 35 with (fail)
      obtain ⟨M, hM⟩ : ∃ M, bits BinOp.and IntKind.i64 how 3 = M := ⟨_, rfl⟩
      rw [hM]
      clear hM
      by_cases m0 : M = 0
      · have t0 : (M == 0) = true := by simp [m0]
        clear m0
        obtain ⟨p0, p1, p2, p3⟩ := (H5.out wr (Below.refl _ _)).cells
        have hbA := below1 wr (.cells #[.int .i64 k5, .string x5, .string ⟨#[]⟩, .slice A5 n5 C5] 24)
        have hbxA := H5.out _ hbA
        obtain ⟨q0, q1, q2, q3⟩ := hbxA.cells
        obtain ⟨y0, y1, y2, y3⟩ := frz hbxA
        have HST : Hid (St w _ g5 g6 g7) := (HS.out.later hbA).w5 (But.set4 _ g5 _ _ _ _) (Bx.write hbxA (gs := [g5, g6, g7]) (by simp) 28 ⟨#[45]⟩ (fs_new wr [g5, g6, g7] HGS.out [(⟨k5, x5, ⟨#[]⟩, c5⟩, .slice A5 n5 C5)] _ rfl 1 rfl (by omega) (fun p hp => by
          simp only [List.mem_cons, List.not_mem_nil, or_false] at hp
          subst hp; exact HF5.out)) (by decide) ⟨HX5.out, sz0, HSM5.out, trivial⟩)
        clear hbA hbxA HS H5 H6 H7
        go_wp2
        go_roundw
        case rel => exact ⟨j + 1, by omega, by go_num, HST.out⟩
        case measure => simp [intOf]; omega
      · by_cases m1 : M = 1
        · subst m1
          clear m0
          go_wp2
          have HS13 : Hid (SmallT (.cons 9 ⟨#[98]⟩ ⟨#[]⟩ .nil (.cons k5 x5 ⟨#[]⟩ c5 .nil))) := ⟨by decide, by decide, trivial, HX5.out, by decide, HSM5.out, trivial⟩
          refine region_rel2 3 (fun W => Below wr.heap.size wr W) (fun W W' => But g5 W W' ∧ (Bx W g5 [g5, g6, g7] → Bx W' g5 [g5, g6, g7])) [⟨fun v W => ∃ (A : Option Addr) (n C : Nat), v = .agg #[.int .i64 9, .string ⟨#[98]⟩, .string ⟨#[]⟩, .slice A n C] ∧ Fs W (Out W [g5, g6, g7]) (.slice A n C) .nil, fun v W W' hT h => by obtain ⟨A, n, C, e, hf⟩ := h; exact ⟨A, n, C, e, fs_but hf hT.1 (by simp)⟩⟩, Cd.is (Value.agg #[.int .i64 k5, .string x5, .string ⟨#[]⟩, .slice A5 n5 C5]), ⟨fun v W => ∃ (A : Option Addr) (n C : Nat), v = .agg #[.int .i64 29, .string ⟨#[43]⟩, .string ⟨#[]⟩, .slice A n C] ∧ Fs W (Out W [g5, g6, g7]) (.slice A n C) (.cons 9 ⟨#[98]⟩ ⟨#[]⟩ .nil (.cons k5 x5 ⟨#[]⟩ c5 .nil)), fun v W W' hT h => by obtain ⟨A, n, C, e, hf⟩ := h; exact ⟨A, n, C, e, fs_but hf hT.1 (by simp)⟩⟩, ⟨fun _ W => Bx W g5 [g5, g6, g7], fun _ W W' hT h => hT.2 h⟩] (by kernel_rfl) (by decide) (by kernel_rfl) ((Below.refl _ _).drew) ⟨But.refl _ _, fun h => h⟩ (fun _ _ _ h k => ⟨h.1.trans k.1, fun z => k.2 (h.2 z)⟩) ?steps ?behind
          case steps =>
            intro xv W hW a ha
            skip
            simp only [fillA] at ha
            simp only [List.setIfInBounds_toArray, List.set_cons_succ, List.set_cons_zero, Nat.zero_add, Nat.reduceAdd] at ha
            subst ha
            refine ⟨fun hI hS hd K hK => ?s0, fun hI hS hd K hK => ?s1, fun hI hS hd K hK => ?s2, fun hI hS hd K hK => ?s3, trivial⟩
            case s0 =>
              clear hd
              simp only [Act.put, List.setIfInBounds_toArray, List.set_cons_succ, List.set_cons_zero] at hK
              refine (if_pos (by rfl)).mpr ?_
              clear hS
              go_simp
              go_at_call 13
              refine (lawName_any ⟨#[98]⟩ W).mono ?_
              rintro e w' ⟨hb, v, rfl, A0, n0, C0, rfl, hf0⟩
              exact hK.out _ _ ⟨But.of_below hb, fun h => h.later hb⟩ (.inr fun h => h.trans (hb.mono h.size)) ⟨A0, n0, C0, rfl, hf0⟩
            case s1 =>
              clear hd
              simp only [Act.put, List.setIfInBounds_toArray, List.set_cons_succ, List.set_cons_zero] at hK
              refine (if_pos (by rfl)).mpr ?_
              have hSW := hS (.inl (by kernel_rfl))
              obtain ⟨hq0, hq1, hq2, hq3⟩ := (H5.out W hSW).cells
              clear hS
              go_simp
              exact hK.out _ _ ⟨But.refl _ _, fun h => h⟩ (.inr fun h => h) rfl
            case s2 =>
              have hx0 : ∃ (A : Option Addr) (n C : Nat), xv 0 = .agg #[.int .i64 9, .string ⟨#[98]⟩, .string ⟨#[]⟩, .slice A n C] ∧ Fs W (Out W [g5, g6, g7]) (.slice A n C) .nil := hd 0 (by kernel_rfl)
              have hx1 : xv 1 = Value.agg #[.int .i64 k5, .string x5, .string ⟨#[]⟩, .slice A5 n5 C5] := hd 1 (by kernel_rfl)
              clear hd
              simp only [Act.put, List.setIfInBounds_toArray, List.set_cons_succ, List.set_cons_zero] at hK
              rw [hx1] at hK ⊢
              refine (if_pos (by rfl)).mpr ?_
              have hSW := hS (.inl (by kernel_rfl))
              obtain ⟨A0, n0, C0, e0, hf0⟩ := hx0
              rw [e0] at hK ⊢
              clear hS
              go_simp
              go_at_call 14
              refine (lawBinS_any ⟨#[43]⟩ 9 k5 ⟨#[98]⟩ x5 A0 A5 n0 C0 n5 C5 .nil c5 W [g5, g6, g7] (fun g hg => Nat.lt_of_lt_of_le (HGS.out g hg) hSW.size) hf0 (fs_out HF5.out hSW)).mono ?_
              rintro e w' ⟨hb, A1, n1, C1, rfl, hf1⟩
              exact hK.out _ _ ⟨But.of_below hb, fun h => h.later hb⟩ (.inr fun h => h.trans (hb.mono h.size)) ⟨A1, n1, C1, rfl, hf1⟩
            case s3 =>
              have hx2 : ∃ (A : Option Addr) (n C : Nat), xv 2 = .agg #[.int .i64 29, .string ⟨#[43]⟩, .string ⟨#[]⟩, .slice A n C] ∧ Fs W (Out W [g5, g6, g7]) (.slice A n C) (.cons 9 ⟨#[98]⟩ ⟨#[]⟩ .nil (.cons k5 x5 ⟨#[]⟩ c5 .nil)) := hd 2 (by kernel_rfl)
              clear hd
              simp only [Act.put] at hK
              refine (if_pos (by rfl)).mpr ?_
              have hSW := hS (.inr rfl)
              have hbk := H5.out W hSW
              obtain ⟨y0, y1, y2, y3⟩ := frz hbk
              obtain ⟨z0, z1, z2, z3⟩ := hbk.cells
              obtain ⟨A1, n1, C1, e1, hf1⟩ := hx2
              rw [e1] at hK ⊢
              clear hS
              have hBX := Bx.write hbk (gs := [g5, g6, g7]) (by simp) 29 ⟨#[43]⟩ hf1 (by decide) HS13.out
              go_simp
              exact hK.out undef _ ⟨But.set4 _ _ _ _ _ _, fun _ => hBX⟩ (.inl trivial) hBX
          case behind =>
            intro xv W hW hx a ha
            skip
            simp only [fillA] at ha
            simp only [List.setIfInBounds_toArray, List.set_cons_succ, List.set_cons_zero, Nat.zero_add, Nat.reduceAdd] at ha
            subst ha
            have hbx : Bx W g5 [g5, g6, g7] := hx 3 (by decide)
            have HST := Lib.hid (HS.out.w5 ⟨hW.1.os, hW.1.tape, hW.1.output, hW.1.size, hW.1.block⟩ hbx)
            clear hx hW hbx HS H5 H6 H7
            go_wp2
            go_roundw
            case rel => exact ⟨j + 1, by omega, by go_num, HST.out⟩
            case measure => simp [intOf]; omega
        · by_cases m2 : M = 2
          · subst m2
            clear m0 m1
            obtain ⟨p0, p1, p2, p3⟩ := (H6.out wr (Below.refl _ _)).cells
            have hbA := below1 wr (.cells #[.int .i64 k6, .string x6, .string ⟨#[]⟩, .slice A6 n6 C6] 24)
            have hbxA := H6.out _ hbA
            obtain ⟨q0, q1, q2, q3⟩ := hbxA.cells
            obtain ⟨y0, y1, y2, y3⟩ := frz hbxA
            have HST : Hid (St w _ g5 g6 g7) := (HS.out.later hbA).w6 (But.set4 _ g6 _ _ _ _) (Bx.write hbxA (gs := [g5, g6, g7]) (by simp) 17 ⟨#[]⟩ (fs_new wr [g5, g6, g7] HGS.out [(⟨k6, x6, ⟨#[]⟩, c6⟩, .slice A6 n6 C6)] _ rfl 1 rfl (by omega) (fun p hp => by
              simp only [List.mem_cons, List.not_mem_nil, or_false] at hp
              subst hp; exact HF6.out)) (by decide) ⟨HX6.out, sz0, HSM6.out, trivial⟩)
            clear hbA hbxA HS H5 H6 H7
            go_wp2
            go_roundw
            case rel => exact ⟨j + 1, by omega, by go_num, HST.out⟩
            case measure => simp [intOf]; omega
          · have t0 : (M == 0) = false := by simp [m0]
            have t1 : (M == 1) = false := by simp [m1]
            have t2 : (M == 2) = false := by simp [m2]
            rw [t0]
            go_wp2
            clear t0 t1 t2 m0 m1 m2
            have HS9 : Hid (SmallT (.cons 9 ⟨#[97]⟩ ⟨#[]⟩ .nil (.cons 17 ⟨#[]⟩ ⟨#[]⟩ .nil (.cons k7 x7 ⟨#[]⟩ c7 .nil)))) := ⟨by decide, by decide, trivial, by decide, by decide, trivial, HX7.out, by decide, HSM7.out, trivial⟩
            refine region_rel2 5 (fun W => Below wr.heap.size wr W) (fun W W' => But g7 W W' ∧ (Bx W g7 [g5, g6, g7] → Bx W' g7 [g5, g6, g7])) [⟨fun v W => ∃ (A : Option Addr) (n C : Nat), v = .agg #[.int .i64 9, .string ⟨#[97]⟩, .string ⟨#[]⟩, .slice A n C] ∧ Fs W (Out W [g5, g6, g7]) (.slice A n C) .nil, fun v W W' hT h => by obtain ⟨A, n, C, e, hf⟩ := h; exact ⟨A, n, C, e, fs_but hf hT.1 (by simp)⟩⟩, Cd.is (Value.agg #[.int .i64 17, .string ⟨#[]⟩, .string ⟨#[]⟩, .slice none 0 0]), Cd.is (Value.agg #[.int .i64 k7, .string x7, .string ⟨#[]⟩, .slice A7 n7 C7]), ⟨fun v W => ∃ (A : Option Addr), v = .slice A 3 3 ∧ Fs W (Out W [g5, g6, g7]) (.slice A 3 3) (.cons 9 ⟨#[97]⟩ ⟨#[]⟩ .nil (.cons 17 ⟨#[]⟩ ⟨#[]⟩ .nil (.cons k7 x7 ⟨#[]⟩ c7 .nil))), fun v W W' hT h => by obtain ⟨A, e, hf⟩ := h; exact ⟨A, e, fs_but hf hT.1 (by simp)⟩⟩, ⟨fun v W => ∃ (A : Option Addr) (n C : Nat), v = .agg #[.int .i64 18, .string ⟨#[]⟩, .string ⟨#[]⟩, .slice A n C] ∧ Fs W (Out W [g5, g6, g7]) (.slice A n C) (.cons 9 ⟨#[97]⟩ ⟨#[]⟩ .nil (.cons 17 ⟨#[]⟩ ⟨#[]⟩ .nil (.cons k7 x7 ⟨#[]⟩ c7 .nil))), fun v W W' hT h => by obtain ⟨A, n, C, e, hf⟩ := h; exact ⟨A, n, C, e, fs_but hf hT.1 (by simp)⟩⟩, ⟨fun _ W => Bx W g7 [g5, g6, g7], fun _ W W' hT h => hT.2 h⟩] (by kernel_rfl) (by decide) (by kernel_rfl) ((Below.refl _ _).drew) ⟨But.refl _ _, fun h => h⟩ (fun _ _ _ h k => ⟨h.1.trans k.1, fun z => k.2 (h.2 z)⟩) ?steps ?behind
            case steps =>
              intro xv W hW a ha
              skip
              simp only [fillA] at ha
              simp only [List.setIfInBounds_toArray, List.set_cons_succ, List.set_cons_zero, Nat.zero_add, Nat.reduceAdd] at ha
              subst ha
              refine ⟨fun hI hS hd K hK => ?s0, fun hI hS hd K hK => ?s1, fun hI hS hd K hK => ?s2, fun hI hS hd K hK => ?s3, fun hI hS hd K hK => ?s4, fun hI hS hd K hK => ?s5, trivial⟩
              case s0 =>
                clear hd
                simp only [Act.put, List.setIfInBounds_toArray, List.set_cons_succ, List.set_cons_zero] at hK
                refine (if_pos (by rfl)).mpr ?_
                clear hS
                go_simp
                go_at_call 13
                refine (lawName_any ⟨#[97]⟩ W).mono ?_
                rintro e w' ⟨hb, v, rfl, A0, n0, C0, rfl, hf0⟩
                exact hK.out _ _ ⟨But.of_below hb, fun h => h.later hb⟩ (.inr fun h => h.trans (hb.mono h.size)) ⟨A0, n0, C0, rfl, hf0⟩
              case s1 =>
                clear hd
                simp only [Act.put, List.setIfInBounds_toArray, List.set_cons_succ, List.set_cons_zero] at hK
                refine (if_pos (by rfl)).mpr ?_
                clear hS
                go_simp
                exact hK.out _ _ ⟨But.refl _ _, fun h => h⟩ (.inr fun h => h) rfl
              case s2 =>
                clear hd
                simp only [Act.put, List.setIfInBounds_toArray, List.set_cons_succ, List.set_cons_zero] at hK
                refine (if_pos (by rfl)).mpr ?_
                have hSW := hS (.inl (by kernel_rfl))
                obtain ⟨hq0, hq1, hq2, hq3⟩ := (H7.out W hSW).cells
                clear hS
                go_simp
                exact hK.out _ _ ⟨But.refl _ _, fun h => h⟩ (.inr fun h => h) rfl
              case s3 =>
                have hx0 : ∃ (A : Option Addr) (n C : Nat), xv 0 = .agg #[.int .i64 9, .string ⟨#[97]⟩, .string ⟨#[]⟩, .slice A n C] ∧ Fs W (Out W [g5, g6, g7]) (.slice A n C) .nil := hd 0 (by kernel_rfl)
                have hx1 : xv 1 = Value.agg #[.int .i64 17, .string ⟨#[]⟩, .string ⟨#[]⟩, .slice none 0 0] := hd 1 (by kernel_rfl)
                have hx2 : xv 2 = Value.agg #[.int .i64 k7, .string x7, .string ⟨#[]⟩, .slice A7 n7 C7] := hd 2 (by kernel_rfl)
                clear hd
                simp only [Act.put, List.setIfInBounds_toArray, List.set_cons_succ, List.set_cons_zero] at hK
                rw [hx1] at hK ⊢
                rw [hx2] at hK ⊢
                refine (if_pos (by rfl)).mpr ?_
                have hSW := hS (.inl (by kernel_rfl))
                obtain ⟨A0, n0, C0, e0, hf0⟩ := hx0
                rw [e0] at hK ⊢
                clear hS
                go_simp
                have hb := below1 W (.cells #[.int .i64 9, .string ⟨#[97]⟩, .string ⟨#[]⟩, .slice A0 n0 C0, .int .i64 17, .string ⟨#[]⟩, .string ⟨#[]⟩, .slice none 0 0, .int .i64 k7, .string x7, .string ⟨#[]⟩, .slice A7 n7 C7] 24)
                have hf3 := fs_new W [g5, g6, g7] (fun g hg => Nat.lt_of_lt_of_le (HGS.out g hg) hSW.size) [(⟨9, ⟨#[97]⟩, ⟨#[]⟩, .nil⟩, .slice A0 n0 C0), (⟨17, ⟨#[]⟩, ⟨#[]⟩, .nil⟩, .slice none 0 0), (⟨k7, x7, ⟨#[]⟩, c7⟩, .slice A7 n7 C7)] _ rfl 3 rfl (by omega) (fun p hp => by
                    simp only [List.mem_cons, List.not_mem_nil, or_false] at hp
                    rcases hp with rfl | rfl | rfl
                    · exact hf0
                    · exact fs_empty _ _
                    · exact fs_out HF7.out hSW)
                exact hK.out _ _ ⟨But.of_below hb, fun h => h.later hb⟩ (.inr fun h => h.trans (hb.mono h.size)) ⟨_, rfl, hf3⟩
              case s4 =>
                have hx3 : ∃ (A : Option Addr), xv 3 = .slice A 3 3 ∧ Fs W (Out W [g5, g6, g7]) (.slice A 3 3) (.cons 9 ⟨#[97]⟩ ⟨#[]⟩ .nil (.cons 17 ⟨#[]⟩ ⟨#[]⟩ .nil (.cons k7 x7 ⟨#[]⟩ c7 .nil))) := hd 3 (by kernel_rfl)
                clear hd
                simp only [Act.put, List.setIfInBounds_toArray, List.set_cons_succ, List.set_cons_zero] at hK
                refine (if_pos (by rfl)).mpr ?_
                obtain ⟨A3, e3, hf3⟩ := hx3
                rw [e3] at hK ⊢
                clear hS
                go_simp
                exact hK.out _ _ ⟨But.refl _ _, fun h => h⟩ (.inr fun h => h) ⟨A3, 3, 3, rfl, hf3⟩
              case s5 =>
                have hx4 : ∃ (A : Option Addr) (n C : Nat), xv 4 = .agg #[.int .i64 18, .string ⟨#[]⟩, .string ⟨#[]⟩, .slice A n C] ∧ Fs W (Out W [g5, g6, g7]) (.slice A n C) (.cons 9 ⟨#[97]⟩ ⟨#[]⟩ .nil (.cons 17 ⟨#[]⟩ ⟨#[]⟩ .nil (.cons k7 x7 ⟨#[]⟩ c7 .nil))) := hd 4 (by kernel_rfl)
                clear hd
                simp only [Act.put] at hK
                refine (if_pos (by rfl)).mpr ?_
                have hSW := hS (.inr rfl)
                have hbk := H7.out W hSW
                obtain ⟨y0, y1, y2, y3⟩ := frz hbk
                obtain ⟨z0, z1, z2, z3⟩ := hbk.cells
                obtain ⟨A1, n1, C1, e1, hf1⟩ := hx4
                rw [e1] at hK ⊢
                clear hS
                have hBX := Bx.write hbk (gs := [g5, g6, g7]) (by simp) 18 ⟨#[]⟩ hf1 (by decide) HS9.out
                go_simp
                exact hK.out undef _ ⟨But.set4 _ _ _ _ _ _, fun _ => hBX⟩ (.inl trivial) hBX
            case behind =>
              intro xv W hW hx a ha
              skip
              simp only [fillA] at ha
              simp only [List.setIfInBounds_toArray, List.set_cons_succ, List.set_cons_zero, Nat.zero_add, Nat.reduceAdd] at ha
              subst ha
              have hbx : Bx W g7 [g5, g6, g7] := hx 5 (by decide)
              have HST := Lib.hid (HS.out.w7 ⟨hW.1.os, hW.1.tape, hW.1.output, hW.1.size, hW.1.block⟩ hbx)
              clear hx hW hbx HS H5 H6 H7
              go_wp2
              go_roundw
              case rel => exact ⟨j + 1, by omega, by go_num, HST.out⟩
              case measure => simp [intOf]; omega
    · obtain ⟨p0, p1, p2, p3⟩ := (H5.out wr (Below.refl _ _)).cells
      obtain ⟨r0, r1, r2, r3⟩ := (H6.out wr (Below.refl _ _)).cells
      obtain ⟨s0, s1, s2, s3⟩ := (H7.out wr (Below.refl _ _)).cells
      have hfs := deep_fs wr k5 k6 k7 x5 x6 x7 A5 A6 A7 n5 C5 n6 C6 n7 C7 c5 c6 c7 (fs_lo HF5.out) (fs_lo HF6.out) (fs_lo HF7.out)
      have hbd := deep_below wr k5 k6 k7 x5 x6 x7 A5 A6 A7 n5 C5 n6 C6 n7 C7
      unfold dw5 dw4 dw3 dw2 dw1 at hfs hbd
      have HBD := Lib.hid (HS.out.bel.trans (hbd.mono HS.out.bel.size))
      have HFC := Lib.hid (lawFile_any (wr.heap.size + 1 + 1 + 1 + 1) 1 _ _ (by omega) hfs)
      have HSMT : Hid (SmallT (.cons 2 ⟨#[112]⟩ ⟨#[]⟩ .nil (.cons 7 ⟨#[102]⟩ ⟨#[]⟩ (.cons 33 ⟨#[]⟩ ⟨#[]⟩ .nil (.cons 15 ⟨#[]⟩ ⟨#[]⟩ .nil (.cons 33 ⟨#[]⟩ ⟨#[]⟩ .nil (.cons 17 ⟨#[]⟩ ⟨#[]⟩ (.cons k6 x6 ⟨#[]⟩ c6 (.cons k7 x7 ⟨#[]⟩ c7 (.cons 20 ⟨#[]⟩ ⟨#[]⟩ (.cons k5 x5 ⟨#[]⟩ c5 .nil) .nil))) .nil)))) .nil))) := ⟨by decide, sz0, trivial, by decide, sz0, ⟨sz0, sz0, trivial, sz0, sz0, trivial, sz0, sz0, trivial, sz0, sz0, ⟨HX6.out, sz0, HSM6.out, HX7.out, sz0, HSM7.out, sz0, sz0, ⟨HX5.out, sz0, HSM5.out, trivial⟩, trivial⟩, trivial⟩, trivial⟩
      generalize (F.cons 7 ⟨#[102]⟩ ⟨#[]⟩ (.cons 33 ⟨#[]⟩ ⟨#[]⟩ .nil (.cons 15 ⟨#[]⟩ ⟨#[]⟩ .nil (.cons 33 ⟨#[]⟩ ⟨#[]⟩ .nil (.cons 17 ⟨#[]⟩ ⟨#[]⟩ (.cons k6 x6 ⟨#[]⟩ c6 (.cons k7 x7 ⟨#[]⟩ c7 (.cons 20 ⟨#[]⟩ ⟨#[]⟩ (.cons k5 x5 ⟨#[]⟩ c5 .nil) .nil))) .nil)))) .nil) = cF at HFC HSMT
      clear hfs hbd HS H5 H6 H7 HF5 HF6 HF7 HGS HX5 HX6 HX7 HSM5 HSM6 HSM7
      go_wp2_with fail
      refine HFC.out.mono ?_
      rintro e w4 ⟨hb4, v4, rfl, A, n, C, rfl, hf4⟩
      have HB4 := Lib.hid (HBD.out.trans (hb4.mono HBD.out.size))
      have b5 := below1 w4 (.cells #[.int .i64 1, .string ⟨#[]⟩, .string ⟨#[]⟩, .slice A n C] 24)
      have HBA : Hid (Below w.heap.size w (w4.alloc (.cells #[.int .i64 1, .string ⟨#[]⟩, .string ⟨#[]⟩, .slice A n C] 24))) := HB4.out.trans (b5.mono HB4.out.size)
      have HBX : Hid (∀ W, Below (w4.alloc (.cells #[.int .i64 1, .string ⟨#[]⟩, .string ⟨#[]⟩, .slice A n C] 24)).heap.size (w4.alloc (.cells #[.int .i64 1, .string ⟨#[]⟩, .string ⟨#[]⟩, .slice A n C] 24)) W → W.cell? ⟨w4.heap.size, 0, none⟩ = some (.int .i64 1) ∧ W.cell? ⟨w4.heap.size, 1, none⟩ = some (.string ⟨#[]⟩) ∧ W.cell? ⟨w4.heap.size, 2, none⟩ = some (.string ⟨#[]⟩) ∧ W.cell? ⟨w4.heap.size, 3, none⟩ = some (.slice A n C)) := fun W hW => ((boxed_new w4 1 ⟨#[]⟩ ⟨#[]⟩ (.slice A n C)).below hW (by simp)).cells
      have HT : Hid (∀ W, Below (w4.alloc (.cells #[.int .i64 1, .string ⟨#[]⟩, .string ⟨#[]⟩, .slice A n C] 24)).heap.size (w4.alloc (.cells #[.int .i64 1, .string ⟨#[]⟩, .string ⟨#[]⟩, .slice A n C] 24)) W → Lex.Tab W) := fun W hW => HTW.out.below (HBA.out.trans (hW.mono HBA.out.size)) HTW.out.pos
      have HFD : Hid (∀ W, Below (w4.alloc (.cells #[.int .i64 1, .string ⟨#[]⟩, .string ⟨#[]⟩, .slice A n C] 24)).heap.size (w4.alloc (.cells #[.int .i64 1, .string ⟨#[]⟩, .string ⟨#[]⟩, .slice A n C] 24)) W → Fs W (Lo W.heap.size) (.slice A n C) (.cons 2 ⟨#[112]⟩ ⟨#[]⟩ .nil cF)) := fun W hW => (hf4.later b5).later hW
      have HRT : Hid (∀ W, Below (w4.alloc (.cells #[.int .i64 1, .string ⟨#[]⟩, .string ⟨#[]⟩, .slice A n C] 24)).heap.size (w4.alloc (.cells #[.int .i64 1, .string ⟨#[]⟩, .string ⟨#[]⟩, .slice A n C] 24)) W → Calls Tryz.prog 9 #[.agg #[.int .i64 1, .string ⟨#[]⟩, .string ⟨#[]⟩, .slice A n C]] W fun e w' => e = .returned (.bool (rightT nmB tkB 1 ⟨#[]⟩ ⟨#[]⟩ (.cons 2 ⟨#[112]⟩ ⟨#[]⟩ .nil cF))) ∧ Below W.heap.size W w') := fun W hW =>
        right_any 1 ⟨#[]⟩ ⟨#[]⟩ A n C _ W (HFD.out W hW) (by decide) (by decide) HSMT.out.small (HT.out W hW)
      have HRR : Hid (∀ W, Below (w4.alloc (.cells #[.int .i64 1, .string ⟨#[]⟩, .string ⟨#[]⟩, .slice A n C] 24)).heap.size (w4.alloc (.cells #[.int .i64 1, .string ⟨#[]⟩, .string ⟨#[]⟩, .slice A n C] 24)) W → Calls Tryz.prog 10 #[.agg #[.int .i64 1, .string ⟨#[]⟩, .string ⟨#[]⟩, .slice A n C]] W fun e w' => e = .returned (.bool (rightT nmB tkB 1 ⟨#[]⟩ ⟨#[]⟩ (.cons 2 ⟨#[112]⟩ ⟨#[]⟩ .nil cF))) ∧ Below W.heap.size W w') := fun W hW =>
        refRight_any 1 ⟨#[]⟩ ⟨#[]⟩ A n C _ W (HFD.out W hW) (by decide) (by decide) HSMT.out
      generalize rightT nmB tkB 1 ⟨#[]⟩ ⟨#[]⟩ (.cons 2 ⟨#[112]⟩ ⟨#[]⟩ .nil cF) = rb at *
      clear hb4 hf4 b5 HFC HFD HSMT HB4 HBD
      go_wp2
      refine region_rel (fun W W' => Below W.heap.size W W') [Cd.is (Value.bool true), Cd.is (Value.bool true), Cd.is (Value.agg #[.int .i64 1, .string ⟨#[]⟩, .string ⟨#[]⟩, .slice A n C]), Cd.is (Value.bool rb), Cd.is (Value.agg #[.int .i64 1, .string ⟨#[]⟩, .string ⟨#[]⟩, .slice A n C]), Cd.is (Value.bool rb), Cd.is (Value.bool true), Cd.is (Value.bool true), Cd.is (Value.bool true)] (by kernel_rfl) (by decide) (by kernel_rfl) (Below.refl _ _) (fun _ _ _ h k => h.trans (k.mono h.size)) ?steps ?behind
      case steps =>
        intro xv W hW a ha
        replace hW := undrew hW
        simp only [fillA] at ha
        simp only [List.setIfInBounds_toArray, List.set_cons_succ, List.set_cons_zero, Nat.zero_add, Nat.reduceAdd] at ha
        subst ha
        refine ⟨fun hd K hK => ?s0, fun hd K hK => ?s1, fun hd K hK => ?s2, fun hd K hK => ?s3, fun hd K hK => ?s4, fun hd K hK => ?s5, fun hd K hK => ?s6, fun hd K hK => ?s7, fun hd K hK => ?s8, trivial⟩
        case s0 =>
          clear hd
          simp only [Act.put, List.setIfInBounds_toArray, List.set_cons_succ, List.set_cons_zero] at hK
          refine (if_pos (by rfl)).mpr ?_
          go_simp
          go_at_call 8
          refine (known_any W (HT.out W hW)).mono ?_
          rintro e w' ⟨rfl, hb⟩
          exact hK.out _ _ hb rfl
        case s1 =>
          have hx0 : xv 0 = Value.bool true := hd 0 (by kernel_rfl)
          clear hd
          simp only [Act.put, List.setIfInBounds_toArray, List.set_cons_succ, List.set_cons_zero] at hK
          rw [hx0] at hK ⊢
          refine (if_pos (by rfl)).mpr ?_
          go_simp
          exact hK.out _ _ (Below.refl _ _) rfl
        case s2 =>
          have hx1 : xv 1 = Value.bool true := hd 1 (by kernel_rfl)
          clear hd
          simp only [Act.put, List.setIfInBounds_toArray, List.set_cons_succ, List.set_cons_zero] at hK
          rw [hx1] at hK ⊢
          refine (if_pos (by rfl)).mpr ?_
          obtain ⟨hq0, hq1, hq2, hq3⟩ := HBX.out W hW
          go_simp
          exact hK.out _ _ (Below.refl _ _) rfl
        case s3 =>
          have hx1 : xv 1 = Value.bool true := hd 1 (by kernel_rfl)
          have hx2 : xv 2 = Value.agg #[.int .i64 1, .string ⟨#[]⟩, .string ⟨#[]⟩, .slice A n C] := hd 2 (by kernel_rfl)
          clear hd
          simp only [Act.put, List.setIfInBounds_toArray, List.set_cons_succ, List.set_cons_zero] at hK
          rw [hx1] at hK ⊢
          rw [hx2] at hK ⊢
          refine (if_pos (by rfl)).mpr ?_
          go_simp
          go_at_call 9
          refine (HRT.out W hW).mono ?_
          rintro e w' ⟨rfl, hb⟩
          exact hK.out _ _ hb rfl
        case s4 =>
          have hx1 : xv 1 = Value.bool true := hd 1 (by kernel_rfl)
          clear hd
          simp only [Act.put, List.setIfInBounds_toArray, List.set_cons_succ, List.set_cons_zero] at hK
          rw [hx1] at hK ⊢
          refine (if_pos (by rfl)).mpr ?_
          obtain ⟨hq0, hq1, hq2, hq3⟩ := HBX.out W hW
          go_simp
          exact hK.out _ _ (Below.refl _ _) rfl
        case s5 =>
          have hx1 : xv 1 = Value.bool true := hd 1 (by kernel_rfl)
          have hx4 : xv 4 = Value.agg #[.int .i64 1, .string ⟨#[]⟩, .string ⟨#[]⟩, .slice A n C] := hd 4 (by kernel_rfl)
          clear hd
          simp only [Act.put, List.setIfInBounds_toArray, List.set_cons_succ, List.set_cons_zero] at hK
          rw [hx1] at hK ⊢
          rw [hx4] at hK ⊢
          refine (if_pos (by rfl)).mpr ?_
          go_simp
          go_at_call 10
          refine (HRR.out W hW).mono ?_
          rintro e w' ⟨rfl, hb⟩
          exact hK.out _ _ hb rfl
        case s6 =>
          have hx1 : xv 1 = Value.bool true := hd 1 (by kernel_rfl)
          have hx3 : xv 3 = Value.bool rb := hd 3 (by kernel_rfl)
          have hx5 : xv 5 = Value.bool rb := hd 5 (by kernel_rfl)
          clear hd
          simp only [Act.put, List.setIfInBounds_toArray, List.set_cons_succ, List.set_cons_zero] at hK
          rw [hx1] at hK ⊢
          rw [hx3] at hK ⊢
          rw [hx5] at hK ⊢
          refine (if_pos (by rfl)).mpr ?_
          have hne : (rb == rb) = true := by simp
          go_simp
          exact hK.out _ _ (Below.refl _ _) rfl
        case s7 =>
          have hx1 : xv 1 = Value.bool true := hd 1 (by kernel_rfl)
          have hx6 : xv 6 = Value.bool true := hd 6 (by kernel_rfl)
          clear hd
          simp only [Act.put, List.setIfInBounds_toArray, List.set_cons_succ, List.set_cons_zero] at hK
          rw [hx1] at hK ⊢
          rw [hx6] at hK ⊢
          refine (if_pos (by rfl)).mpr ?_
          go_simp
          exact hK.out _ _ (Below.refl _ _) rfl
        case s8 =>
          have hx7 : xv 7 = Value.bool true := hd 7 (by kernel_rfl)
          clear hd
          simp only [Act.put, List.setIfInBounds_toArray, List.set_cons_succ, List.set_cons_zero] at hK
          rw [hx7] at hK ⊢
          refine (if_pos (by rfl)).mpr ?_
          go_simp
          exact hK.out _ _ (Below.refl _ _) rfl
      case behind =>
        intro xv W hW hx a ha
        replace hW := undrew hW
        simp only [fillA] at ha
        simp only [List.setIfInBounds_toArray, List.set_cons_succ, List.set_cons_zero, Nat.zero_add, Nat.reduceAdd] at ha
        subst ha
        have h8 : xv 8 = Value.bool true := hx 8 (by decide)
        rw [h8]
        have HW := Lib.hid (HBA.out.trans (hW.mono HBA.out.size))
        clear hx h8 hW
        go_wp2
        go_ret
        exact ⟨rfl, HW.out⟩
end Go.Proofs.YtoecimgmghlfpaaGreatDoor.Tree
