/-
 Layer 4 (lex): what the row lists of the program's table of marks is what the walks ask (Tab).
-/
import Derived.Test.YtaiihnniblibaaaGreatDoorRows
import Derived.Test.YtaiihnniblibaaaGreatDoorJpD
import Derived.Lib.LaidU8
import Derived.ProofKit
import Derived.OpenShut
namespace Go.Proofs.YtaiihnniblibaaaGreatDoor.Lex
open Go.ChangeShapes Go.WideShapes Go.ChangeAt Go.RowKit Utf
set_option linter.unusedVariables false

def laidL : List (String × DataW Unit) := [("unicode/utf8.acceptRanges", Rows.laid_unicode_utf8_acceptRanges), ("scarf/lex.marks", Rows.laid_scarf_lex_marks), ("unicode/utf8.first", Rows.laid_unicode_utf8_first)]
theorem gMarks : Tryz.prog.globalNamed "scarf/lex.marks" = some 0 := by kernel_rfl
theorem tMarks : (Tryz.prog.globals[0]?).map (·.type) = some 111 := by kernel_rfl
theorem cStr : Tryz.prog.cellsOf 9 = 1 := by kernel_rfl
theorem cArr : Tryz.prog.cellsOf 111 = 37 := by kernel_rfl

/-- The datum's texts, byte by byte, are the marks. -/
def litsOf : List (DataW Unit) := mkl.map fun m => .lit (.string (m.map fun n => UInt8.ofNat n.toNat))
theorem laid_is : (Rows.laid_scarf_lex_marks : DataW Unit) = .agg litsOf := by rfl

theorem tab_of_laid {W : World} (h : laidMet Tryz.prog laidL W) : Tab W := by
 obtain hr := Lib.laidMet.reads h (n := "scarf/lex.marks") (d := Rows.laid_scarf_lex_marks) (by unfold laidL; exact .tail _ (.head _))
 obtain ⟨g, t, cs, fuel, p, h1, h2, h3, h4⟩ := hr
 obtain rfl := Option.some.inj (gMarks.symm.trans h1)
 obtain rfl := Option.some.inj (tMarks.symm.trans h2)
 obtain ⟨xs, m, rfl, hx, hlen, hn, hel⟩ := DataW.trod_array Tryz.underlying111 h4
 rw [cArr] at hlen
 rw [laid_is] at hx
 simp only [Prod.mk.injEq, DataW.agg.injEq] at hx
 have hcs : cs = mkV := by
  refine Array.ext' (List.ext_getElem (by rw [hlen, Array.length_toList, mkV_size]) fun i hi hi2 => ?_)
  have hi37 : i < 37 := by omega
  have e1 := hel i hi37
  rw [cStr, Nat.mul_one] at e1
  have hxi : i < xs.length := by omega
  rw [List.getElem?_eq_getElem hxi] at e1
  obtain ⟨s, c1, c2, _⟩ := DataW.trod_string Tryz.underlying9 e1
  have hml : i < mkl.length := by rw [mkl_len]; exact hi37
  have e2 : (xs.map (·.1))[i]? = litsOf[i]? := by rw [← hx.1]
  rw [List.getElem?_map, List.getElem?_eq_getElem hxi, c2] at e2
  unfold litsOf at e2
  rw [List.getElem?_map, List.getElem?_eq_getElem hml] at e2
  simp only [Option.map_some, Option.some.injEq, DataW.lit.injEq, Lit.string.injEq] at e2
  have hs : s = strOfNums mkl[i] := by
   apply ByteArray.ext
   apply Array.ext'
   rw [e2]; simp [strOfNums]
  have e3 : cs.toList[i] = .string s := by
   rw [List.drop_eq_getElem_cons hi] at c1
   simpa using c1
  rw [e3, hs]
  simp [mkV]
 subst hcs
 simp only [World.var?, gMarks, Option.bind_some] at h3
 split at h3
 ·rename_i cs t fr he
  injection h3 with h3
  subst h3
  exact ⟨t, fr, he⟩
 ·cases h3

end Go.Proofs.YtaiihnniblibaaaGreatDoor.Lex
