/- What the rows of this seat share: the listed variables as the program's text lays them, and what they give a walk. Conditions: none. -/
import Derived.Test.YtnkkenchabcpoaaDoorNameF
import Derived.Test.YtnkkenchabcpoaaDoorTie
import Derived.ProofKit
import Derived.LaidMore
import Derived.LaidLaws
import Derived.OpenShut
import Derived.RowKitTokens
import Derived.Lib.LaidTab
import Derived.Stop.Joined
import Derived.Stop.LaidErr
import Derived.SevenTiedAt
namespace Go.Proofs.YtnkkenchabcpoaaDoor
open Go Go.RowKit

theorem own : ownKnob Tryd.prog.godebug = none := by kernel_rfl
/-- the list that each row of this seat bears -/
def laid5 : List (String × DataW Unit) := [("math/bits.deBruijn32tab", Rows.laid_math_bits_deBruijn32tab), ("math/bits.deBruijn64tab", Rows.laid_math_bits_deBruijn64tab), ("internal/strconv.uint64pow10", Rows.laid_internal_strconv_uint64pow10), ("strconv.ErrRange", Rows.laid_strconv_ErrRange), ("strconv.ErrSyntax", Rows.laid_strconv_ErrSyntax)]
set_option maxRecDepth 100000 in
theorem door_met (os : Os) (args : Array Value) : laidMetH Tryd.prog laid5 ((World.doorLaid Tryd.prog 62 os).forCall (fun _ _ => 0) ⟨#[], args, []⟩).memory :=
  laidMetH_of_parts3 (fuel := 8) (laidMet_of_run' 8 (by kernel_rfl) (by kernel_rfl)) (by kernel_rfl) (by kernel_rfl)

theorem gBr : Tryd.prog.globalNamed "math/bits.deBruijn64tab" = some 2 := by kernel_rfl
theorem tBr : (Tryd.prog.globals[2]?).map (·.type) = some 80 := by kernel_rfl
theorem gRange : Tryd.prog.globalNamed "strconv.ErrRange" = some 5 := by kernel_rfl
theorem tRange : (Tryd.prog.globals[5]?).map (·.type) = some 62 := by kernel_rfl
theorem gSyntax : Tryd.prog.globalNamed "strconv.ErrSyntax" = some 4 := by kernel_rfl
theorem tSyntax : (Tryd.prog.globals[4]?).map (·.type) = some 62 := by kernel_rfl
theorem rowErr (u : TypeId) (h : Tryd.prog.typeName? 3 u = some "*errors.errorString") : u = 84 :=
  typeName_ptr_named (nm := "errors.errorString") (by rw [show ("*" ++ "errors.errorString") = "*errors.errorString" by decide]; kernel_rfl) (by kernel_rfl) (by decide) u (by rw [show ("*" ++ "errors.errorString") = "*errors.errorString" by decide]; exact h)
theorem cellsErr : Tryd.prog.cellsOf 86 = 1 := by kernel_rfl
theorem cellsStr : Tryd.prog.cellsOf 9 = 1 := by kernel_rfl

set_option maxRecDepth 100000 in
theorem tab_of {W : World} (h : laidMetH Tryd.prog laid5 W) : Tab W := by
  rw [MakeChecks.laidMetH_plain _ _ _ (by kernel_rfl)] at h
  have h1 := Lib.tabIs_of_head (zs := [0, 1, 56, 2, 57, 49, 28, 3, 61, 58, 42, 50, 38, 29, 17, 4, 62, 47, 59, 36, 45, 43, 51, 22, 53, 39, 33, 30, 24, 18, 12, 5, 63, 55, 48, 27, 60, 41, 37, 16, 46, 35, 44, 21, 52, 32, 23, 11, 54, 26, 40, 15, 34, 20, 31, 10, 25, 14, 19, 9, 13, 8, 7, 6]) gBr tBr Tryd.underlying80 Tryd.underlying5 (by kernel_rfl) (by kernel_rfl) h.tail
  obtain ⟨a2, s2, hv2, _⟩ := laid_sentinel h.tail.tail.tail gRange tRange Tryd.underlying62 rowErr Tryd.underlying84 Tryd.underlying86 rfl rfl Tryd.underlying9 cellsErr cellsStr
  obtain ⟨a3, s3, hv3, _⟩ := laid_sentinel h.tail.tail.tail.tail gSyntax tSyntax Tryd.underlying62 rowErr Tryd.underlying84 Tryd.underlying86 rfl rfl Tryd.underlying9 cellsErr cellsStr
  refine ⟨?_, ⟨_, World.var?_cell gSyntax hv3 0, .inr ⟨_, _, rfl⟩⟩, ⟨_, World.var?_cell gRange hv2 0, .inr ⟨_, _, rfl⟩⟩⟩
  exact h1.cell gBr 15 (by decide)

end Go.Proofs.YtnkkenchabcpoaaDoor
