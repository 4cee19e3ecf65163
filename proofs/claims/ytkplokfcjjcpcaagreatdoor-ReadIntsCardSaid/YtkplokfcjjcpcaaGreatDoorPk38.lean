/- Joined texts: ReadIntsW. Conditions: as each states. -/
import Derived.Test.YtkplokfcjjcpcaaGreatDoorPk34
import Derived.Test.YtkplokfcjjcpcaaGreatDoorPk37
namespace Go.Proofs.YtkplokfcjjcpcaaGreatDoor
open Go Go.ChangeShapes Go.WideShapes Go.ChangeAt Go.WideMaps Go.WideElems Go.RowKit
open Go.ChangeMaps (open_string shut_string)
theorem readInts_row : Rows.ReadIntsSaid :=
  OpenClaim.holds_of_wide 7 Tryz.f7 rfl rfl rfl rfl rfl rfl rfl ⟨rfl, rfl, rfl, rfl, rfl⟩ rfl rfl rfl rfl rfl (by kernel_rfl) Tryz.func7 readInts_closed
    (of_decide_eq_true (by kernel_rfl)) (by unfold Func.isWrapper; first | (rw [if_pos (by decide +kernel)]; kernel_rfl) | (rw [if_neg (by decide +kernel)]; exact ⟨rfl, rfl⟩))
    (fun os started H enc _ => readInts_lifted os started H enc)
end Go.Proofs.YtkplokfcjjcpcaaGreatDoor
