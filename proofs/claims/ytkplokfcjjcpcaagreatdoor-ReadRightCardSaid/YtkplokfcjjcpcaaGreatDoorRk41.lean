/- Joined texts: ReadRightW. Conditions: as each states. -/
import Derived.Test.YtkplokfcjjcpcaaGreatDoorRk35
import Derived.Test.YtkplokfcjjcpcaaGreatDoorRk40
namespace Go.Proofs.YtkplokfcjjcpcaaGreatDoor
open Go Go.ChangeShapes Go.WideShapes Go.ChangeAt Go.WideMaps Go.WideElems Go.RowKit
open Go.ChangeMaps (open_string shut_string)
theorem readRight_row : Rows.ReadRightSaid :=
  OpenClaim.holds_of_wide 5 Tryz.f5 rfl rfl rfl rfl rfl rfl rfl ⟨rfl, rfl, rfl, rfl, rfl⟩ rfl rfl rfl rfl rfl (by kernel_rfl) Tryz.func5 readRight_closed
    (of_decide_eq_true (by kernel_rfl)) (by unfold Func.isWrapper; first | (rw [if_pos (by decide +kernel)]; kernel_rfl) | (rw [if_neg (by decide +kernel)]; exact ⟨rfl, rfl⟩))
    (fun os started H enc _ => readRight_lifted os started H enc)
end Go.Proofs.YtkplokfcjjcpcaaGreatDoor
