/- Joined texts: ReadBehindW. Conditions: as each states. -/
import Derived.Test.YtkplokfcjjcpcaaGreatDoorQk36
import Derived.Test.YtkplokfcjjcpcaaGreatDoorQk40
namespace Go.Proofs.YtkplokfcjjcpcaaGreatDoor
open Go Go.ChangeShapes Go.WideShapes Go.ChangeAt Go.WideMaps Go.WideElems Go.RowKit
open Go.ChangeMaps (open_string shut_string)
theorem readBehind_row : Rows.ReadBehindSaid :=
  OpenClaim.holds_of_wide 4 Tryz.f4 rfl rfl rfl rfl rfl rfl rfl ⟨rfl, rfl, rfl, rfl, rfl⟩ rfl rfl rfl rfl rfl (by kernel_rfl) Tryz.func4 readBehind_closed
    (of_decide_eq_true (by kernel_rfl)) (by unfold Func.isWrapper; first | (rw [if_pos (by decide +kernel)]; kernel_rfl) | (rw [if_neg (by decide +kernel)]; exact ⟨rfl, rfl⟩))
    (fun os started H enc _ => readBehind_lifted os started H enc)
end Go.Proofs.YtkplokfcjjcpcaaGreatDoor
