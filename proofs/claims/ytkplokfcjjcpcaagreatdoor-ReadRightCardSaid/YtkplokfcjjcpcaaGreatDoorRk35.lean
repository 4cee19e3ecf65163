/- Joined texts: ReadRightR. Conditions: as each states. -/
import Derived.Test.YtkplokfcjjcpcaaGreatDoorRk34
import Derived.Test.YtkplokfcjjcpcaaGreatDoorRows
namespace Go.Proofs.YtkplokfcjjcpcaaGreatDoor
open Go
set_option maxRecDepth 100000 in
set_option maxHeartbeats 16000000 in
theorem readRight_closed : joinedFacts Tryz.prog 5 Tryz.f5 Rows.readRightSpec Rows.readRightRow = true := by
  unfold joinedFacts
  repeat' with_reducible refine (Bool.and_eq_true_iff.2 ⟨?_, ?_⟩)
  all_goals as_aux_lemma => kernel_rfl
end Go.Proofs.YtkplokfcjjcpcaaGreatDoor
