/- Joined texts: ReadIntsR. Conditions: as each states. -/
import Derived.Test.YtkplokfcjjcpcaaGreatDoorPk33
namespace Go.Proofs.YtkplokfcjjcpcaaGreatDoor
open Go
set_option maxRecDepth 100000 in
set_option maxHeartbeats 16000000 in
theorem readInts_closed : joinedFacts Tryz.prog 7 Tryz.f7 Rows.readIntsSpec Rows.readIntsRow = true := by
  unfold joinedFacts
  repeat' with_reducible refine (Bool.and_eq_true_iff.2 ⟨?_, ?_⟩)
  all_goals as_aux_lemma => kernel_rfl
end Go.Proofs.YtkplokfcjjcpcaaGreatDoor
