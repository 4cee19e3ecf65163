/- Joined texts: ReadIntsP. Conditions: as each states. -/
import Derived.Test.YtkplokfcjjcpcaaGreatDoorPk38
import Derived.Test.YtkplokfcjjcpcaaGreatDoorCards
namespace Go.Proofs.YtkplokfcjjcpcaaGreatDoor
open Go Go.ChangeShapes Go.WideShapes Go.ChangeAt Go.WideMaps Go.WideElems Go.RowKit
open Go.ChangeMaps (open_string shut_string)
theorem readInts_holds : Rows.ReadIntsCardSaid :=
  Claim7.holds_tied_plain_at .later [] [.data, .data, .data, .sentinel, .sentinel, .listed, .data, .data] true Rows.readIntsCard.stood.harness true
    readInts_row (fun _ h => by cases h) (by kernel_rfl) (fun _ h => by cases h) readInts_row_tie rfl ⟨rfl, rfl⟩ (by kernel_rfl) rfl
    (fun f fn hf hfn => by
      obtain rfl : f = 7 := Option.some.inj ((show Tryz.prog.funcNamed Rows.readIntsRow.func = some 7 by kernel_rfl).symm.trans hf) |>.symm
      obtain rfl : fn = Tryz.f7 := (Option.some.inj (Tryz.func7.symm.trans hfn)).symm
      exact ⟨by kernel_rfl, fun j t ht => by
        rw [Tryz.params7] at ht
        have hm : t ∈ [2] := by simpa using Array.mem_of_getElem? ht
        have hall : ([2].all fun u => !Tryz.prog.wantsStandIn u) = true := by kernel_rfl
        exact (show Tryz.prog.wantsStandIn t = false by simpa using List.all_eq_true.1 hall t hm)⟩)
    (by kernel_rfl)
#print axioms readInts_holds
end Go.Proofs.YtkplokfcjjcpcaaGreatDoor
