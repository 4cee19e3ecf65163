/- Joined texts: NumPr. Conditions: as each states. -/
import Derived.Test.YtkplokfcjjcpcaaGreatDoorRk18
import Derived.WalkKit
import Derived.Lib.Hide
namespace Go.Proofs.YtkplokfcjjcpcaaGreatDoor
open Go Go.RowKit
def Pow (w : World) : Prop := Lib.TabIs Tryz.prog w "internal/strconv.uint64pow10" .u64 Lib.pow10Tab
end Go.Proofs.YtkplokfcjjcpcaaGreatDoor
