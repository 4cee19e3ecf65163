/- Joined texts: ShelfB. Conditions: as each states. -/
import Derived.Test.YtkplokfcjjcpcaaGreatDoorPk01
import Derived.Shelf.Strconv.Itoa1
import Derived.Shelf.Strconv.Itoa2
import Derived.Shelf.Strconv.Itoa3
import Derived.Shelf.Strconv.Itoa4
namespace Go.Proofs
open Go.Shelf
end Go.Proofs
