/- Arrays of four bytes compared. -/
import Derived.Test.YtamgjlegcegmeaaGreatDoorSD4
import Derived.Test.YtamgjlegcegmeaaGreatDoorSD5
import Derived.ChangeKeysEq
namespace Go.Proofs.YtamgjlegcegmeaaGreatDoor.M
open Go.RowKit

theorem cells_u8 : Tryz.prog.cellsOf 5 = 1 := by kernel_rfl

end Go.Proofs.YtamgjlegcegmeaaGreatDoor.M
