/- Arrays of four bytes compared. -/
import Derived.Test.YtbcpcopapbgcdaaGreatDoorSZ4
import Derived.Test.YtbcpcopapbgcdaaGreatDoorSZ5
import Derived.ChangeKeysEq
namespace Go.Proofs.YtbcpcopapbgcdaaGreatDoor.M
open Go.RowKit

theorem cells_u8 : Tryz.prog.cellsOf 5 = 1 := by kernel_rfl

end Go.Proofs.YtbcpcopapbgcdaaGreatDoor.M
