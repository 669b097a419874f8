/- The document's Step and Of. -/
import Derived.Test.YtamgjlegcegmeaaGreatDoorSD26
namespace Go.Proofs.YtamgjlegcegmeaaGreatDoor.M
open Go.RowKit

theorem rnds_snoc (k r : Nat) : C.rnds (k + 1) r = C.rnd (C.rnds k r) := C.rnds_add 1 k r

theorem u64_x (a b : Nat) (ha : a < 4294967296) (hb : b < 4294967296) : bits .xor .u64 (a : Int) (b : Int) = ((a ^^^ b : Nat) : Int) := u64_xor_nat a b (by omega) (by omega)

end Go.Proofs.YtamgjlegcegmeaaGreatDoor.M
