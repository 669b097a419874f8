/- echelonref01.Number: a number's form by definition. -/
import Derived.Test.YtamgjlegcegmeaaGreatDoorSD9
namespace Go.Proofs.YtamgjlegcegmeaaGreatDoor.M
open Go.RowKit

theorem dig_zero (k : Nat) : dig k 0 = [] := by cases k <;> simp [dig]

/-- One digit more is taken off. -/
theorem dig_next {f n : Nat} {Ls D : List UInt8} (h : D = dig (f + 1) n ++ Ls.reverse) (hn : n ≠ 0) : D = dig f (n / 256) ++ (Ls ++ [UInt8.ofNat (n % 256)]).reverse := by
  rw [h, dig, if_neg hn]
  simp

theorem rev_take {Ls : List UInt8} {j : Nat} (h0 : 0 < j) (h : j ≤ Ls.length) :
    Ls.reverse.take (Ls.length - (j - 1)) = Ls.reverse.take (Ls.length - j) ++ [Ls[j - 1]'(by omega)] := by
  rw [show Ls.length - (j - 1) = Ls.length - j + 1 from by omega, List.take_add_one, List.getElem?_reverse (by omega), show Ls.length - 1 - (Ls.length - j) = j - 1 from by omega, List.getElem?_eq_getElem (by omega)]
  rfl

end Go.Proofs.YtamgjlegcegmeaaGreatDoor.M
