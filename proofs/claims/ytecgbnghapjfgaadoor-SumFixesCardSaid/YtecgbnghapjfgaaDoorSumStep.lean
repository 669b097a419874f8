/- step, back: one bit's step of the register, and one back. -/
import Derived.Test.YtecgbnghapjfgaaDoorBytes
import Derived.Test.YtecgbnghapjfgaaDoorSumPure
import Derived.IntWalk
import Derived.Laws.BitsAllLaws
namespace Go.Proofs.YtecgbnghapjfgaaDoor.M
open Go.RowKit

theorem and_one (r : Nat) : r &&& 1 = r % 2 := Nat.and_one_is_mod r

theorem u32_and1 (r : Nat) (hr : r < 4294967296) : bits .and .u32 (r : Int) 1 = ((r % 2 : Nat) : Int) := by
  have := u32_and_nat r 1 hr (by decide)
  rw [and_one] at this
  exact this

theorem u32_x (a b : Nat) (ha : a < 4294967296) (hb : b < 4294967296) : bits .xor .u32 (a : Int) (b : Int) = ((a ^^^ b : Nat) : Int) := u32_xor_nat a b ha hb

theorem or_one {x : Nat} (h : x % 2 = 0) : x ||| 1 = x + 1 := by
  have := Nat.two_pow_add_eq_or_of_lt (i := 1) (b := 1) (by decide) (x / 2)
  rw [show 2 ^ 1 * (x / 2) = x from by omega] at this
  exact this.symm

/-- A step back. -/
def bnd (r : Nat) : Nat := if r / 2147483648 = 1 then (2 * (r ^^^ C.poly)) % 4294967296 + 1 else 2 * r

theorem bnd_lt {r : Nat} (h : r < 4294967296) : bnd r < 4294967296 := by
  unfold bnd; split <;> omega

theorem rnd_bnd {r : Nat} (h : r < 4294967296) : C.rnd (bnd r) = r := by
  unfold bnd
  split
  · rename_i h1
    have h2 : (r ^^^ C.poly) < 2147483648 := by
      have e : r ^^^ C.poly = (r - 2147483648) ^^^ (C.poly - 2147483648) := by
        have a1 : r = (r - 2147483648) ^^^ 2147483648 := by
          have := Nat.two_pow_add_eq_or_of_lt (i := 31) (b := r - 2147483648) (by omega) 1
          have h3 : (r - 2147483648) ^^^ 2147483648 = 2 ^ 31 * 1 ||| (r - 2147483648) := by
            apply Nat.eq_of_testBit_eq
            intro i
            rw [Nat.testBit_or, Nat.testBit_xor, show (2147483648 : Nat) = 2 ^ 31 from rfl, Nat.mul_one, Nat.testBit_two_pow]
            by_cases hi : i = 31
            · subst hi
              rw [Nat.testBit_lt_two_pow (by omega)]
              simp
            · simp [show ¬ 31 = i from fun e => hi e.symm]
          rw [h3, ← this]; omega
        have a2 : C.poly = (C.poly - 2147483648) ^^^ 2147483648 := by decide
        rw [show r ^^^ C.poly = ((r - 2147483648) ^^^ 2147483648) ^^^ ((C.poly - 2147483648) ^^^ 2147483648) from by rw [← a1, ← a2], C.xor_swap, Nat.xor_self, Nat.xor_zero]
      rw [e]
      exact Nat.xor_lt_two_pow (n := 31) (by omega) (by decide)
    unfold C.rnd
    rw [if_pos (by omega), show ((2 * (r ^^^ C.poly)) % 4294967296 + 1) / 2 = r ^^^ C.poly from by omega, Nat.xor_assoc, Nat.xor_self, Nat.xor_zero]
  · unfold C.rnd
    rw [if_neg (by omega)]
    omega

set_option maxHeartbeats 400000 in
theorem step_any (r : Nat) (w : World) (hr : Hid (r < 4294967296)) :
    Calls Tryd.prog 21 #[.int .u32 (r : Int)] w fun e w' => e = .returned (.int .u32 (C.rnd r : Int)) ∧ w = w' := by
  have hrl : (r : Int) < 4294967296 := by have := hr.out; omega
  by_cases h1 : r % 2 = 1
  · have e1 : bits .and .u32 (r : Int) 1 = 1 := by rw [u32_and1 r hr.out, h1]; rfl
    have e2 : bits .xor .u32 ((r : Int) / 2) 2197175160 = (C.rnd r : Int) := by
      have := u32_x (r / 2) C.poly (by have := hr.out; omega) (by decide)
      unfold C.rnd
      rw [if_pos h1, ← this]
      simp [C.poly]
    have H1 := Lib.hid h1
    clear h1
    go_enter Tryd.func21, Tryd.ntmps21
    go_wp2_with fail
    go_ret
    exact ⟨rfl, rfl⟩
  · have e1 : bits .and .u32 (r : Int) 1 = 0 := by rw [u32_and1 r hr.out, show r % 2 = 0 by omega]; rfl
    have H2 : Hid (((r : Int) / 2) = (C.rnd r : Int)) := Lib.hid (by unfold C.rnd; rw [if_neg h1]; simp)
    have H1 := Lib.hid h1
    clear h1
    go_enter Tryd.func21, Tryd.ntmps21
    go_wp2_with fail
    go_ret
    exact ⟨by simp [H2.out], rfl⟩

set_option maxHeartbeats 400000 in
theorem back_any (r : Nat) (w : World) (hr : Hid (r < 4294967296)) :
    Calls Tryd.prog 16 #[.int .u32 (r : Int)] w fun e w' => e = .returned (.int .u32 (bnd r : Int)) ∧ w = w' := by
  have hrl : (r : Int) < 4294967296 := by have := hr.out; omega
  by_cases h1 : r / 2147483648 = 1
  · have e0 : (r : Int) / 2147483648 = 1 := by omega
    have e1 : bits .xor .u32 (r : Int) 2197175160 = ((r ^^^ C.poly : Nat) : Int) := by
      exact u32_x r C.poly hr.out (by decide)
    have e2 : bits .or .u32 (((r ^^^ C.poly : Nat) : Int) * 2 % 4294967296) 1 = (bnd r : Int) := by
      have h := u32_or_nat ((r ^^^ C.poly) * 2 % 4294967296) 1 (by omega) (by decide)
      rw [or_one (by omega), Nat.mul_comm] at h
      unfold bnd
      rw [if_pos h1, ← h]
      simp [Int.mul_comm]
    have H1 := Lib.hid h1
    clear h1
    go_enter Tryd.func16, Tryd.ntmps16
    go_wp2_with fail
    go_ret
    exact ⟨rfl, rfl⟩
  · have e0 : ((r : Int) / 2147483648 == 1) = false := by simp; omega
    have H2 : Hid ((r : Int) * 2 = (bnd r : Int)) := Lib.hid (by unfold bnd; rw [if_neg h1]; omega)
    have H1 := Lib.hid h1
    clear h1
    go_enter Tryd.func16, Tryd.ntmps16
    go_wp2_with fail
    go_ret
    exact ⟨by simp [H2.out]; have := bnd_lt hr.out; omega, rfl⟩
end Go.Proofs.YtecgbnghapjfgaaDoor.M
