/- Decimal digits, so many of them. No program is named here. -/
import Derived.WalkKit
import Derived.Lib.AppendIntMem
namespace Go.Proofs.YtamgjlegcegmeaaGreatDoor.M
open Go.RowKit

/-- So many decimal digits. -/
def dg : Nat → Nat → List UInt8
  | 0, _ => []
  | k + 1, n => dg k (n / 10) ++ [UInt8.ofNat (48 + n % 10)]

theorem dg_zero (k : Nat) : dg k 0 = List.replicate k 48 := by
  induction k with
  | zero => rfl
  | succ k ih =>
    rw [dg, Nat.zero_div, ih, List.replicate_succ']
    rfl

theorem dg_length (k n : Nat) : (dg k n).length = k := by
  induction k generalizing n with
  | zero => rfl
  | succ k ih => rw [dg, List.length_append, ih]; rfl

theorem decDigits_pos (n : Nat) : 1 ≤ (Lib.decDigits n).length := by rw [Lib.decDigits_length]; exact Lib.nDigits_pos n

theorem dg_pad : ∀ (k n : Nat), n < 10 ^ (k + 1) → (Lib.decDigits n).length ≤ k + 1 ∧ dg (k + 1) n = List.replicate (k + 1 - (Lib.decDigits n).length) 48 ++ Lib.decDigits n
  | 0, n, h => by
    have h1 : n < 10 := by simpa using h
    rw [Lib.decDigits_one h1]
    refine ⟨by simp, ?_⟩
    simp [dg, Nat.mod_eq_of_lt h1]
  | k + 1, n, h => by
    by_cases h1 : n < 10
    · rw [Lib.decDigits_one h1]
      refine ⟨by simp, ?_⟩
      rw [dg, Nat.div_eq_of_lt h1, dg_zero, Nat.mod_eq_of_lt h1]
      rfl
    · have h2 := dg_pad k (n / 10) (by rw [Nat.pow_succ] at h; omega)
      have h3 : Lib.decDigits n = Lib.decDigits (n / 10) ++ [UInt8.ofNat (48 + n % 10)] := by rw [Lib.decDigits, dif_neg h1]
      rw [h3, dg, h2.2]
      refine ⟨by simp; exact h2.1, ?_⟩
      simp

theorem dg_get : ∀ (K n k : Nat), k < K → (dg K n)[k]? = some (UInt8.ofNat (48 + (n / 10 ^ (K - 1 - k)) % 10))
  | 0, _, _, h => by omega
  | K + 1, n, k, h => by
    unfold dg
    by_cases hk : k < K
    · rw [List.getElem?_append_left (by rw [dg_length]; exact hk), dg_get K (n / 10) k hk, Nat.div_div_eq_div_mul]
      have e : K + 1 - 1 - k = (K - 1 - k) + 1 := by omega
      rw [e, Nat.pow_succ, Nat.mul_comm]
    · obtain rfl : k = K := by omega
      rw [List.getElem?_append_right (by rw [dg_length]; omega), dg_length]
      simp
end Go.Proofs.YtamgjlegcegmeaaGreatDoor.M
