/- Numbers and their forms: there and back. -/
import Derived.Test.YtdngfbljcmbniaaTM30
namespace Go.Proofs.Ytdngfbljcmbniaa.M
open Go.RowKit

theorem fold_dig : ∀ (k n : Nat), n < 256 ^ k → fold256 (dig k n) = n
  | 0, n, h => by
    obtain rfl : n = 0 := by simpa using h
    rfl
  | k + 1, n, h => by
    rw [dig]
    by_cases h0 : n = 0
    · rw [if_pos h0, h0]; rfl
    · rw [if_neg h0, fold256_snoc, fold_dig k (n / 256) (by rw [Nat.div_lt_iff_lt_mul (by omega), ← Nat.pow_succ]; exact h), UInt8.toNat_ofNat_of_lt' (by show _ < 256; omega)]
      omega

theorem dig_head : ∀ (k n : Nat), n < 256 ^ k → (dig k n).head? ≠ some 0
  | 0, n, h => by simp [dig]
  | k + 1, n, h => by
    rw [dig]
    by_cases h0 : n = 0
    · rw [if_pos h0]; simp
    · rw [if_neg h0]
      by_cases h1 : n / 256 = 0
      · rw [h1, dig_zero']
        simp only [List.nil_append, List.head?_cons, ne_eq, Option.some.injEq]
        intro h2
        have := congrArg UInt8.toNat h2
        rw [UInt8.toNat_ofNat_of_lt' (by show _ < 256; omega)] at this
        simp at this
        omega
      · have h2 := dig_head k (n / 256) (by rw [Nat.div_lt_iff_lt_mul (by omega), ← Nat.pow_succ]; exact h)
        have h3 : dig k (n / 256) ≠ [] := by
          cases k with
          | zero => simp at h; omega
          | succ k => rw [dig, if_neg h1]; simp
        cases hd : dig k (n / 256) with
        | nil => exact absurd hd h3
        | cons c t => rw [hd] at h2; simpa using h2
where
  dig_zero' {k : Nat} : dig k 0 = [] := by cases k <;> simp [dig]

theorem num_len8 (n : Nat) : (UInt8.ofNat (dig 8 n).length).toNat = (dig 8 n).length := by
  have := dig_fuel 8 n
  exact UInt8.toNat_ofNat_of_lt' (by show _ < 256; omega)

/-- A number's form is read back. -/
theorem take_num (n : Nat) (r : List UInt8) (h : n < 18446744073709551616) : takeNum (num n ++ r) = .ok (n, r) := by
  have h8 := dig_fuel 8 n
  have hl := num_len8 n
  have hh := dig_head 8 n (by omega)
  have hf := fold_dig 8 n (by omega)
  rw [num, List.cons_append, takeNum, hl, if_neg (by omega)]
  rw [if_neg, if_neg (by simp), List.take_left, List.drop_left]
  · exact congrArg (fun x => Except.ok (x, r)) hf
  · rintro ⟨h0, h1⟩
    cases hd : dig 8 n with
    | nil => rw [hd] at h0; simp at h0
    | cons c t => rw [hd] at h1 hh; simp at h1 hh; exact hh h1

theorem put_num (n : Nat) : putAll [110] [.mk n [] []] = .ok (num n) := by
  unfold putAll
  rw [show shape [110] = some .num from by kernel_rfl]
  simp [isV, putV, V.n]

theorem takeAt_num (n : Nat) (h : n < 18446744073709551616) : takeAt [110] (num n) = .ok (.mk n [] []) := by
  unfold takeAt
  rw [show shape [110] = some .num from by kernel_rfl]
  have := take_num n [] h
  rw [List.append_nil] at this
  simp [takeV, this]

theorem takeAt_long (n : Nat) : takeAt [110] ([UInt8.ofNat ((dig 8 n).length + 1), 0] ++ dig 8 n) = .error 13 := by
  have h8 := dig_fuel 8 n
  unfold takeAt
  rw [show shape [110] = some .num from by kernel_rfl]
  have hl : (UInt8.ofNat ((dig 8 n).length + 1)).toNat = (dig 8 n).length + 1 := UInt8.toNat_ofNat_of_lt' (by show _ < 256; omega)
  have : takeNum ([UInt8.ofNat ((dig 8 n).length + 1), 0] ++ dig 8 n) = .error 13 := by
    rw [List.cons_append, takeNum, hl]
    split
    · rfl
    · rw [if_pos ⟨by omega, by simp⟩]
  simp only [takeV, this]

theorem blen_mono {a b : Nat} (h : a ≤ b) : blen a ≤ blen b := by
  rw [blen_le]
  have := (blen_le b (blen b)).1 (Nat.le_refl _)
  omega

theorem num_longer {a b : Nat} (ha : a < 18446744073709551616) (hb : b < 18446744073709551616) (h : (num a).length < (num b).length) : a < b := by
  rcases Nat.lt_or_ge a b with h1 | h1
  · exact h1
  · have := blen_mono h1
    simp only [num, List.length_cons, dig_length 8 a (by omega), dig_length 8 b (by omega)] at h
    omega
end Go.Proofs.Ytdngfbljcmbniaa.M
