/- More, Of, Fits: sums of pieces. -/
import Derived.Test.YtecgbnghapjfgaaDoorSumFeed
namespace Go.Proofs.YtecgbnghapjfgaaDoor.M
open Go.RowKit

theorem flat_snoc (ls : List (List UInt8)) (k : Nat) (h : k < ls.length) : (ls.take (k + 1)).flatten = (ls.take k).flatten ++ ls[k] := by
  rw [List.take_succ_eq_append_getElem h, List.flatten_append]
  simp

/-- The register that stands for a sum, and back. -/
def inv (r : Nat) : Nat := 4294967295 - r

theorem inv_xor {r : Nat} (h : r < 4294967296) : r ^^^ C.ones = inv r := by
  unfold inv
  apply Nat.eq_of_testBit_eq
  intro i
  rw [show 4294967295 - r = 2 ^ 32 - (r + 1) from by omega, Nat.testBit_two_pow_sub_succ h, Nat.testBit_xor, show C.ones = 2 ^ 32 - 1 from rfl, Nat.testBit_two_pow_sub_one]
  by_cases hi : i < 32
  · simp [hi]
  · rw [Nat.testBit_lt_two_pow (Nat.lt_of_lt_of_le h (show 2 ^ 32 ≤ 2 ^ i from Nat.pow_le_pow_right (by omega) (by omega)))]
    simp [hi]

theorem inv_lt (r : Nat) : inv r < 4294967296 := by unfold inv; omega

theorem inv_inv {r : Nat} (h : r < 4294967296) : inv (inv r) = r := by unfold inv; omega

theorem u32_not (r : Nat) (h : r < 4294967296) : bits .xor .u32 IntKind.u32.max (r : Int) = (inv r : Int) := by
  have := u32_x 4294967295 r (by decide) h
  rw [Nat.xor_comm, show (4294967295 : Nat) = C.ones from rfl, inv_xor h] at this
  exact this

def moreOf (s : Nat) (l : List UInt8) : Nat := inv (C.lead (inv s) l)

set_option maxHeartbeats 800000 in
theorem More_any (s : Nat) (ls : List (List UInt8)) (F : Nat → Prop) (v : Value) (w : World) (hs : Hid (s < 4294967296)) (hv : RepBl w F ls v) (ht : Hid (Tab w)) :
    Calls Tryd.prog 10 #[.int .u32 (s : Int), v] w fun e w' => e = .returned (.int .u32 (moreOf s ls.flatten : Int)) ∧ w = w' := by
  obtain ⟨a, c, rfl, hl⟩ := hv.slice
  have HV := Lib.hid hv
  clear hv
  have e1 := u32_not s hs.out
  go_enter Tryd.func10, Tryd.ntmps10
  go_wp2_with fail
  clear e1
  go_loop [5, 12] (fun x i => ∃ (k : Nat), k ≤ ls.length ∧ x = .int .u32 (C.lead (inv s) (ls.take k).flatten : Int) ∧ i = .int .i64 (k : Int)) (fun _ i => ls.length - (intOf i).toNat)
  case atStart => exact ⟨0, Nat.zero_le _, rfl, rfl⟩
  case round =>
    obtain ⟨k, hk, rfl, rfl⟩ := hrel
    have hR : C.lead (inv s) (ls.take k).flatten < 4294967296 := C.lead_lt _ (inv_lt s)
    by_cases hlt : k < ls.length
    · have HS : Hid (C.lead (inv s) (ls.take (k + 1)).flatten = C.lead (C.lead (inv s) (ls.take k).flatten) ls[k]) := Lib.hid (by rw [flat_snoc ls k hlt, C.lead_append])
      obtain ⟨b, off, u, rfl, -, hcell, hu⟩ := HV.out.elem k hlt
      have hkk : (k : Int) < (ls.length : Int) := by omega
      generalize hRe : C.lead (inv s) (ls.take k).flatten = R at *
      generalize hxe : ls[k] = x at *
      have HU := Lib.hid hu
      have HR := Lib.hid hR
      have GR := Lib.hid hRe
      have GX := Lib.hid hxe
      clear hu hRe hxe hR
      go_wp2_with (go_at_call 15; refine (feed_any R x F _ _ HR HU.out ht).mono ?_; rintro e w' ⟨rfl, rfl⟩)
      go_round
      case rel => exact ⟨k + 1, by omega, by rw [HS.out], by go_num⟩
      case measure => simp [intOf]; omega
    · have hkk : ¬ (k : Int) < (ls.length : Int) := by omega
      have HL : Hid (C.lead (inv s) (ls.take k).flatten = C.lead (inv s) ls.flatten) := Lib.hid (by rw [List.take_of_length_le (by omega)])
      have e2 := u32_not _ hR
      rw [HL.out] at e2
      rw [HL.out]
      go_wp2_with fail
      go_ret
      exact ⟨rfl, rfl⟩

theorem sum_more (l : List UInt8) : moreOf 0 l = C.sumOf l := by
  unfold moreOf C.sumOf
  rw [inv_xor (C.lead_lt _ (by decide))]
  rfl

theorem sum_lt (l : List UInt8) : C.sumOf l < 4294967296 := C.sumOf_lt l

theorem more_sum (a b : List UInt8) : moreOf (C.sumOf a) b = C.sumOf (a ++ b) := by
  unfold moreOf
  have h : inv (C.sumOf a) = C.lead C.ones a := by
    unfold C.sumOf
    rw [inv_xor (C.lead_lt _ (by decide)), inv_inv (C.lead_lt _ (by decide))]
  rw [h, ← C.lead_append, ← inv_xor (C.lead_lt _ (by decide))]
  rfl

theorem Of_any (ls : List (List UInt8)) (F : Nat → Prop) (v : Value) (w : World) (hv : RepBl w F ls v) (ht : Hid (Tab w)) :
    Calls Tryd.prog 9 #[v] w fun e w' => e = .returned (.int .u32 (C.sumOf ls.flatten : Int)) ∧ w = w' := by
  go_enter Tryd.func9, Tryd.ntmps9
  go_wp2_with (go_at_call 10; refine (More_any 0 ls F _ _ (Lib.hid (by decide)) hv ht).mono ?_; rintro e w' ⟨rfl, rfl⟩)
  go_ret
  exact ⟨by simp [sum_more], rfl⟩

theorem int_beq (a b : Nat) : ((a : Int) == (b : Int)) = decide (a = b) := by
  rw [Bool.eq_iff_iff]; simp; omega

theorem Fits_any (s : Nat) (ls : List (List UInt8)) (F : Nat → Prop) (v : Value) (w : World) (hv : RepBl w F ls v) (ht : Hid (Tab w)) :
    Calls Tryd.prog 11 #[.int .u32 (s : Int), v] w fun e w' => e = .returned (.bool (decide (C.sumOf ls.flatten = s))) ∧ w = w' := by
  go_enter Tryd.func11, Tryd.ntmps11
  go_wp2_with (go_at_call 9; refine (Of_any ls F _ _ hv ht).mono ?_; rintro e w' ⟨rfl, rfl⟩)
  go_ret
  exact ⟨by simp [int_beq], rfl⟩
end Go.Proofs.YtecgbnghapjfgaaDoor.M
