/- Fix: four bytes for a sum. -/
import Derived.Test.YtecgbnghapjfgaaDoorSumMore
namespace Go.Proofs.YtecgbnghapjfgaaDoor.M
open Go.RowKit

def bnds : Nat → Nat → Nat
  | 0, r => r
  | k + 1, r => bnd (bnds k r)

theorem bnds_lt : ∀ (k : Nat) {r : Nat}, r < 4294967296 → bnds k r < 4294967296
  | 0, _, h => h
  | k + 1, _, h => bnd_lt (bnds_lt k h)

theorem rnds_bnds : ∀ (k : Nat) {r : Nat}, r < 4294967296 → C.rnds k (bnds k r) = r
  | 0, _, _ => rfl
  | k + 1, r, h => by
    show C.rnds k (C.rnd (bnd (bnds k r))) = r
    rw [rnd_bnd (bnds_lt k h)]
    exact rnds_bnds k h

/-- The number whose four bytes Fix answers. -/
def fixN (s t : Nat) : Nat := bnds 32 (inv t) ^^^ inv s

theorem fixN_lt (s t : Nat) : fixN s t < 4294967296 := Nat.xor_lt_two_pow (n := 32) (bnds_lt 32 (inv_lt t)) (inv_lt s)

/-- Its four bytes, as values. -/
def fixV (n : Nat) : Value := .agg #[.int .u8 ((n : Int) % 256), .int .u8 ((n : Int) / 256 % 256), .int .u8 ((n : Int) / 65536 % 256), .int .u8 ((n : Int) / 16777216)]

/-- The row of four bytes, k of them laid. -/
def fixRow (n : Nat) (k : Nat) : Array Value := #[.int .u8 (if 0 < k then (n : Int) % 256 else 0), .int .u8 (if 1 < k then (n : Int) / 256 % 256 else 0), .int .u8 (if 2 < k then (n : Int) / 65536 % 256 else 0), .int .u8 (if 3 < k then (n : Int) / 16777216 else 0)]

def FixAt (w : World) (n k : Nat) (wr : World) : Prop := k ≤ 4 ∧ wr = (w.alloc (.cells (fixRow n 0) 30)).alloc (.cells (fixRow n k) 30)

set_option maxHeartbeats 800000 in
theorem Fix_any (s t : Nat) (w : World) (hs : Hid (s < 4294967296)) (ht : Hid (t < 4294967296)) :
    Calls Tryd.prog 12 #[.int .u32 (s : Int), .int .u32 (t : Int)] w fun e w' => e = .returned (fixV (fixN s t)) ∧ Below w.heap.size w w' := by
  have e1 := u32_not t ht.out
  go_enter Tryd.func12, Tryd.ntmps12
  go_wp2_with fail
  clear e1
  go_loop [5, 10] (fun x i => ∃ (k : Nat), k ≤ 32 ∧ x = .int .u32 (bnds k (inv t) : Int) ∧ i = .int .i64 (k : Int)) (fun _ i => 32 - (intOf i).toNat)
  case atStart => exact ⟨0, Nat.zero_le _, rfl, rfl⟩
  case round =>
    obtain ⟨k, hk, rfl, rfl⟩ := hrel
    by_cases hlt : k < 32
    · have hkk : (k : Int) < 32 := by omega
      have HB : Hid (bnds k (inv t) < 4294967296) := Lib.hid (bnds_lt k (inv_lt t))
      have HN : Hid (bnds (k + 1) (inv t) = bnd (bnds k (inv t))) := Lib.hid rfl
      generalize bnds k (inv t) = R at *
      go_wp2_with (go_at_call 16; refine (back_any R _ HB).mono ?_; rintro e w' ⟨rfl, rfl⟩)
      go_round
      case rel => exact ⟨k + 1, by omega, by rw [HN.out], by go_num⟩
      case measure => simp [intOf]; omega
    · have hkk : ¬ (k : Int) < 32 := by omega
      obtain rfl : k = 32 := by omega
      have e1 := u32_not s hs.out
      have e2 : bits .xor .u32 (bnds 32 (inv t) : Int) (inv s : Int) = (fixN s t : Int) := u32_x _ _ (bnds_lt 32 (inv_lt t)) (inv_lt s)
      have hN := fixN_lt s t
      generalize hNe : fixN s t = N at *
      have HNE := Lib.hid hNe
      clear hNe
      generalize bnds 32 (inv t) = R at *
      generalize inv s = S at *
      have hN2 : (N : Int) < 4294967296 := by omega
      go_wp2_with fail
      clear e1 e2
      have HZ : Hid (fixRow N 0 = #[.int .u8 0, .int .u8 0, .int .u8 0, .int .u8 0]) := Lib.hid rfl
      rw [← HZ.out]
      go_loopw [7, 19] (fun _ i wr => ∃ (k : Nat), i = .int .i64 (k : Int) ∧ FixAt w N k wr) (fun _ i _ => 4 - (intOf i).toNat)
      case atStart => exact ⟨0, rfl, by omega, rfl⟩
      case round =>
        obtain ⟨k, rfl, hk4, rfl⟩ := hrel
        rcases (show k = 0 ∨ k = 1 ∨ k = 2 ∨ k = 3 ∨ k = 4 by omega) with rfl | rfl | rfl | rfl | rfl
        · rw [show fixRow N 0 = #[.int .u8 0, .int .u8 0, .int .u8 0, .int .u8 0] from rfl]
          go_wp2_with fail
          go_roundw
          case rel => exact ⟨1, rfl, by omega, rfl⟩
          case measure => simp [intOf]
        · rw [show fixRow N 0 = #[.int .u8 0, .int .u8 0, .int .u8 0, .int .u8 0] from rfl, show fixRow N 1 = #[.int .u8 ((N : Int) % 256), .int .u8 0, .int .u8 0, .int .u8 0] from rfl]
          go_wp2_with fail
          go_roundw
          case rel => exact ⟨2, rfl, by omega, rfl⟩
          case measure => simp [intOf]
        · rw [show fixRow N 0 = #[.int .u8 0, .int .u8 0, .int .u8 0, .int .u8 0] from rfl, show fixRow N 2 = #[.int .u8 ((N : Int) % 256), .int .u8 ((N : Int) / 256 % 256), .int .u8 0, .int .u8 0] from rfl]
          go_wp2_with fail
          go_roundw
          case rel => exact ⟨3, rfl, by omega, rfl⟩
          case measure => simp [intOf]
        · rw [show fixRow N 0 = #[.int .u8 0, .int .u8 0, .int .u8 0, .int .u8 0] from rfl, show fixRow N 3 = #[.int .u8 ((N : Int) % 256), .int .u8 ((N : Int) / 256 % 256), .int .u8 ((N : Int) / 65536 % 256), .int .u8 0] from rfl]
          go_wp2_with fail
          go_roundw
          case rel => exact ⟨4, rfl, by omega, rfl⟩
          case measure => simp [intOf]
        · rw [show fixRow N 0 = #[.int .u8 0, .int .u8 0, .int .u8 0, .int .u8 0] from rfl, show fixRow N 4 = #[.int .u8 ((N : Int) % 256), .int .u8 ((N : Int) / 256 % 256), .int .u8 ((N : Int) / 65536 % 256), .int .u8 ((N : Int) / 16777216)] from rfl]
          go_wp2_with fail
          refine bodyPost_ret (v := fixV N) (by simp [results, Tryd.results12, go_sem, fixV]) rfl ⟨by rw [HNE.out], ?_⟩
          exact (below_alloc _ _).alloc (by simp) _

def fixL (n : Nat) : List UInt8 := [UInt8.ofNat (n % 256), UInt8.ofNat (n / 256 % 256), UInt8.ofNat (n / 65536 % 256), UInt8.ofNat (n / 16777216)]

theorem ofNat_to {n : Nat} (h : n < 256) : (UInt8.ofNat n).toNat = n := UInt8.toNat_ofNat_of_lt' (by show n < 256; omega)

theorem num_fixL {n : Nat} (h : n < 4294967296) : C.num (fixL n) = n := by
  simp only [fixL, C.num]
  rw [ofNat_to (by omega), ofNat_to (by omega), ofNat_to (by omega), ofNat_to (by omega)]
  omega

theorem fixV_eq {n : Nat} (h : n < 4294967296) : fixV n = .agg ((fixL n).map byteV).toArray := by
  unfold fixV fixL byteV
  simp only [List.map_cons, List.map_nil]
  rw [ofNat_to (by omega), ofNat_to (by omega), ofNat_to (by omega), ofNat_to (by omega)]
  simp

theorem fix_sum (a : List UInt8) {t : Nat} (ht : t < 4294967296) : C.sumOf (a ++ fixL (fixN (C.sumOf a) t)) = t := by
  have hR := C.lead_lt a (show C.ones < 4294967296 by decide)
  have h1 : inv (C.sumOf a) = C.lead C.ones a := by
    unfold C.sumOf
    rw [inv_xor hR, inv_inv hR]
  unfold C.sumOf
  rw [C.lead_append, C.lead_num, num_fixL (fixN_lt _ _)]
  have h2 : C.lead C.ones a ^^^ fixN (C.sumOf a) t = bnds 32 (inv t) := by
    unfold fixN
    rw [h1, Nat.xor_comm (bnds 32 (inv t)), ← Nat.xor_assoc, Nat.xor_self, Nat.zero_xor]
  unfold C.sumOf at h2
  rw [h2, show 8 * (fixL _).length = 32 from rfl, rnds_bnds 32 (inv_lt t), inv_xor (inv_lt t), inv_inv ht]
end Go.Proofs.YtecgbnghapjfgaaDoor.M
