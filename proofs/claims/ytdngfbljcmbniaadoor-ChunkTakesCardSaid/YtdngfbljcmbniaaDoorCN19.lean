/- The document's Step and Of. -/
import Derived.Test.YtdngfbljcmbniaaDoorCN6
namespace Go.Proofs.YtdngfbljcmbniaaDoor.M
open Go.RowKit

theorem rnds_snoc (k r : Nat) : C.rnds (k + 1) r = C.rnd (C.rnds k r) := C.rnds_add 1 k r

theorem u64_x (a b : Nat) (ha : a < 4294967296) (hb : b < 4294967296) : bits .xor .u64 (a : Int) (b : Int) = ((a ^^^ b : Nat) : Int) := u64_xor_nat a b (by omega) (by omega)

set_option maxRecDepth 20000 in
set_option maxHeartbeats 800000 in
theorem Step_any (r : Nat) (c : UInt8) (w : World) (hr : Hid (r < 4294967296)) :
    Calls Tryd.prog 29 #[.int .u64 (r : Int), .int .u8 (c.toNat : Int)] w fun e w' => e = .returned (.int .u64 (C.step r c : Int)) ∧ w = w' := by
  have hc := c.toNat_lt
  have e1 : bits .xor .u64 (r : Int) (c.toNat : Int) = ((r ^^^ c.toNat : Nat) : Int) := u64_x _ _ hr.out (by omega)
  have HX : Hid ((r ^^^ c.toNat) < 4294967296) := Lib.hid (Nat.xor_lt_two_pow (n := 32) hr.out (by omega))
  have HS : Hid (C.step r c = C.rnds 8 (r ^^^ c.toNat)) := Lib.hid rfl
  generalize (r ^^^ c.toNat) = x at *
  go_enter Tryd.func29, Tryd.ntmps29
  go_wp2_with fail
  clear e1
  go_loop [0, 5] (fun y i => ∃ (k : Nat), k ≤ 8 ∧ y = .int .u64 (C.rnds k x : Int) ∧ i = .int .i64 (k : Int)) (fun _ i => 8 - (intOf i).toNat)
  case atStart => exact ⟨0, Nat.zero_le _, rfl, rfl⟩
  case round =>
    obtain ⟨k, hk, rfl, rfl⟩ := hrel
    have hR : C.rnds k x < 4294967296 := C.rnds_lt k HX.out
    have HN := Lib.hid (rnds_snoc k x)
    by_cases hlt : k < 8
    · have hkk : (k : Int) < 8 := by omega
      generalize hRe : C.rnds k x = R at *
      have GR := Lib.hid hRe
      clear hRe
      have hR1 : (R : Int) < 4294967296 := by omega
      have HR := Lib.hid hR
      clear hR
      by_cases hodd : R % 2 = 1
      · have e2 : (R : Int) % 2 = 1 := by omega
        have e3 : bits .xor .u64 ((R : Int) / 2) 2197175160 = (C.rnd R : Int) := by
          have := u64_x (R / 2) C.poly (by have := HR.out; omega) (by decide)
          unfold C.rnd
          rw [if_pos hodd, ← this]
          simp [C.poly]
        have HO := Lib.hid hodd
        clear hodd
        go_wp2_with fail
        go_round
        case rel => exact ⟨k + 1, by omega, by rw [HN.out], by go_num⟩
        case measure => simp [intOf]; omega
      · have e2 : ((R : Int) % 2 == 1) = false := by simp; omega
        have e3 : Hid ((R : Int) / 2 = (C.rnd R : Int)) := Lib.hid (by unfold C.rnd; rw [if_neg hodd]; simp)
        have HO := Lib.hid hodd
        clear hodd
        go_wp2_with fail
        go_round
        case rel => exact ⟨k + 1, by omega, by rw [HN.out, ← e3.out], by go_num⟩
        case measure => simp [intOf]; omega
    · have hkk : ¬ (k : Int) < 8 := by omega
      obtain rfl : k = 8 := by omega
      go_wp2_with fail
      go_ret
      exact ⟨by rw [HS.out]; rfl, rfl⟩

set_option maxRecDepth 20000 in
set_option maxHeartbeats 800000 in
theorem RefOf_any (L : List UInt8) (F : Nat → Prop) (v : Value) (w : World) (hv : RepB w F L v) :
    Calls Tryd.prog 23 #[v] w fun e w' => e = .returned (.int .u32 (C.sumOf L : Int)) ∧ w = w' := by
  obtain ⟨a, c, rfl, hl⟩ := hv.slice
  have HV := Lib.hid hv
  clear hv
  go_enter Tryd.func23, Tryd.ntmps23
  go_wp2_with fail
  go_loop [3, 4] (fun x i => ∃ (k : Nat), k ≤ L.length ∧ x = .int .u64 (C.lead C.ones (L.take k) : Int) ∧ i = .int .i64 (k : Int)) (fun _ i => L.length - (intOf i).toNat)
  case atStart => exact ⟨0, Nat.zero_le _, rfl, rfl⟩
  case round =>
    obtain ⟨k, hk, rfl, rfl⟩ := hrel
    have hR : C.lead C.ones (L.take k) < 4294967296 := C.lead_lt _ (by decide)
    by_cases hlt : k < L.length
    · have HS := Lib.hid (lead_snoc C.ones L k hlt)
      have hcell : ∃ b off, a = some ⟨b, off, none⟩ ∧ w.cell? ⟨b, off + k, none⟩ = some (.int .u8 (L[k].toNat : Int)) := by
        rcases HV.out with ⟨h, _⟩ | ⟨b, off, c', h, _, _, _, hc⟩
        · rw [h] at hlt; simp at hlt
        · cases h
          exact ⟨b, off, rfl, hc k hlt⟩
      obtain ⟨b, off, rfl, hcell⟩ := hcell
      generalize hRe : C.lead C.ones (L.take k) = R at *
      generalize hbe : L[k] = x at *
      have hkk : (k : Int) < (L.length : Int) := by omega
      have HR := Lib.hid hR
      have GR := Lib.hid hRe
      have GX := Lib.hid hbe
      clear hR hRe hbe
      go_wp2_with (go_at_call 29; refine (Step_any R x _ HR).mono ?_; rintro e w' ⟨rfl, rfl⟩)
      go_round
      case rel => exact ⟨k + 1, by omega, by rw [HS.out], by go_num⟩
      case measure => simp [intOf]; omega
    · have hkk : ¬ (k : Int) < (L.length : Int) := by omega
      have e1 : bits .xor .u64 (C.lead C.ones (L.take k) : Int) 4294967295 = (C.sumOf L : Int) := by
        rw [List.take_of_length_le (by omega)] at hR ⊢
        exact u64_x (C.lead C.ones L) C.ones hR (by decide)
      have hs : (C.sumOf L : Int) < 4294967296 := by have := sum_lt L; omega
      generalize C.lead C.ones (L.take k) = R at *
      go_wp2_with fail
      go_ret
      exact ⟨rfl, rfl⟩
end Go.Proofs.YtdngfbljcmbniaaDoor.M
