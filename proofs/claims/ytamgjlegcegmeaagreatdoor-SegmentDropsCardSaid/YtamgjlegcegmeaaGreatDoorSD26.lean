/- step, back: one bit's step of the register, and one back. feed: a register led on by bytes, half a byte at a time, by the table. More, Of, Fits: sums of pieces. -/
import Derived.Test.YtamgjlegcegmeaaGreatDoorSD5
import Derived.Test.YtamgjlegcegmeaaGreatDoorSD10
import Derived.IntWalk
import Derived.Laws.BitsAllLaws
/- Part: SumStep. -/
namespace Go.Proofs.YtamgjlegcegmeaaGreatDoor.M
open Go.RowKit

theorem and_one (r : Nat) : r &&& 1 = r % 2 := Nat.and_one_is_mod r

theorem u32_and1 (r : Nat) (hr : r < 4294967296) : bits .and .u32 (r : Int) 1 = ((r % 2 : Nat) : Int) := by
  have := u32_and_nat r 1 hr (by decide)
  rw [and_one] at this
  exact this

theorem u32_x (a b : Nat) (ha : a < 4294967296) (hb : b < 4294967296) : bits .xor .u32 (a : Int) (b : Int) = ((a ^^^ b : Nat) : Int) := u32_xor_nat a b ha hb

theorem or_one {x : Nat} (h : x % 2 = 0) : x ||| 1 = x + 1 := by
  have := Nat.two_pow_add_eq_or_of_lt (i := 1) (b := 1) (by decide) (x / 2)
  rw [show 2 ^ 1 * (x / 2) = x from by omega] at this
  exact this.symm

/-- A step back. -/
def bnd (r : Nat) : Nat := if r / 2147483648 = 1 then (2 * (r ^^^ C.poly)) % 4294967296 + 1 else 2 * r

theorem bnd_lt {r : Nat} (h : r < 4294967296) : bnd r < 4294967296 := by
  unfold bnd; split <;> omega

theorem rnd_bnd {r : Nat} (h : r < 4294967296) : C.rnd (bnd r) = r := by
  unfold bnd
  split
  · rename_i h1
    have h2 : (r ^^^ C.poly) < 2147483648 := by
      have e : r ^^^ C.poly = (r - 2147483648) ^^^ (C.poly - 2147483648) := by
        have a1 : r = (r - 2147483648) ^^^ 2147483648 := by
          have := Nat.two_pow_add_eq_or_of_lt (i := 31) (b := r - 2147483648) (by omega) 1
          have h3 : (r - 2147483648) ^^^ 2147483648 = 2 ^ 31 * 1 ||| (r - 2147483648) := by
            apply Nat.eq_of_testBit_eq
            intro i
            rw [Nat.testBit_or, Nat.testBit_xor, show (2147483648 : Nat) = 2 ^ 31 from rfl, Nat.mul_one, Nat.testBit_two_pow]
            by_cases hi : i = 31
            · subst hi
              rw [Nat.testBit_lt_two_pow (by omega)]
              simp
            · simp [show ¬ 31 = i from fun e => hi e.symm]
          rw [h3, ← this]; omega
        have a2 : C.poly = (C.poly - 2147483648) ^^^ 2147483648 := by decide
        rw [show r ^^^ C.poly = ((r - 2147483648) ^^^ 2147483648) ^^^ ((C.poly - 2147483648) ^^^ 2147483648) from by rw [← a1, ← a2], C.xor_swap, Nat.xor_self, Nat.xor_zero]
      rw [e]
      exact Nat.xor_lt_two_pow (n := 31) (by omega) (by decide)
    unfold C.rnd
    rw [if_pos (by omega), show ((2 * (r ^^^ C.poly)) % 4294967296 + 1) / 2 = r ^^^ C.poly from by omega, Nat.xor_assoc, Nat.xor_self, Nat.xor_zero]
  · unfold C.rnd
    rw [if_neg (by omega)]
    omega

end Go.Proofs.YtamgjlegcegmeaaGreatDoor.M

/- Part: SumFeed. -/
namespace Go.Proofs.YtamgjlegcegmeaaGreatDoor.M
open Go.RowKit

def nibT : List Nat := [0, 274646895, 549293790, 820201905, 1098587580, 1361435347, 1640403810, 1905808397, 2197175160, 2460548119, 2722870694, 2987750089, 3280807620, 3553878443, 3811616794, 4084100981]

/-- The table lies in the program's variable. -/
def Tab (w : World) : Prop := 0 < w.heap.size ∧ ∀ k, k < 16 → w.cell? ⟨0, k, none⟩ = some (.int .u32 (nibT.getD k 0 : Nat))

theorem Tab.next {w w' : World} (h : Tab w) (hb : Below w.heap.size w w') : Tab w' :=
  ⟨Nat.lt_of_lt_of_le h.1 hb.size, fun k hk => (hb.cell (p := ⟨0, k, none⟩) h.1).trans (h.2 k hk)⟩

theorem nib_eq : ∀ k : Fin 16, nibT.getD k.1 0 = C.rnds 4 k.1 := by decide

theorem nib_step {x : Nat} (h : x < 4294967296) : x / 16 ^^^ nibT.getD (x % 16) 0 = C.rnds 4 x := by
  rw [nib_eq ⟨x % 16, by omega⟩]
  have e : x = (2 ^ 4 * (x / 16)) ^^^ (x % 16) := by
    have h1 := C.low_high' (x % 16) (x / 16) (by omega)
    rw [Nat.xor_comm, ← h1]; omega
  conv => rhs; rw [e]
  rw [C.rnds_xor, C.rnds_shift]

theorem lead_snoc (r : Nat) (l : List UInt8) (k : Nat) (h : k < l.length) : C.lead r (l.take (k + 1)) = C.step (C.lead r (l.take k)) l[k] := by
  rw [List.take_succ_eq_append_getElem h, C.lead_append]
  rfl

theorem and15 (x : Nat) (h : x < 4294967296) : bits .and .u32 (x : Int) 15 = ((x % 16 : Nat) : Int) := by
  have := u32_and_nat x 15 h (by decide)
  rw [show x &&& 15 = x % 16 from Nat.and_two_pow_sub_one_eq_mod x 4] at this
  exact this

set_option maxRecDepth 20000 in
set_option maxHeartbeats 800000 in
theorem feed_any (r : Nat) (L : List UInt8) (F : Nat → Prop) (v : Value) (w : World) (hr : Hid (r < 4294967296)) (hv : RepB w F L v) (ht : Hid (Tab w)) :
    Calls Tryz.prog 108 #[.int .u32 (r : Int), v] w fun e w' => e = .returned (.int .u32 (C.lead r L : Int)) ∧ w = w' := by
  obtain ⟨a, c, rfl, hl⟩ := hv.slice
  have HV := Lib.hid hv
  clear hv
  go_enter Tryz.func108, Tryz.ntmps108
  go_wp2_with fail
  go_loop [0, 9] (fun x i => ∃ (k : Nat), k ≤ L.length ∧ x = .int .u32 (C.lead r (L.take k) : Int) ∧ i = .int .i64 (k : Int)) (fun _ i => L.length - (intOf i).toNat)
  case atStart => exact ⟨0, Nat.zero_le _, rfl, rfl⟩
  case round =>
    obtain ⟨k, hk, rfl, rfl⟩ := hrel
    by_cases hlt : k < L.length
    · have HS := Lib.hid (lead_snoc r L k hlt)
      have hR : C.lead r (L.take k) < 4294967296 := C.lead_lt _ hr.out
      generalize hRe : C.lead r (L.take k) = R at *
      have hcell : ∃ b off, a = some ⟨b, off, none⟩ ∧ w.cell? ⟨b, off + k, none⟩ = some (.int .u8 (L[k].toNat : Int)) := by
        rcases HV.out with ⟨h, _⟩ | ⟨b, off, c', h, _, _, _, hc⟩
        · rw [h] at hlt; simp at hlt
        · cases h
          exact ⟨b, off, rfl, hc k hlt⟩
      obtain ⟨b, off, rfl, hcell⟩ := hcell
      generalize hbe : L[k] = x at *
      have hkk : (k : Int) < (L.length : Int) := by omega
      have hx := x.toNat_lt
      have hX1 : (R ^^^ x.toNat) < 4294967296 := Nat.xor_lt_two_pow (n := 32) hR (by omega)
      have hX2 : C.rnds 4 (R ^^^ x.toNat) < 4294967296 := C.rnds_lt 4 hX1
      have e1 : bits .xor .u32 (R : Int) (x.toNat : Int) = ((R ^^^ x.toNat : Nat) : Int) := u32_x _ _ hR (by omega)
      have HST : Hid (C.step R x = C.rnds 4 (C.rnds 4 (R ^^^ x.toNat))) := Lib.hid (C.rnds_add 4 4 (R ^^^ x.toNat))
      generalize hXe : R ^^^ x.toNat = X at *
      have e2 := and15 X hX1
      have e3 : bits .xor .u32 ((X : Int) / 16) ((nibT.getD (X % 16) 0 : Nat) : Int) = ((C.rnds 4 X : Nat) : Int) := by
        have := u32_x (X / 16) (nibT.getD (X % 16) 0) (by omega) (by rw [nib_eq ⟨X % 16, by omega⟩]; exact C.rnds_lt 4 (by show X % 16 < _; omega))
        rw [nib_step hX1] at this
        rw [← this]; simp
      have t1 := ht.out.2 (X % 16) (by omega)
      generalize hYe : C.rnds 4 X = Y at *
      have f2 := and15 Y hX2
      have f3 : bits .xor .u32 ((Y : Int) / 16) ((nibT.getD (Y % 16) 0 : Nat) : Int) = ((C.rnds 4 Y : Nat) : Int) := by
        have := u32_x (Y / 16) (nibT.getD (Y % 16) 0) (by omega) (by rw [nib_eq ⟨Y % 16, by omega⟩]; exact C.rnds_lt 4 (by show Y % 16 < _; omega))
        rw [nib_step hX2] at this
        rw [← this]; simp
      have t2 := ht.out.2 (Y % 16) (by omega)
      have hi1 : X % 16 < 16 := by omega
      have hi2 : Y % 16 < 16 := by omega
      generalize hi1e : X % 16 = i1 at *
      generalize hi2e : Y % 16 = i2 at *
      generalize nibT.getD i1 0 = n1 at *
      generalize nibT.getD i2 0 = n2 at *
      have GRe := Lib.hid hRe
      have Gbe := Lib.hid hbe
      have GXe := Lib.hid hXe
      have GYe := Lib.hid hYe
      have Gi1e := Lib.hid hi1e
      have Gi2e := Lib.hid hi2e
      clear hRe hbe hXe hYe hi1e hi2e
      go_wp2_with fail
      go_round
      case rel => exact ⟨k + 1, by omega, by rw [HS.out, HST.out], by go_num⟩
      case measure => simp [intOf]; omega
    · have hkk : ¬ (k : Int) < (L.length : Int) := by omega
      have HL : Hid (L.take k = L) := Lib.hid (List.take_of_length_le (by omega))
      go_wp2_with fail
      go_ret
      exact ⟨by simp [HL.out], rfl⟩
end Go.Proofs.YtamgjlegcegmeaaGreatDoor.M

/- Part: SumMore. -/
namespace Go.Proofs.YtamgjlegcegmeaaGreatDoor.M
open Go.RowKit

/-- The register that stands for a sum, and back. -/
def inv (r : Nat) : Nat := 4294967295 - r

theorem inv_xor {r : Nat} (h : r < 4294967296) : r ^^^ C.ones = inv r := by
  unfold inv
  apply Nat.eq_of_testBit_eq
  intro i
  rw [show 4294967295 - r = 2 ^ 32 - (r + 1) from by omega, Nat.testBit_two_pow_sub_succ h, Nat.testBit_xor, show C.ones = 2 ^ 32 - 1 from rfl, Nat.testBit_two_pow_sub_one]
  by_cases hi : i < 32
  · simp [hi]
  · rw [Nat.testBit_lt_two_pow (Nat.lt_of_lt_of_le h (show 2 ^ 32 ≤ 2 ^ i from Nat.pow_le_pow_right (by omega) (by omega)))]
    simp [hi]

theorem inv_lt (r : Nat) : inv r < 4294967296 := by unfold inv; omega

theorem inv_inv {r : Nat} (h : r < 4294967296) : inv (inv r) = r := by unfold inv; omega

theorem u32_not (r : Nat) (h : r < 4294967296) : bits .xor .u32 IntKind.u32.max (r : Int) = (inv r : Int) := by
  have := u32_x 4294967295 r (by decide) h
  rw [Nat.xor_comm, show (4294967295 : Nat) = C.ones from rfl, inv_xor h] at this
  exact this

def moreOf (s : Nat) (l : List UInt8) : Nat := inv (C.lead (inv s) l)

set_option maxRecDepth 20000 in
set_option maxHeartbeats 800000 in
theorem More_any (s : Nat) (ls : List (List UInt8)) (F : Nat → Prop) (v : Value) (w : World) (hs : Hid (s < 4294967296)) (hv : RepBl w F ls v) (ht : Hid (Tab w)) :
    Calls Tryz.prog 77 #[.int .u32 (s : Int), v] w fun e w' => e = .returned (.int .u32 (moreOf s ls.flatten : Int)) ∧ w = w' := by
  obtain ⟨a, c, rfl, hl⟩ := hv.slice
  have HV := Lib.hid hv
  clear hv
  have e1 := u32_not s hs.out
  go_enter Tryz.func77, Tryz.ntmps77
  go_wp2_with fail
  clear e1
  go_loop [5, 12] (fun x i => ∃ (k : Nat), k ≤ ls.length ∧ x = .int .u32 (C.lead (inv s) (ls.take k).flatten : Int) ∧ i = .int .i64 (k : Int)) (fun _ i => ls.length - (intOf i).toNat)
  case atStart => exact ⟨0, Nat.zero_le _, rfl, rfl⟩
  case round =>
    obtain ⟨k, hk, rfl, rfl⟩ := hrel
    have hR : C.lead (inv s) (ls.take k).flatten < 4294967296 := C.lead_lt _ (inv_lt s)
    by_cases hlt : k < ls.length
    · have HS : Hid (C.lead (inv s) (ls.take (k + 1)).flatten = C.lead (C.lead (inv s) (ls.take k).flatten) ls[k]) := Lib.hid (by rw [flat_snoc ls k hlt, C.lead_append])
      obtain ⟨b, off, u, rfl, -, hcell, hu⟩ := HV.out.elem k hlt
      have hkk : (k : Int) < (ls.length : Int) := by omega
      generalize hRe : C.lead (inv s) (ls.take k).flatten = R at *
      generalize hxe : ls[k] = x at *
      have HU := Lib.hid hu
      have HR := Lib.hid hR
      have GR := Lib.hid hRe
      have GX := Lib.hid hxe
      clear hu hRe hxe hR
      go_wp2_with (go_at_call 108; refine (feed_any R x F _ _ HR HU.out ht).mono ?_; rintro e w' ⟨rfl, rfl⟩)
      go_round
      case rel => exact ⟨k + 1, by omega, by rw [HS.out], by go_num⟩
      case measure => simp [intOf]; omega
    · have hkk : ¬ (k : Int) < (ls.length : Int) := by omega
      have HL : Hid (C.lead (inv s) (ls.take k).flatten = C.lead (inv s) ls.flatten) := Lib.hid (by rw [List.take_of_length_le (by omega)])
      have e2 := u32_not _ hR
      rw [HL.out] at e2
      rw [HL.out]
      go_wp2_with fail
      go_ret
      exact ⟨rfl, rfl⟩

theorem sum_more (l : List UInt8) : moreOf 0 l = C.sumOf l := by
  unfold moreOf C.sumOf
  rw [inv_xor (C.lead_lt _ (by decide))]
  rfl

theorem sum_lt (l : List UInt8) : C.sumOf l < 4294967296 := C.sumOf_lt l

theorem more_sum (a b : List UInt8) : moreOf (C.sumOf a) b = C.sumOf (a ++ b) := by
  unfold moreOf
  have h : inv (C.sumOf a) = C.lead C.ones a := by
    unfold C.sumOf
    rw [inv_xor (C.lead_lt _ (by decide)), inv_inv (C.lead_lt _ (by decide))]
  rw [h, ← C.lead_append, ← inv_xor (C.lead_lt _ (by decide))]
  rfl

theorem Of_any (ls : List (List UInt8)) (F : Nat → Prop) (v : Value) (w : World) (hv : RepBl w F ls v) (ht : Hid (Tab w)) :
    Calls Tryz.prog 53 #[v] w fun e w' => e = .returned (.int .u32 (C.sumOf ls.flatten : Int)) ∧ w = w' := by
  go_enter Tryz.func53, Tryz.ntmps53
  go_wp2_with (go_at_call 77; refine (More_any 0 ls F _ _ (Lib.hid (by decide)) hv ht).mono ?_; rintro e w' ⟨rfl, rfl⟩)
  go_ret
  exact ⟨by simp [sum_more], rfl⟩

theorem int_beq (a b : Nat) : ((a : Int) == (b : Int)) = decide (a = b) := by
  rw [Bool.eq_iff_iff]; simp; omega

theorem Fits_any (s : Nat) (ls : List (List UInt8)) (F : Nat → Prop) (v : Value) (w : World) (hv : RepBl w F ls v) (ht : Hid (Tab w)) :
    Calls Tryz.prog 103 #[.int .u32 (s : Int), v] w fun e w' => e = .returned (.bool (decide (C.sumOf ls.flatten = s))) ∧ w = w' := by
  go_enter Tryz.func103, Tryz.ntmps103
  go_wp2_with (go_at_call 53; refine (Of_any ls F _ _ hv ht).mono ?_; rintro e w' ⟨rfl, rfl⟩)
  go_ret
  exact ⟨by simp [int_beq], rfl⟩
end Go.Proofs.YtamgjlegcegmeaaGreatDoor.M
