/- feed: a register led on by bytes, half a byte at a time, by the table. -/
import Derived.Test.YtecgbnghapjfgaaDoorSumStep
namespace Go.Proofs.YtecgbnghapjfgaaDoor.M
open Go.RowKit

def nibT : List Nat := [0, 274646895, 549293790, 820201905, 1098587580, 1361435347, 1640403810, 1905808397, 2197175160, 2460548119, 2722870694, 2987750089, 3280807620, 3553878443, 3811616794, 4084100981]

/-- The table lies in the program's variable. -/
def Tab (w : World) : Prop := 0 < w.heap.size ∧ ∀ k, k < 16 → w.cell? ⟨0, k, none⟩ = some (.int .u32 (nibT.getD k 0 : Nat))

theorem Tab.next {w w' : World} (h : Tab w) (hb : Below w.heap.size w w') : Tab w' :=
  ⟨Nat.lt_of_lt_of_le h.1 hb.size, fun k hk => (hb.cell (p := ⟨0, k, none⟩) h.1).trans (h.2 k hk)⟩

theorem nib_eq : ∀ k : Fin 16, nibT.getD k.1 0 = C.rnds 4 k.1 := by decide

theorem nib_step {x : Nat} (h : x < 4294967296) : x / 16 ^^^ nibT.getD (x % 16) 0 = C.rnds 4 x := by
  rw [nib_eq ⟨x % 16, by omega⟩]
  have e : x = (2 ^ 4 * (x / 16)) ^^^ (x % 16) := by
    have h1 := C.low_high' (x % 16) (x / 16) (by omega)
    rw [Nat.xor_comm, ← h1]; omega
  conv => rhs; rw [e]
  rw [C.rnds_xor, C.rnds_shift]

theorem lead_snoc (r : Nat) (l : List UInt8) (k : Nat) (h : k < l.length) : C.lead r (l.take (k + 1)) = C.step (C.lead r (l.take k)) l[k] := by
  rw [List.take_succ_eq_append_getElem h, C.lead_append]
  rfl

theorem and15 (x : Nat) (h : x < 4294967296) : bits .and .u32 (x : Int) 15 = ((x % 16 : Nat) : Int) := by
  have := u32_and_nat x 15 h (by decide)
  rw [show x &&& 15 = x % 16 from Nat.and_two_pow_sub_one_eq_mod x 4] at this
  exact this

set_option maxHeartbeats 800000 in
theorem feed_any (r : Nat) (L : List UInt8) (F : Nat → Prop) (v : Value) (w : World) (hr : Hid (r < 4294967296)) (hv : RepB w F L v) (ht : Hid (Tab w)) :
    Calls Tryd.prog 15 #[.int .u32 (r : Int), v] w fun e w' => e = .returned (.int .u32 (C.lead r L : Int)) ∧ w = w' := by
  obtain ⟨a, c, rfl, hl⟩ := hv.slice
  have HV := Lib.hid hv
  clear hv
  go_enter Tryd.func15, Tryd.ntmps15
  go_wp2_with fail
  go_loop [0, 9] (fun x i => ∃ (k : Nat), k ≤ L.length ∧ x = .int .u32 (C.lead r (L.take k) : Int) ∧ i = .int .i64 (k : Int)) (fun _ i => L.length - (intOf i).toNat)
  case atStart => exact ⟨0, Nat.zero_le _, rfl, rfl⟩
  case round =>
    obtain ⟨k, hk, rfl, rfl⟩ := hrel
    by_cases hlt : k < L.length
    · have HS := Lib.hid (lead_snoc r L k hlt)
      have hR : C.lead r (L.take k) < 4294967296 := C.lead_lt _ hr.out
      generalize hRe : C.lead r (L.take k) = R at *
      have hcell : ∃ b off, a = some ⟨b, off, none⟩ ∧ w.cell? ⟨b, off + k, none⟩ = some (.int .u8 (L[k].toNat : Int)) := by
        rcases HV.out with ⟨h, _⟩ | ⟨b, off, c', h, _, _, _, hc⟩
        · rw [h] at hlt; simp at hlt
        · cases h
          exact ⟨b, off, rfl, hc k hlt⟩
      obtain ⟨b, off, rfl, hcell⟩ := hcell
      generalize hbe : L[k] = x at *
      have hkk : (k : Int) < (L.length : Int) := by omega
      have hx := x.toNat_lt
      have hX1 : (R ^^^ x.toNat) < 4294967296 := Nat.xor_lt_two_pow (n := 32) hR (by omega)
      have hX2 : C.rnds 4 (R ^^^ x.toNat) < 4294967296 := C.rnds_lt 4 hX1
      have e1 : bits .xor .u32 (R : Int) (x.toNat : Int) = ((R ^^^ x.toNat : Nat) : Int) := u32_x _ _ hR (by omega)
      have HST : Hid (C.step R x = C.rnds 4 (C.rnds 4 (R ^^^ x.toNat))) := Lib.hid (C.rnds_add 4 4 (R ^^^ x.toNat))
      generalize hXe : R ^^^ x.toNat = X at *
      have e2 := and15 X hX1
      have e3 : bits .xor .u32 ((X : Int) / 16) ((nibT.getD (X % 16) 0 : Nat) : Int) = ((C.rnds 4 X : Nat) : Int) := by
        have := u32_x (X / 16) (nibT.getD (X % 16) 0) (by omega) (by rw [nib_eq ⟨X % 16, by omega⟩]; exact C.rnds_lt 4 (by show X % 16 < _; omega))
        rw [nib_step hX1] at this
        rw [← this]; simp
      have t1 := ht.out.2 (X % 16) (by omega)
      generalize hYe : C.rnds 4 X = Y at *
      have f2 := and15 Y hX2
      have f3 : bits .xor .u32 ((Y : Int) / 16) ((nibT.getD (Y % 16) 0 : Nat) : Int) = ((C.rnds 4 Y : Nat) : Int) := by
        have := u32_x (Y / 16) (nibT.getD (Y % 16) 0) (by omega) (by rw [nib_eq ⟨Y % 16, by omega⟩]; exact C.rnds_lt 4 (by show Y % 16 < _; omega))
        rw [nib_step hX2] at this
        rw [← this]; simp
      have t2 := ht.out.2 (Y % 16) (by omega)
      have hi1 : X % 16 < 16 := by omega
      have hi2 : Y % 16 < 16 := by omega
      generalize hi1e : X % 16 = i1 at *
      generalize hi2e : Y % 16 = i2 at *
      generalize nibT.getD i1 0 = n1 at *
      generalize nibT.getD i2 0 = n2 at *
      have GRe := Lib.hid hRe
      have Gbe := Lib.hid hbe
      have GXe := Lib.hid hXe
      have GYe := Lib.hid hYe
      have Gi1e := Lib.hid hi1e
      have Gi2e := Lib.hid hi2e
      clear hRe hbe hXe hYe hi1e hi2e
      go_wp2_with fail
      go_round
      case rel => exact ⟨k + 1, by omega, by rw [HS.out, HST.out], by go_num⟩
      case measure => simp [intOf]; omega
    · have hkk : ¬ (k : Int) < (L.length : Int) := by omega
      have HL : Hid (L.take k = L) := Lib.hid (List.take_of_length_le (by omega))
      go_wp2_with fail
      go_ret
      exact ⟨by simp [HL.out], rfl⟩
end Go.Proofs.YtecgbnghapjfgaaDoor.M
