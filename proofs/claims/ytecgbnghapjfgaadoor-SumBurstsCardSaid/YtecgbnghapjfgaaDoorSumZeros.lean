/- What noughts make of each bit of a register: arrays of 32 numbers, as values. -/
import Derived.Test.YtecgbnghapjfgaaDoorSumMore
namespace Go.Proofs.YtecgbnghapjfgaaDoor.M
open Go.RowKit

/-- The array of what becomes of each bit. -/
def zRow (f : Nat → Nat) : Array Value := ((List.range 32).map fun i => Value.int .u32 (f i : Int)).toArray

theorem zRow_size (f : Nat → Nat) : (zRow f).size = 32 := by simp [zRow]

theorem zRow_get (f : Nat → Nat) (i : Nat) (h : i < 32) : (zRow f)[i]? = some (.int .u32 (f i : Int)) := by simp [zRow, h]

theorem zRow_one (f : Nat → Nat) : (zRow f).all (·.oneCell') = true := by
  simp [zRow, Value.oneCell']

theorem cells32 : Tryd.prog.cellsOf 24 = 1 := by kernel_rfl

theorem run_index_z (f : Nat → Nat) (k : Nat) (h : k < 32) (w : World) :
    (Instr.index 47 (.agg (zRow f)) (.int .i64 (k : Int))).run Tryd.prog w = .ok (.int .u32 (f k : Int)) w := by
  have hu := Tryd.underlying47
  have hk : (k : Int) < 32 := by omega
  have hs : (sizeOf 24).run Tryd.prog w = .ok 1 w := by kernel_rfl
  have ha : (isAgg 24).run Tryd.prog w = .ok false w := by kernel_rfl
  have hp : (part 24 (zRow f) k).run Tryd.prog w = .ok (.int .u32 (f k : Int)) w := by
    simp [part, Sem.run_bind, ha, zRow_get f k h]
  simp [Instr.index, Sem.run_bind, asIntOf, run_underlying hu, hk, hs, hp]
  intro h2; omega

/-- .. at an operation of the walk. -/
theorem wpList_index_z {ops : Array Oper} {rest : List Oper} {o : Oper} {a : Act} {w : World} {Q : Exit → Act → World → Prop} (hgd : o.guard = none) (x y : Operand) (ho : o.op = .index 47 x y)
    (f : Nat → Nat) (k : Nat) (hx : a.eval x = .agg (zRow f)) (hy : a.eval y = .int .i64 (k : Int)) (hk : k < 32) (g : Nat) (hg : f k = g)
    (h : wpList Tryd.prog ops Q rest (a.put o.dst (.int .u32 (g : Int))) w) : wpList Tryd.prog ops Q (o :: rest) a w :=
  wpList_plain hgd fun _ hK => by
    unfold Oper.wp execOp
    simp only [ho, hx, hy, run_index_z f k hk w, Sem.run_bind, Result.andThen_ok, Sem.run_pure, hg]
    exact hK _ _ h

/-- What becomes of the lowest k bits of a register. -/
def leadN (f : Nat → Nat) (r : Nat) : Nat → Nat
  | 0 => 0
  | k + 1 => if r / 2 ^ k % 2 = 1 then leadN f r k ^^^ f k else leadN f r k

theorem leadN_lt {f : Nat → Nat} (hf : ∀ i, i < 32 → f i < 4294967296) (r : Nat) : ∀ k, k ≤ 32 → leadN f r k < 4294967296
  | 0, _ => by simp [leadN]
  | k + 1, h => by
    have := leadN_lt hf r k (by omega)
    unfold leadN
    split
    · exact Nat.xor_lt_two_pow (n := 32) this (hf k (by omega))
    · exact this

/-- What m noughts make of each bit. -/
def zF (m i : Nat) : Nat := C.zeros m (2 ^ i)

theorem zF_lt (m : Nat) : ∀ i, i < 32 → zF m i < 4294967296 := fun i h => C.zeros_lt m (Nat.pow_lt_pow_right (by omega) h)

theorem zeros_xor : ∀ (m a b : Nat), C.zeros m (a ^^^ b) = C.zeros m a ^^^ C.zeros m b
  | 0, _, _ => rfl
  | m + 1, a, b => by
    show C.zeros m (C.rnds 8 (a ^^^ b)) = _
    rw [C.rnds_xor, zeros_xor m]; rfl

theorem leadN_zF (m r : Nat) : ∀ k, leadN (zF m) r k = C.zeros m (r % 2 ^ k)
  | 0 => by simp [leadN, C.zeros_zero, Nat.mod_one]
  | k + 1 => by
    rw [C.low_bits, zeros_xor, ← leadN_zF m r k, leadN]
    by_cases h : r / 2 ^ k % 2 = 1
    · rw [if_pos h, if_pos (by rw [Nat.testBit_eq_decide_div_mod_eq]; simpa using h)]; rfl
    · rw [if_neg h, if_neg (by rw [Nat.testBit_eq_decide_div_mod_eq]; simpa using h), C.zeros_zero, Nat.xor_zero]

theorem leadN_all (m : Nat) {r : Nat} (h : r < 4294967296) : leadN (zF m) r 32 = C.zeros m r := by
  rw [leadN_zF, Nat.mod_eq_of_lt h]

set_option maxHeartbeats 800000 in
set_option maxRecDepth 20000 in
theorem zlead_any (f : Nat → Nat) (r : Nat) (w : World) (hr : Hid (r < 4294967296)) (hf : Hid (∀ i, i < 32 → f i < 4294967296)) :
    Calls Tryd.prog 19 #[.agg (zRow f), .int .u32 (r : Int)] w fun e w' => e = .returned (.int .u32 (leadN f r 32 : Int)) ∧ w' = w.alloc (.cells (zRow f) 47) := by
  have hrl : (r : Int) < 4294967296 := by have := hr.out; omega
  have HSZ : Hid ((Tryd.prog.info? 47).map (·.size) = some (zRow f).size) := Lib.hid (by rw [zRow_size]; kernel_rfl)
  go_enter Tryd.func19, Tryd.ntmps19
  go_wp2_with (refine wpList_load_row rfl 47 (.tmp 2) rfl w.heap.size rfl 47 (zRow f) (0, 0) _ (heap_alloc_new w _) Tryd.underlying47 rfl HSZ.out ?_)
  go_loop [5, 6, 7, 9] (fun x _ _ i => ∃ (k : Nat), k ≤ 32 ∧ x = .int .u32 (leadN f r k : Int) ∧ i = .int .i64 (k : Int)) (fun _ _ _ i => 32 - (intOf i).toNat)
  case atStart => exact ⟨0, Nat.zero_le _, rfl, rfl⟩
  case round =>
    obtain ⟨k, hk, rfl, rfl⟩ := hrel
    by_cases hlt : k < 32
    · have hkk : (k : Int) < 32 := by omega
      have HB : Hid (leadN f r k < 4294967296) := Lib.hid (leadN_lt hf.out r k (by omega))
      have HFK : Hid (f k < 4294967296) := Lib.hid (hf.out k hlt)
      obtain ⟨R, hR⟩ : ∃ R, leadN f r k = R := ⟨_, rfl⟩
      obtain ⟨G, hG⟩ : ∃ G, f k = G := ⟨_, rfl⟩
      rw [hG] at HFK
      rw [hR] at HB ⊢
      have GR := Lib.hid hR
      have GG := Lib.hid hG
      clear hR hG
      have hQ : ∃ q : Nat, (r : Int) / 2 ^ k = (q : Int) ∧ q = r / 2 ^ k := ⟨r / 2 ^ k, by simp, rfl⟩
      obtain ⟨q, hq, hqe⟩ := hQ
      have hql : q < 4294967296 := by rw [hqe]; exact Nat.lt_of_le_of_lt (Nat.div_le_self _ _) hr.out
      have HQE := Lib.hid hqe
      clear hqe
      by_cases hbit : q % 2 = 1
      · have e2 : bits .and .u32 (q : Int) 1 = 1 := by rw [u32_and1 q hql, hbit]; rfl
        have e3 : bits .xor .u32 (R : Int) (G : Int) = ((R ^^^ G : Nat) : Int) := u32_x R G HB.out HFK.out
        have HL1 : Hid (leadN f r (k + 1) = R ^^^ G) := Lib.hid (by
          rw [leadN, if_pos (by rw [← HQE.out]; exact hbit), GR.out, GG.out])
        have HBI := Lib.hid hbit
        clear hbit
        go_wp2_with (refine wpList_index_z rfl (.tmp 8) (.tmp 9) rfl f k rfl rfl hlt G GG.out ?_)
        go_round
        case rel => exact ⟨k + 1, by omega, by rw [HL1.out], by go_num⟩
        case measure => simp [intOf]; omega
      · have e2 : bits .and .u32 (q : Int) 1 = 0 := by rw [u32_and1 q hql, show q % 2 = 0 by omega]; rfl
        have HL1 : Hid (leadN f r (k + 1) = R) := Lib.hid (by
          rw [leadN, if_neg (by rw [← HQE.out]; exact hbit), GR.out])
        have HBI := Lib.hid hbit
        clear hbit
        go_wp2_with (refine wpList_index_z rfl (.tmp 8) (.tmp 9) rfl f k rfl rfl hlt G GG.out ?_)
        go_round
        case rel => exact ⟨k + 1, by omega, by rw [HL1.out], by go_num⟩
        case measure => simp [intOf]; omega
    · have hkk : ¬ (k : Int) < 32 := by omega
      obtain rfl : k = 32 := by omega
      go_wp2_with fail
      go_ret
      exact ⟨rfl, rfl⟩
end Go.Proofs.YtecgbnghapjfgaaDoor.M
