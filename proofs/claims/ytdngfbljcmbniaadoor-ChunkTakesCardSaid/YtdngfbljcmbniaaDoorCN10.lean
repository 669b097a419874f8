/- The library's trailing noughts, by its table. -/
import Derived.Test.YtdngfbljcmbniaaDoorCN7
import Derived.Lib.TrailingZeros
namespace Go.Proofs.YtdngfbljcmbniaaDoor.M
open Go.RowKit

/-- The library's table lies in its variable. -/
def Tz (w : World) : Prop := 1 < w.heap.size ∧ ∀ j, j < 64 → w.cell? ⟨1, j, none⟩ = some (.int .u8 ((Lib.deBruijn64tab.getD j 0 : Nat) : Int))

theorem Tz.next {w w' : World} (h : Tz w) (hb : Below w.heap.size w w') : Tz w' :=
  ⟨Nat.lt_of_lt_of_le h.1 hb.size, fun k hk => (hb.cell (p := ⟨1, k, none⟩) h.1).trans (h.2 k hk)⟩

theorem Tz.only {w w' : World} {X : Nat → Prop} (h : Tz w) (ho : Only X w w') (hX : ¬ X 1) : Tz w' :=
  ⟨Nat.lt_of_lt_of_le h.1 ho.size, fun k hk => (cell_only ho h.1 hX k).trans (h.2 k hk)⟩

theorem tz_index (x : Nat) (h : x < 18446744073709551616) (h0 : x ≠ 0) :
    IntKind.u64.wrap (bits BinOp.and IntKind.u64 (x : Int) (IntKind.u64.wrap (-(x : Int))) * 285870213051353865) / 288230376151711744 = ((2 ^ Lib.ctz 64 x * 285870213051353865 % 18446744073709551616 / 288230376151711744 : Nat) : Int) := by
  have h1 : IntKind.u64.wrap (-(x : Int)) = ((18446744073709551616 - x : Nat) : Int) := by rw [IntKind.wrap_u64]; omega
  rw [h1, bits_and_u64_nat x _ h (by omega), (Lib.lowest_bit 64 x h0 h).1, IntKind.wrap_u64]
  omega

set_option maxRecDepth 20000 in
set_option maxHeartbeats 1000000 in
theorem Tz_any (x : Nat) (w : World) (h : Hid (x < 18446744073709551616)) (ht : Hid (Tz w)) :
    Calls Tryd.prog 42 #[.int .u64 (x : Int)] w fun e w' => e = .returned (.int .i64 (Lib.ctz 64 x : Int)) ∧ w = w' := by
  by_cases h0 : x = 0
  · subst h0
    go_enter Tryd.func42, Tryd.ntmps42
    go_wp2_with fail
    go_ret
    exact ⟨rfl, rfl⟩
  · have hk := (Lib.lowest_bit 64 x h0 h.out).2
    have hi := tz_index x h.out h0
    obtain ⟨h1, h2⟩ := Lib.deBruijn64_at _ hk
    have hc := ht.out.2 _ h1
    rw [h2] at hc
    obtain ⟨k, hke⟩ : ∃ k, k = Lib.ctz 64 x := ⟨_, rfl⟩
    rw [← hke] at hk hi h1 hc ⊢
    obtain ⟨j, hje⟩ : ∃ j, j = 2 ^ k * 285870213051353865 % 18446744073709551616 / 288230376151711744 := ⟨_, rfl⟩
    rw [← hje] at hi h1 hc
    have q0 : ((x : Int) == 0) = false := by simp; omega
    clear hke hje h0 h2
    go_enter Tryd.func42, Tryd.ntmps42
    go_wp2_with (simp only [hi])
    go_ret
    exact ⟨rfl, rfl⟩
end Go.Proofs.YtdngfbljcmbniaaDoor.M
