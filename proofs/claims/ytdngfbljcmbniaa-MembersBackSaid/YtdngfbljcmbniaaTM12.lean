/- Package members: numbers of servers, numbers that rise. -/
import Derived.Test.YtdngfbljcmbniaaTM8
import Derived.Test.YtdngfbljcmbniaaTM10
import Derived.Test.YtdngfbljcmbniaaTM11
import Derived.StillTailTactics
namespace Go.Proofs.Ytdngfbljcmbniaa.M
open Go.RowKit

theorem isID_any (i : Int) (w : World) : Calls Try.prog 42 #[.int .i64 i] w fun e w' => e = .returned (.bool (yes (okN i))) ∧ w' = w := by
  obtain ⟨y, hy⟩ : ∃ y, y = yes (okN i) := ⟨_, rfl⟩
  rw [← hy]
  by_cases h1 : i ≥ 0
  · have q1 : decide (i ≥ 0) = true := decide_eq_true h1
    by_cases h2 : i < 1048576
    · have q2 : decide (i < 1048576) = true := decide_eq_true h2
      have HY : Hid (y = true) := Lib.hid (by rw [hy]; exact yes_t ⟨h1, by omega⟩)
      clear hy
      go_enter Try.func42, Try.ntmps42
      go_wp2_with fail
      go_ret
      exact ⟨by rw [HY.out]; rfl, rfl⟩
    · have q2 : decide (i < 1048576) = false := decide_eq_false h2
      have HY : Hid (y = false) := Lib.hid (by rw [hy]; exact yes_f fun h => by have := h.2; omega)
      clear hy
      go_enter Try.func42, Try.ntmps42
      go_wp2_with fail
      go_ret
      exact ⟨by rw [HY.out]; rfl, rfl⟩
  · have q1 : decide (i ≥ 0) = false := decide_eq_false h1
    have HY : Hid (y = false) := Lib.hid (by rw [hy]; exact yes_f fun h => by have := h.1; omega)
    clear hy
    go_enter Try.func42, Try.ntmps42
    go_wp2_with fail
    go_ret
    exact ⟨by rw [HY.out]; rfl, rfl⟩

set_option maxRecDepth 20000 in
set_option maxHeartbeats 1000000 in
theorem rise_any (l : List Int) (F : Nat → Prop) (v : Value) (w : World) (hv : RepI w F l v) :
    Calls Try.prog 34 #[v] w fun e w' => e = .returned (.bool (yes (Rise l))) ∧ w' = w := by
  obtain ⟨va, vc, rfl, hl⟩ := hv.slice
  obtain ⟨y, hy⟩ : ∃ y, y = yes (Rise l) := ⟨_, rfl⟩
  rw [← hy]
  have HV := Lib.hid hv
  have HY := Lib.hid hy
  clear hv hy
  go_enter Try.func34, Try.ntmps34
  go_wp2_with fail
  go_loopw [7] (fun i wr => ∃ k : Nat, k ≤ l.length ∧ i = .int .i64 (k : Int) ∧ Hid (wr = w) ∧ Hid (Rise (l.take k))) (fun i _ => l.length - (intOf i).toNat)
  case atStart => exact ⟨0, Nat.zero_le _, rfl, Lib.hid rfl, Lib.hid Rise.nil⟩
  case round =>
    obtain ⟨k, hk, rfl, HW, HK⟩ := hrel
    by_cases hlt : k < l.length
    · have hkk : (k : Int) < (l.length : Int) := by omega
      have HS : Hid (Rise (l.take (k + 1)) ↔ okN l[k] ∧ ∀ h0 : 0 < k, l[k - 1] < l[k]) := Lib.hid ((rise_step hlt).trans ⟨fun h => h.2, fun h => ⟨HK.out, h⟩⟩)
      have HR := Lib.hid (HW.out ▸ HV.out : RepI wr F l (.slice va l.length vc))
      obtain ⟨b, off, rfl, -, e0, e1, e2⟩ := HR.out.elem k hlt
      have HP : Hid (∀ h0 : 0 < k, wr.cell? ⟨b, off + (k - 1), none⟩ = some (.int .i64 l[k - 1])) := Lib.hid fun h0 => by
        obtain ⟨b', off', hh, -, e0, -⟩ := HR.out.elem (k - 1) (by omega)
        cases hh
        exact e0
      obtain ⟨x, hx⟩ : ∃ x, x = l[k] := ⟨_, rfl⟩
      rw [← hx] at e0
      have HX := Lib.hid hx
      have HNO : Hid (¬ Rise (l.take (k + 1)) → y = false) := Lib.hid fun h => by
        rw [HY.out]
        exact yes_f fun h2 => h (h2.take _)
      clear e1 e2 hx
      go_wp2_with fail
      refine (isID_any x _).mono ?_
      rintro e w2 ⟨rfl, rfl⟩
      by_cases hok : okN x
      · have hy1 : yes (okN x) = true := yes_t hok
        rw [hy1]
        by_cases h0 : 0 < k
        · have q0 : decide ((k : Int) > 0) = true := decide_eq_true (by omega)
          have e3 := HP.out h0
          obtain ⟨z, hz⟩ : ∃ z, z = l[k - 1] := ⟨_, rfl⟩
          rw [← hz] at e3
          have HZ := Lib.hid hz
          have hk1 : IntKind.i64.wrap ((k : Int) - 1) = ((k - 1 : Nat) : Int) := by rw [IntWalk.i64_in _ (by omega)]; omega
          have hk2 : ((k - 1 : Nat) : Int) < (l.length : Int) := by omega
          clear hz
          by_cases hle : x ≤ z
          · have q1 : decide (x ≤ z) = true := decide_eq_true hle
            have HT : Hid (y = false) := Lib.hid (HNO.out fun h => by have := (HS.out.1 h).2 h0; rw [← HX.out, ← HZ.out] at this; omega)
            clear hle
            go_wp2_with fail
            go_ret
            exact ⟨by rw [HT.out]; rfl, HW.out⟩
          · have q1 : decide (x ≤ z) = false := decide_eq_false hle
            have HT : Hid (Rise (l.take (k + 1))) := Lib.hid (HS.out.2 ⟨HX.out ▸ hok, fun _ => by rw [← HX.out, ← HZ.out]; omega⟩)
            clear hle
            go_wp2_with fail
            go_roundw
            case rel => exact ⟨k + 1, by omega, by simp, HW, HT⟩
            case measure => simp only [intOf]; omega
        · have q0 : decide ((k : Int) > 0) = false := decide_eq_false (by omega)
          have HT : Hid (Rise (l.take (k + 1))) := Lib.hid (HS.out.2 ⟨HX.out ▸ hok, fun h => absurd h h0⟩)
          go_wp2_with fail
          go_roundw
          case rel => exact ⟨k + 1, by omega, by simp, HW, HT⟩
          case measure => simp only [intOf]; omega
      · have hy1 : yes (okN x) = false := yes_f hok
        rw [hy1]
        have HT : Hid (y = false) := Lib.hid (HNO.out fun h => hok (HX.out ▸ (HS.out.1 h).1))
        go_wp2_with fail
        go_ret
        exact ⟨by rw [HT.out]; rfl, HW.out⟩
    · obtain rfl : k = l.length := by omega
      have q : decide (((l.length : Nat) : Int) < (l.length : Int)) = false := by simp
      have HT : Hid (y = true) := Lib.hid (by rw [HY.out]; exact yes_t (by have := HK.out; rwa [List.take_length] at this))
      clear HK
      go_wp2_with fail
      go_ret
      exact ⟨by rw [HT.out]; rfl, HW.out⟩
end Go.Proofs.Ytdngfbljcmbniaa.M
