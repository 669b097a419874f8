/- Has a shape lists of what may have no bytes? What it says doesn't matter here: that it ends does. -/
import Derived.Test.YtafodaoehnggfaaRefRows
import Derived.Deep.Cut
import Derived.Deep.CutRange
import Derived.Deep.LoopGhost
namespace Go.Proofs.Ytafodaoehnggfaa.M
open Go.RowKit

/-- A Right that is asked of a piece, and then a Some. -/
def AnyBool (w : World) (v : Value) (w' : World) : Prop := ∃ b, v = .bool b ∧ Below w.heap.size w w'

def EndsBool (w : World) (e : Ending) (w' : World) : Prop := ∃ b, e = .returned (.bool b) ∧ Below w.heap.size w w'

theorem sub_size (s : ByteArray) (a b : Nat) : (s.extract a b).size ≤ s.size := by
  rw [ByteArray.size_extract]; omega

set_option maxHeartbeats 1600000 in
theorem wide_any (s : ByteArray) (w : World) (hs : s.size ≤ 64) :
    Calls Try.prog 19 #[.string s] w (EndsBool w) := by
  have HR := Lib.hid (fun (a b : Nat) (w : World) => RefRight_any (s.extract a b) w (by have := sub_size s a b; omega))
  have HS := Lib.hid (fun (a b : Nat) (sh : Sh) (w : World) => Some_any (s.extract a b) sh w)
  go_enter Try.func19, Try.ntmps19
  go_wp2_with fail
  go_loopg [3] s.size (fun g i wr => ∃ k : Nat, i = .int .i64 (k : Int) ∧ k + g = s.size ∧ Below w.heap.size w wr)
  case atStart => exact ⟨0, rfl, by omega, Below.refl _ _⟩
  case round =>
    obtain ⟨k, rfl, hk, hB⟩ := hrel
    obtain ⟨gO, hgO⟩ : ∃ g, g = gk := ⟨_, rfl⟩
    subst hgO
    have HB := Lib.hid hB
    clear hB
    by_cases hk2 : k + 1 < s.size
    · have hkk : (k : Int) + 1 < (s.size : Int) := by omega
      have hk3 : k < s.size := by omega
      go_upto_region 4 with (fail)
      go_cut [30] from 5 to 64 (fun v w' => AnyBool w v w')
      case first =>
        cases h42 : ((s[k].toNat : Int) == 42) with
        | false =>
          go_wp2_with fail
          go_meet
          case rel => exact ⟨_, rfl, HB.out⟩
        | true =>
          go_wp2_with fail
          refine (HR.out (k + 1) s.size _).mono ?_
          rintro e w1 ⟨rfl, rfl⟩
          cases hq : shape (s.extract (k + 1) s.size).data.toList with
          | none =>
            have Hq := Lib.hid hq
            clear hq
            simp only [Option.isSome_none]
            go_wp2_with fail
            go_meet
            case rel => exact ⟨_, rfl, HB.out⟩
          | some sh =>
            have Hq := Lib.hid hq
            clear hq
            simp only [Option.isSome_some]
            go_wp2_with fail
            refine (HS.out (k + 1) s.size sh _ Hq.out).mono ?_
            rintro e w2 ⟨rfl, hB2⟩
            have HB2 : Hid (Below w.heap.size w w2) := Lib.hid (HB.out.trans (hB2.mono HB.out.size))
            clear hB2
            go_wp2_with fail
            go_meet
            case rel => exact ⟨_, rfl, HB2.out⟩
      case rest =>
        obtain ⟨b, rfl, hB1⟩ := hcut
        have HB1 := Lib.hid hB1
        clear hB1
        cases b with
        | true =>
          go_wp2_with fail
          go_ret
          exact ⟨_, rfl, HB1.out⟩
        | false =>
          cases h42 : ((s[k].toNat : Int) == 42) with
          | false =>
            go_wp2_with fail
            go_roundg (gO - 1)
            case measure => omega
            case rel => exact ⟨k + 1, by go_num, by omega, HB1.out⟩
          | true =>
          cases h91 : ((s[k + 1].toNat : Int) == 91) with
          | false =>
            go_wp2_with fail
            go_roundg (gO - 1)
            case measure => omega
            case rel => exact ⟨k + 1, by go_num, by omega, HB1.out⟩
          | true =>
          go_wp2_with fail
          go_loopg [4] (s.size + 1) (fun g i wr => ∃ m : Nat, i = .int .i64 (m : Int) ∧ k + 2 ≤ m ∧ m ≤ s.size + 1 ∧ s.size + 1 - m ≤ g ∧ Below w.heap.size w wr)
          case atStart => exact ⟨k + 2, by go_num, by omega, by omega, by omega, HB1.out⟩
          case round =>
            obtain ⟨m, rfl, hm1, hm2, hmg, hB3⟩ := hrel
            have HB3 := Lib.hid hB3
            clear hB3
            by_cases hm3 : m ≤ s.size
            · have hmm : (m : Int) ≤ (s.size : Int) := by omega
              go_upto_region 10 with (fail)
              go_cut [64] from 44 to 64 (fun v w' => AnyBool w v w')
              case first =>
                go_wp2_with fail
                refine (HR.out (k + 1) m _).mono ?_
                rintro e w1 ⟨rfl, rfl⟩
                cases hq : shape (s.extract (k + 1) m).data.toList with
                | none =>
                  have Hq := Lib.hid hq
                  clear hq
                  simp only [Option.isSome_none]
                  go_wp2_with fail
                  go_meet
                  case rel => exact ⟨_, rfl, HB3.out⟩
                | some sh =>
                  have Hq := Lib.hid hq
                  clear hq
                  simp only [Option.isSome_some]
                  go_wp2_with fail
                  refine (HS.out (k + 1) m sh _ Hq.out).mono ?_
                  rintro e w2 ⟨rfl, hB2⟩
                  have HB2 : Hid (Below w.heap.size w w2) := Lib.hid (HB3.out.trans (hB2.mono HB3.out.size))
                  clear hB2
                  go_wp2_with fail
                  go_meet
                  case rel => exact ⟨_, rfl, HB2.out⟩
              case rest =>
                obtain ⟨b, rfl, hB4⟩ := hcut
                have HB4 := Lib.hid hB4
                clear hB4
                cases b with
                | true =>
                  go_wp2_with fail
                  go_ret
                  exact ⟨_, rfl, HB4.out⟩
                | false =>
                  go_wp2_with fail
                  go_roundg (s.size - m)
                  case measure => omega
                  case rel => exact ⟨m + 1, by go_num, by omega, by omega, by omega, HB4.out⟩
            · have hmm : ¬ (m : Int) ≤ (s.size : Int) := by omega
              go_wp2_with fail
              go_roundg (gO - 1)
              case measure => omega
              case rel => exact ⟨k + 1, by go_num, by omega, HB3.out⟩
    · have hkk : ¬ (k : Int) + 1 < (s.size : Int) := by omega
      go_wp2_with fail
      go_ret
      exact ⟨_, rfl, HB.out⟩
end Go.Proofs.Ytafodaoehnggfaa.M
