/- The document's disk: Name, Free, find, Stopped, Stop. -/
import Derived.Test.YtgiipkmkmomofaaDiskRep
import Derived.IntWalk
import Derived.WalkLawsBesides
import Derived.Outline
namespace Go.Proofs.Ytgiipkmkmomofaa.M
open Go.RowKit
open D (Fl Dk)

set_option maxHeartbeats 800000 in
theorem RefName_any (s : ByteArray) (w : World) (hs : s.size ≤ 9223372036854775807) :
    Calls Try.prog 10 #[.string s] w fun e w' => e = .returned (.bool (D.okName s)) ∧ w = w' := by
  go_enter Try.func10, Try.ntmps10
  go_wp2_with fail
  go_loop [3] (fun i => ∃ k : Nat, k ≤ s.size ∧ i = .int .i64 (k : Int) ∧ Hid ((s.data.toList.take k).all D.okByte = true)) (fun i => s.size - (intOf i).toNat)
  case atStart => exact ⟨0, Nat.zero_le _, rfl, Lib.hid rfl⟩
  case round =>
    obtain ⟨k, hk, rfl, HA⟩ := hrel
    by_cases hlt : k < s.size
    · have hkk : (k : Int) < (s.size : Int) := by omega
      have hN : Hid ((s.data.toList.take (k + 1)).all D.okByte = D.okByte s[k]) := Lib.hid (by
        rw [List.take_succ_eq_append_getElem (by simpa using hlt), List.all_append, HA.out]
        simp [List.all_cons]
        rfl)
      have hF : Hid (D.okByte s[k] = false → D.okName s = false) := Lib.hid fun h => by
        unfold D.okName
        have : s.data.toList.all D.okByte = false := by
          rw [List.all_eq_false]
          exact ⟨s.data.toList[k]'(by simpa using hlt), List.getElem_mem _, by
            have e : s.data.toList[k]'(by simpa using hlt) = s[k] := rfl
            rw [e, h]; simp⟩
        rw [this]; rfl
      have HI : Hid _ := Lib.hid (D.okByte_iff s[k])
      have hc0 : (0 : Int) ≤ (s[k].toNat : Int) := by omega
      rcases (show (97 ≤ s[k].toNat ∧ s[k].toNat ≤ 122) ∨ 122 < s[k].toNat ∨ (57 < s[k].toNat ∧ s[k].toNat < 97) ∨ (48 ≤ s[k].toNat ∧ s[k].toNat ≤ 57) ∨ s[k].toNat = 45 ∨ s[k].toNat = 46 ∨ (s[k].toNat < 48 ∧ s[k].toNat ≠ 45 ∧ s[k].toNat ≠ 46) by omega) with h | h | h | h | h | h | h
      · have p1 : (97 : Int) ≤ (s[k].toNat : Int) := by omega
        have p2 : (s[k].toNat : Int) ≤ 122 := by omega
        have HOK : Hid (D.okByte s[k] = true) := Lib.hid (HI.out.2 (by omega))
        clear h
        go_wp2_with fail
        go_round
        case rel => exact ⟨k + 1, by omega, by go_num, Lib.hid (by rw [hN.out, HOK.out])⟩
        case measure => simp [intOf]; omega
      · have p1 : (97 : Int) ≤ (s[k].toNat : Int) := by omega
        have p2 : decide ((s[k].toNat : Int) ≤ 122) = false := by simp; omega
        have p3 : (48 : Int) ≤ (s[k].toNat : Int) := by omega
        have p4 : decide ((s[k].toNat : Int) ≤ 57) = false := by simp; omega
        have p5 : ((s[k].toNat : Int) == 45) = false := by simp; omega
        have p6 : ((s[k].toNat : Int) == 46) = false := by simp; omega
        have HOK : Hid (D.okName s = false) := Lib.hid (hF.out (by rw [← Bool.not_eq_true, HI.out]; omega))
        clear h
        go_wp2_with fail
        go_ret
        exact ⟨by rw [HOK.out]; rfl, rfl⟩
      · have p1 : decide ((97 : Int) ≤ (s[k].toNat : Int)) = false := by simp; omega
        have p3 : (48 : Int) ≤ (s[k].toNat : Int) := by omega
        have p4 : decide ((s[k].toNat : Int) ≤ 57) = false := by simp; omega
        have p5 : ((s[k].toNat : Int) == 45) = false := by simp; omega
        have p6 : ((s[k].toNat : Int) == 46) = false := by simp; omega
        have HOK : Hid (D.okName s = false) := Lib.hid (hF.out (by rw [← Bool.not_eq_true, HI.out]; omega))
        clear h
        go_wp2_with fail
        go_ret
        exact ⟨by rw [HOK.out]; rfl, rfl⟩
      · have p1 : decide ((97 : Int) ≤ (s[k].toNat : Int)) = false := by simp; omega
        have p3 : (48 : Int) ≤ (s[k].toNat : Int) := by omega
        have p4 : (s[k].toNat : Int) ≤ 57 := by omega
        have HOK : Hid (D.okByte s[k] = true) := Lib.hid (HI.out.2 (by omega))
        clear h
        go_wp2_with fail
        go_round
        case rel => exact ⟨k + 1, by omega, by go_num, Lib.hid (by rw [hN.out, HOK.out])⟩
        case measure => simp [intOf]; omega
      · have p1 : decide ((97 : Int) ≤ (s[k].toNat : Int)) = false := by simp; omega
        have p3 : decide ((48 : Int) ≤ (s[k].toNat : Int)) = false := by simp; omega
        have p5 : ((s[k].toNat : Int) == 45) = true := by simp; omega
        have HOK : Hid (D.okByte s[k] = true) := Lib.hid (HI.out.2 (by omega))
        clear h
        go_wp2_with fail
        go_round
        case rel => exact ⟨k + 1, by omega, by go_num, Lib.hid (by rw [hN.out, HOK.out])⟩
        case measure => simp [intOf]; omega
      · have p1 : decide ((97 : Int) ≤ (s[k].toNat : Int)) = false := by simp; omega
        have p3 : decide ((48 : Int) ≤ (s[k].toNat : Int)) = false := by simp; omega
        have p5 : ((s[k].toNat : Int) == 45) = false := by simp; omega
        have p6 : ((s[k].toNat : Int) == 46) = true := by simp; omega
        have HOK : Hid (D.okByte s[k] = true) := Lib.hid (HI.out.2 (by omega))
        clear h
        go_wp2_with fail
        go_round
        case rel => exact ⟨k + 1, by omega, by go_num, Lib.hid (by rw [hN.out, HOK.out])⟩
        case measure => simp [intOf]; omega
      · have p1 : decide ((97 : Int) ≤ (s[k].toNat : Int)) = false := by simp; omega
        have p3 : decide ((48 : Int) ≤ (s[k].toNat : Int)) = false := by simp; omega
        have p5 : ((s[k].toNat : Int) == 45) = false := by simp; omega
        have p6 : ((s[k].toNat : Int) == 46) = false := by simp; omega
        have HOK : Hid (D.okName s = false) := Lib.hid (hF.out (by rw [← Bool.not_eq_true, HI.out]; omega))
        clear h
        go_wp2_with fail
        go_ret
        exact ⟨by rw [HOK.out]; rfl, rfl⟩
    · have hkk : ¬ (k : Int) < (s.size : Int) := by omega
      have HAL : Hid (D.okName s = decide (0 < s.size ∧ s.size ≤ 32)) := Lib.hid (by
        unfold D.okName
        have := HA.out
        rw [List.take_of_length_le (by rw [Array.length_toList]; exact Nat.le_of_not_lt hlt)] at this
        rw [this]; simp)
      by_cases h0 : 0 < s.size
      · have h1 : (0 : Int) < (s.size : Int) := by omega
        have HD : Hid (decide ((s.size : Int) ≤ 32) = D.okName s) := Lib.hid (by rw [HAL.out]; simp [h0]; omega)
        clear hlt
        go_wp2_with fail
        go_ret
        exact ⟨by rw [← HD.out]; rfl, rfl⟩
      · have h1 : ¬ (0 : Int) < (s.size : Int) := by omega
        have HD : Hid (D.okName s = false) := Lib.hid (by rw [HAL.out]; simp [h0])
        clear hlt
        go_wp2_with fail
        go_ret
        exact ⟨by rw [HD.out]; rfl, rfl⟩

theorem find_go (fs : List Fl) (s : ByteArray) : D.find fs s ≤ fs.length := List.findIdx_le_length

set_option maxHeartbeats 800000 in
theorem RefFree_any (d : Dk) (X : Nat → Prop) (gd : Nat) (w : World) (hd : Dsk w X gd d) (h0 : Hid (0 ≤ d.free ∧ 0 ≤ d.room ∧ d.room ≤ 9223372036854775807)) :
    Calls Try.prog 36 #[.pointer (some ⟨gd, 0, none⟩)] w fun e w' => e = .returned (.int .i64 d.free) ∧ w = w' := by
  obtain ⟨vl, fv, hat⟩ := hd
  obtain ⟨-, ⟨c0, c1, -, -⟩, -, hz, -, -⟩ := hat.cells
  obtain ⟨va, vc, rfl⟩ := owned_slice hat.row
  have hfl : (fv.length : Int) ≤ 9223372036854775807 := by have := hat.len.1; omega
  have hlen := hat.len.2
  have HLN := Lib.hid hlen
  have HAT := Lib.hid hat
  clear hat hlen
  go_enter Try.func36, Try.ntmps36
  go_wp2_with fail
  go_loop [3, 4] (fun n i => ∃ (k : Nat) (r : Int), k ≤ fv.length ∧ i = .int .i64 (k : Int) ∧ n = .int .i64 r ∧ Hid (r = d.room - (D.used (d.fs.take k) : Int))) (fun _ i => fv.length - (intOf i).toNat)
  case atStart => exact ⟨0, _, Nat.zero_le _, rfl, rfl, Lib.hid (by simp [D.used])⟩
  case round =>
    obtain ⟨k, r, hk, rfl, rfl, HR⟩ := hrel
    by_cases hlt : k < fv.length
    · have hkk : (k : Int) < (fv.length : Int) := by omega
      obtain ⟨ga, c, hv, -, -, hgz, -, -, -, e1, -, -⟩ := HAT.out.file k hlt
      cases hv
      obtain ⟨ba, bc, hb, hbl⟩ := HAT.out.bytes k hlt
      rw [hb] at e1
      have hgt := HAT.out.get k hlt (by have := HLN.out; omega)
      have hut := D.used_take d.fs k (by have := HLN.out; omega)
      have hul := D.used_le d.fs (k + 1)
      obtain ⟨n, hn⟩ : ∃ n, n = fv[k].1.b.length := ⟨_, rfl⟩
      rw [← hn] at e1 hbl
      have hb2 : 0 ≤ r - (n : Int) ∧ r - (n : Int) ≤ 9223372036854775807 := by
        have h1 := h0.out
        have h2 := HR.out
        unfold D.Dk.free at h1
        rw [← hgt, ← hn] at hut
        omega
      obtain ⟨hb3, hb4⟩ := hb2
      have HR2 : Hid (r - (n : Int) = d.room - (D.used (d.fs.take (k + 1)) : Int)) := Lib.hid (by rw [hut, HR.out, hn, hgt]; omega)
      clear hgt hut hul hn hb
      go_wp2_with fail
      go_round
      case rel => exact ⟨k + 1, _, by omega, by go_num, rfl, HR2⟩
      case measure => simp [intOf]; omega
    · have hkk : ¬ (k : Int) < (fv.length : Int) := by omega
      have HE : Hid (r = d.free) := Lib.hid (by
        rw [HR.out, List.take_of_length_le (by have := HLN.out; omega)]; rfl)
      go_wp2_with fail
      go_ret
      exact ⟨by rw [HE.out]; rfl, rfl⟩
end Go.Proofs.Ytgiipkmkmomofaa.M
