/- The program's disk: names; the small calls. -/
import Derived.Test.YtamgjlegcegmeaaGreatDoorSD13
import Derived.Test.YtamgjlegcegmeaaGreatDoorSD14
import Derived.IntWalk
import Derived.WalkLawsBesides
import Derived.Laws.IdiomStrings
namespace Go.Proofs.YtamgjlegcegmeaaGreatDoor.M
open Go.RowKit Go.Maps
open D (Fl Dk)

set_option maxRecDepth 20000 in
set_option maxHeartbeats 800000 in
theorem NameByte_any (c : UInt8) (w : World) : Calls Tryz.prog 109 #[.int .u8 (c.toNat : Int)] w fun e w' => e = .returned (.bool (D.okByte c)) ∧ w = w' := by
  have HI : Hid _ := Lib.hid (D.okByte_iff c)
  obtain ⟨n, hn⟩ : ∃ n, n = c.toNat := ⟨_, rfl⟩
  have HN := Lib.hid hn
  rw [← hn]
  clear hn
  have hB : Hid (∀ b : Bool, (((97 ≤ n ∧ n ≤ 122) ∨ (48 ≤ n ∧ n ≤ 57) ∨ n = 45 ∨ n = 46) ↔ b = true) → D.okByte c = b) := Lib.hid fun b hb => by
    have := HI.out
    rw [← HN.out] at this
    rw [Bool.eq_iff_iff, this]; exact hb
  have hc0 : (0 : Int) ≤ (n : Int) := by omega
  go_enter Tryz.func109, Tryz.ntmps109
  rcases (show (97 ≤ n ∧ n ≤ 122) ∨ 122 < n ∨ (57 < n ∧ n < 97) ∨ (48 ≤ n ∧ n ≤ 57) ∨ n = 45 ∨ n = 46 ∨ (n < 48 ∧ n ≠ 45 ∧ n ≠ 46) by omega) with h | h | h | h | h | h | h
  · have p1 : (97 : Int) ≤ (n : Int) := by omega
    have p2 : (n : Int) ≤ 122 := by omega
    have HOK : Hid (D.okByte c = true) := Lib.hid (hB.out true (by simp; omega))
    clear h
    go_wp2_with fail
    go_ret
    exact ⟨by rw [HOK.out]; rfl, rfl⟩
  · have p1 : (97 : Int) ≤ (n : Int) := by omega
    have p2 : decide ((n : Int) ≤ 122) = false := by simp; omega
    have p3 : (48 : Int) ≤ (n : Int) := by omega
    have p4 : decide ((n : Int) ≤ 57) = false := by simp; omega
    have p5 : ((n : Int) == 45) = false := by simp; omega
    have p6 : ((n : Int) == 46) = false := by simp; omega
    have HOK : Hid (D.okByte c = false) := Lib.hid (hB.out false (by simp; omega))
    clear h
    go_wp2_with fail
    go_ret
    exact ⟨by rw [HOK.out]; rfl, rfl⟩
  · have p1 : decide ((97 : Int) ≤ (n : Int)) = false := by simp; omega
    have p3 : (48 : Int) ≤ (n : Int) := by omega
    have p4 : decide ((n : Int) ≤ 57) = false := by simp; omega
    have p5 : ((n : Int) == 45) = false := by simp; omega
    have p6 : ((n : Int) == 46) = false := by simp; omega
    have HOK : Hid (D.okByte c = false) := Lib.hid (hB.out false (by simp; omega))
    clear h
    go_wp2_with fail
    go_ret
    exact ⟨by rw [HOK.out]; rfl, rfl⟩
  · have p1 : decide ((97 : Int) ≤ (n : Int)) = false := by simp; omega
    have p3 : (48 : Int) ≤ (n : Int) := by omega
    have p4 : (n : Int) ≤ 57 := by omega
    have HOK : Hid (D.okByte c = true) := Lib.hid (hB.out true (by simp; omega))
    clear h
    go_wp2_with fail
    go_ret
    exact ⟨by rw [HOK.out]; rfl, rfl⟩
  · have p1 : decide ((97 : Int) ≤ (n : Int)) = false := by simp; omega
    have p3 : decide ((48 : Int) ≤ (n : Int)) = false := by simp; omega
    have p5 : ((n : Int) == 45) = true := by simp; omega
    have HOK : Hid (D.okByte c = true) := Lib.hid (hB.out true (by simp; omega))
    clear h
    go_wp2_with fail
    go_ret
    exact ⟨by rw [HOK.out]; rfl, rfl⟩
  · have p1 : decide ((97 : Int) ≤ (n : Int)) = false := by simp; omega
    have p3 : decide ((48 : Int) ≤ (n : Int)) = false := by simp; omega
    have p5 : ((n : Int) == 45) = false := by simp; omega
    have p6 : ((n : Int) == 46) = true := by simp; omega
    have HOK : Hid (D.okByte c = true) := Lib.hid (hB.out true (by simp; omega))
    clear h
    go_wp2_with fail
    go_ret
    exact ⟨by rw [HOK.out]; rfl, rfl⟩
  · have p1 : decide ((97 : Int) ≤ (n : Int)) = false := by simp; omega
    have p3 : decide ((48 : Int) ≤ (n : Int)) = false := by simp; omega
    have p5 : ((n : Int) == 45) = false := by simp; omega
    have p6 : ((n : Int) == 46) = false := by simp; omega
    have HOK : Hid (D.okByte c = false) := Lib.hid (hB.out false (by simp; omega))
    clear h
    go_wp2_with fail
    go_ret
    exact ⟨by rw [HOK.out]; rfl, rfl⟩

/-- A world in which nothing that was there has turned. -/
theorem Below.mkBytes (w : World) (C : Array Value) (t : TypeId) (fr : Nat × Nat) : Below w.heap.size w (w.drew.alloc (.cells C t fr)) := (Below.refl _ _).drew.alloc (Nat.le_refl _) _

set_option maxRecDepth 20000 in
set_option maxHeartbeats 1600000 in
theorem IsName_any (s : ByteArray) (w : World) (hs : s.size ≤ 9223372036854775807) :
    Calls Tryz.prog 79 #[.string s] w fun e w' => e = .returned (.bool (D.okName s)) ∧ Below w.heap.size w w' := by
  have hcv : ∀ w, (convert 9 34 (.string s)).run Tryz.prog w = _ := fun w => run_bytes_of_string w 9 34 5 s Tryz.underlying9 Tryz.underlying34 Tryz.underlying5
  have hsz : s.data.toList.length = s.size := by simp
  have HSZ := Lib.hid hsz
  clear hsz
  go_enter Tryz.func79, Tryz.ntmps79
  by_cases h0 : s.size = 0
  · have p1 : s.toList.isEmpty = true := by
      rw [D.toList_data, List.isEmpty_iff_length_eq_zero, HSZ.out]; exact h0
    have HOK : Hid (D.okName s = false) := Lib.hid (by unfold D.okName; rw [h0]; simp)
    clear h0
    go_wp2_with fail
    go_ret
    exact ⟨by rw [HOK.out]; rfl, Below.refl _ _⟩
  · have p1 : s.toList.isEmpty = false := by
      rw [D.toList_data, ← Bool.not_eq_true, List.isEmpty_iff_length_eq_zero, HSZ.out]; exact h0
    by_cases h1 : 32 < s.size
    · have p2 : (32 : Int) < (s.size : Int) := by omega
      have HOK : Hid (D.okName s = false) := Lib.hid (by unfold D.okName; rw [decide_eq_false (by omega)]; simp)
      clear h0
      go_wp2_with fail
      go_ret
      exact ⟨by rw [HOK.out]; rfl, Below.refl _ _⟩
    · have p2 : decide ((32 : Int) < (s.size : Int)) = false := by simp; omega
      have HOK : Hid (D.okName s = s.data.toList.all D.okByte) := Lib.hid (by unfold D.okName; rw [decide_eq_true (by omega)]; simp)
      have HS2 : Hid (s.size ≤ 32) := Lib.hid (by omega)
      clear h0 h1
      obtain ⟨C, hC⟩ : ∃ C, C = bytesRow s (grownCap w s.size 0 5) := ⟨_, rfl⟩
      obtain ⟨cp, hcp⟩ : ∃ cp, cp = grownCap w s.size 0 5 := ⟨_, rfl⟩
      have hcw : (convert 9 34 (.string s)).run Tryz.prog w = .ok (.slice (some ⟨w.heap.size, 0, none⟩) s.size cp) (w.drew.alloc (.cells C 5 (C.size, C.size + 1))) := by
        rw [hcv w, hC, hcp]
      have HC : Hid (∀ (j : Nat) (hj : j < s.size), (w.drew.alloc (.cells C 5 (C.size, C.size + 1))).cell? ⟨w.heap.size, j, none⟩ = some (.int .u8 (s[j].toNat : Int))) := Lib.hid fun j hj => by
        have h2 := World.cell?_alloc_mark w.drew C 5 (C.size, C.size + 1) j
        have e : w.drew.heap.size = w.heap.size := rfl
        rw [e] at h2
        rw [h2, hC, bytesRow_at s _ j hj]
        rfl
      obtain ⟨w2, hw2⟩ : ∃ w2, w2 = w.drew.alloc (.cells C 5 (C.size, C.size + 1)) := ⟨_, rfl⟩
      rw [← hw2] at hcw HC
      have HB : Hid (Below w.heap.size w w2) := Lib.hid (by rw [hw2]; exact Below.mkBytes _ _ _ _)
      clear hcv hC hcp hw2
      go_wp2_with fail
      go_loop [4, 15] (fun _ i => ∃ k : Nat, k ≤ s.size ∧ i = .int .i64 (k : Int) ∧ Hid ((s.data.toList.take k).all D.okByte = true)) (fun _ i => s.size - (intOf i).toNat)
      case atStart => exact ⟨0, Nat.zero_le _, rfl, Lib.hid rfl⟩
      case round =>
        obtain ⟨k, hk, rfl, HA⟩ := hrel
        by_cases hlt : k < s.size
        · have hkk : (k : Int) < (s.size : Int) := by omega
          have hc := HC.out k hlt
          obtain ⟨c, hcc⟩ : ∃ c, c = s[k] := ⟨_, rfl⟩
          rw [← hcc] at hc
          have HCC := Lib.hid hcc
          clear hcc
          go_wp2_with fail
          refine (NameByte_any c _).mono ?_
          rintro e w' ⟨rfl, rfl⟩
          cases hb : D.okByte c with
          | true =>
            have HN : Hid ((s.data.toList.take (k + 1)).all D.okByte = true) := Lib.hid (by
              rw [List.take_succ_eq_append_getElem (by rw [HSZ.out]; exact hlt), List.all_append, HA.out]
              have e : s.data.toList[k]'(by rw [HSZ.out]; exact hlt) = c := by rw [HCC.out]; rfl
              rw [e]; simp [hb])
            clear hb
            go_wp2_with fail
            go_round
            case rel => exact ⟨k + 1, by omega, by go_num, HN⟩
            case measure => simp [intOf]; omega
          | false =>
            have HN : Hid (D.okName s = false) := Lib.hid (by
              rw [HOK.out, List.all_eq_false]
              exact ⟨s.data.toList[k]'(by rw [HSZ.out]; exact hlt), List.getElem_mem _, by
                have e : s.data.toList[k]'(by rw [HSZ.out]; exact hlt) = c := by rw [HCC.out]; rfl
                rw [e, hb]; simp⟩)
            clear hb
            go_wp2_with fail
            go_ret
            exact ⟨by rw [HN.out]; rfl, HB.out⟩
        · have hkk : ¬ (k : Int) < (s.size : Int) := by omega
          obtain rfl : k = s.size := by omega
          have HN : Hid (D.okName s = true) := Lib.hid (by
            rw [HOK.out]
            have := HA.out
            rw [← HSZ.out, List.take_length] at this
            exact this)
          go_wp2_with fail
          go_ret
          exact ⟨by rw [HN.out]; rfl, HB.out⟩
end Go.Proofs.YtamgjlegcegmeaaGreatDoor.M
