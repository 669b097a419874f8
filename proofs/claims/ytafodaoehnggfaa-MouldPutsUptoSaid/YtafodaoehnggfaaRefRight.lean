/- The document's Right, and the law MouldShapes. -/
import Derived.Test.YtafodaoehnggfaaRefEnd
import Derived.Test.YtafodaoehnggfaaAwake1
namespace Go.Proofs.Ytafodaoehnggfaa.M
open Go.RowKit

theorem shape_len {t : List UInt8} {s : Sh} (h : shape t = some s) : 0 < t.length ∧ t.length ≤ 64 ∧ pShape 9 t = some (s, []) := by
  unfold shape at h
  split at h
  · cases h
  · split at h
    · rename_i s' hq
      cases h
      have := pShape_less _ _ _ _ hq
      simp at this
      exact ⟨by omega, by omega, hq⟩
    · cases h

theorem RefRight_any (s : ByteArray) (w : World) (hs : s.size ≤ 9223372036854775807) :
    Calls Try.prog 8 #[.string s] w fun e w' => w = w' ∧ e = .returned (.bool (shape s.data.toList).isSome) := by
  by_cases h1 : s.size ≤ 64
  · by_cases h2 : 0 < s.size
    · have HE := Lib.hid (fun w => ends 9 s 0 0 0 w rfl h1 (by omega) rfl (by omega))
      have HL : Hid (s.data.toList.length = s.size) := Lib.hid (by simp)
      have h3 : (s.size : Int) ≤ 64 := by omega
      have h4 : 0 < (s.size : Int) := by omega
      go_enter Try.func8, Try.ntmps8
      go_wp2_with fail
      refine (HE.out _).mono ?_
      rintro e w1 ⟨rfl, hr⟩
      rw [List.drop_zero] at hr
      cases hq : pShape 9 s.data.toList with
      | none =>
        rw [hq] at hr
        replace hr : e = .returned (.int .i64 (-1)) := hr
        subst hr
        have Hq := Lib.hid hq
        clear hq
        have h5 : (-1 : Int) ≠ (s.size : Int) := by omega
        go_wp2_with fail
        go_ret
        refine ⟨rfl, ?_⟩
        unfold shape
        rw [if_neg (by rw [HL.out]; omega), Hq.out]
        rfl
      | some x =>
        obtain ⟨sh, rest⟩ := x
        rw [hq] at hr
        obtain ⟨k, rfl, hk, hrest⟩ := hr
        replace hrest : rest = s.data.toList.drop k := hrest
        have Hq := Lib.hid hq
        have Hr := Lib.hid hrest
        clear hq hrest
        by_cases h6 : k = s.size
        · have h7 : ((k : Int) == (s.size : Int)) = true := by simp [h6]
          have H6 := Lib.hid h6
          clear h6
          go_wp2_with fail
          go_ret
          refine ⟨rfl, ?_⟩
          unfold shape
          rw [if_neg (by rw [HL.out]; omega), Hq.out, Hr.out, List.drop_eq_nil_of_le (by rw [HL.out, H6.out]; omega)]
          rfl
        · have h7 : ((k : Int) == (s.size : Int)) = false := by simp; omega
          have H6 := Lib.hid h6
          clear h6
          go_wp2_with fail
          go_ret
          refine ⟨rfl, ?_⟩
          unfold shape
          have h8 : s.data.toList.drop k ≠ [] := by
            have := H6.out
            intro h
            have h9 : (s.data.toList.drop k).length = 0 := by rw [h]; rfl
            rw [List.length_drop, HL.out] at h9
            omega
          rw [if_neg (by rw [HL.out]; omega), Hq.out, Hr.out]
          cases h9 : s.data.toList.drop k with
          | nil => exact absurd h9 h8
          | cons c t => rfl
    · have h3 : (s.size : Int) ≤ 64 := by omega
      have h4 : ¬ 0 < (s.size : Int) := by omega
      have hl : s.data.toList.length = s.size := by simp
      have HL : Hid (s.data.toList = []) := Lib.hid (List.eq_nil_of_length_eq_zero (by omega))
      clear hl
      go_enter Try.func8, Try.ntmps8
      go_wp2_with fail
      go_ret
      rw [HL.out]
      exact ⟨rfl, rfl⟩
  · have h3 : ¬ (s.size : Int) ≤ 64 := by omega
    have HL : Hid (64 < s.data.toList.length) := Lib.hid (by simp; omega)
    go_enter Try.func8, Try.ntmps8
    go_wp2_with fail
    go_ret
    unfold shape
    rw [if_pos HL.out]
    exact ⟨rfl, rfl⟩

theorem RepT.nil (w : World) : RepT w [] (.slice none 0 0) := ⟨none, 0, rfl, by simp, fun i hi => by simp at hi⟩

theorem RepT.two {w : World} {s r : ByteArray} {t : TypeId} {g : Nat} (hg : g = w.heap.size) (hs : s.size ≤ 9223372036854775807) (hr : r.size ≤ 9223372036854775807) :
    RepT (w.alloc (.cells #[.string s, .string r] t)) [s, r] (.slice (some ⟨g, 0, none⟩) 2 2) := by
  subst hg
  refine ⟨_, 2, rfl, by simp, fun i hi => ?_⟩
  have h2 : i < 2 := by simpa using hi
  have hc := fun j => cell_of_row _ w.heap.size j _ t _ (heap_alloc_new w (.cells #[.string s, .string r] t))
  obtain rfl | rfl : i = 0 ∨ i = 1 := by omega
  · exact ⟨w.heap.size, 0, rfl, hc 0, hs⟩
  · exact ⟨w.heap.size, 0, rfl, hc 1, hr⟩

set_option maxHeartbeats 800000 in
theorem MouldShapes_any (s r : ByteArray) (w : World) (hs : Hid (s.size ≤ 9223372036854775807)) (hr : Hid (r.size ≤ 9223372036854775807)) :
    Calls Try.prog 3 #[.string s, .string r] w fun e w' => e = .returned (.bool true) ∧ Below w.heap.size w w' := by
  have HA := Lib.hid (fun w => RefRight_any s w hs.out)
  have HB := Lib.hid (fun w => RefRight_any r w hr.out)
  have H1 := Lib.hid (fun (w : World) => Right_any [s] (.slice (some ⟨w.heap.size, 0, none⟩) 1 1) _ (RepT.one (w := w) (t := 9) rfl hs.out))
  have H2 := Lib.hid (fun (w : World) => Right_any [s, r] (.slice (some ⟨w.heap.size, 0, none⟩) 2 2) _ (RepT.two (w := w) (t := 9) rfl hs.out hr.out))
  have H0 := Lib.hid (fun (w : World) => Right_any [] (.slice none 0 0) _ (RepT.nil w))
  simp only [List.all_cons, List.all_nil, Bool.and_true] at H1 H2 H0
  generalize (shape s.data.toList).isSome = x at *
  generalize (shape r.data.toList).isSome = y at *
  go_enter Try.func3, Try.ntmps3
  go_wp2_with fail
  refine (awake_any _).mono ?_
  rintro e w1 ⟨rfl, hB1⟩
  have HB1 := Lib.hid hB1
  clear hB1
  go_wp2_with fail
  refine (HA.out _).mono ?_
  rintro e w2 ⟨rfl, rfl⟩
  go_wp2_with fail
  refine (HB.out _).mono ?_
  rintro e w3 ⟨rfl, rfl⟩
  go_wp2_with fail
  refine (H1.out _).mono ?_
  rintro e w4 ⟨rfl, hB4⟩
  have HB4 : Hid (Below w.heap.size w w4) := Lib.hid ((HB1.out.alloc HB1.out.size _).trans (hB4.mono (by have := HB1.out.size; simp; omega)))
  clear hB4
  go_wp2_with fail
  refine (H2.out _).mono ?_
  rintro e w5 ⟨rfl, hB5⟩
  have HB5 : Hid (Below w.heap.size w w5) := Lib.hid ((HB4.out.alloc HB4.out.size _).trans (hB5.mono (by have := HB4.out.size; simp; omega)))
  clear hB5
  cases x <;> cases y
  all_goals
    go_wp2_with fail
    refine (H0.out _).mono ?_
    rintro e w6 ⟨rfl, hB6⟩
    have HB6 : Hid (Below w.heap.size w w6) := Lib.hid (HB5.out.trans (hB6.mono HB5.out.size))
    clear hB6
    go_wp2_with fail
    go_ret
    exact ⟨rfl, HB6.out⟩
end Go.Proofs.Ytafodaoehnggfaa.M
