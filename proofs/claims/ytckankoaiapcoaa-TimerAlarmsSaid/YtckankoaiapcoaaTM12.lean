/- Package timer: spans; a timer that is ticked; the document's span. -/
import Derived.Test.YtckankoaiapcoaaTM6
import Derived.Lib.Hide
namespace Go.Proofs.Ytckankoaiapcoaa.M
open Go.RowKit

def fairI (least : Int) : Prop := 1 ≤ least ∧ least ≤ 2147483648
instance (least : Int) : Decidable (fairI least) := inferInstanceAs (Decidable (_ ∧ _))

/-- A span. -/
def spanI (least d : Int) : Int := if fairI least then least + d.tmod least else 0

theorem span_pos {least d : Int} (h : fairI least) (hd : 0 ≤ d) : spanI least d = least + d.tmod least ∧ 0 ≤ d.tmod least ∧ d.tmod least < least := by
  have h' := h
  unfold fairI at h
  refine ⟨by unfold spanI; rw [if_pos h'], Int.tmod_nonneg _ hd, Int.tmod_lt_of_pos _ (by omega)⟩

theorem span_in (least d : Int) (hd : 0 ≤ d) : 0 ≤ spanI least d ∧ spanI least d ≤ 4294967296 := by
  by_cases h : fairI least
  · obtain ⟨e, h1, h2⟩ := span_pos h hd
    unfold fairI at h
    rw [e]
    omega
  · unfold spanI
    rw [if_neg h]
    omega

set_option maxRecDepth 20000 in
theorem fair_any (least : Int) (w : World) : Calls Try.prog 32 #[.int .i64 least] w fun e w' => e = .returned (.bool (decide (fairI least))) ∧ w' = w := by
  by_cases h1 : 1 ≤ least
  · by_cases h2 : least ≤ 2147483648
    · have e : decide (fairI least) = true := decide_eq_true ⟨h1, h2⟩
      rw [e]
      go_enter Try.func32, Try.ntmps32
      go_wp2_with fail
      go_ret
      exact ⟨rfl, rfl⟩
    · have e : decide (fairI least) = false := decide_eq_false fun h => h2 h.2
      rw [e]
      go_enter Try.func32, Try.ntmps32
      go_wp2_with fail
      go_ret
      exact ⟨rfl, rfl⟩
  · have e : decide (fairI least) = false := decide_eq_false fun h => h1 h.1
    rw [e]
    go_enter Try.func32, Try.ntmps32
    go_wp2_with fail
    go_ret
    exact ⟨rfl, rfl⟩

set_option maxRecDepth 20000 in
theorem Span_any (least d : Int) (hd : 0 ≤ d ∧ d < 18446744073709551616) (w : World) : Calls Try.prog 10 #[.int .i64 least, .int .u64 d] w fun e w' => e = .returned (.int .i64 (spanI least d)) ∧ w' = w := by
  have HC := fair_any least w
  by_cases h : fairI least
  · rw [decide_eq_true h] at HC
    obtain ⟨e, h1, h2⟩ := span_pos h hd.1
    rw [e]
    obtain ⟨r, hr⟩ : ∃ r, r = d.tmod least := ⟨_, rfl⟩
    rw [← hr] at h1 h2 ⊢
    have hr2 := hr.symm
    obtain ⟨g1, g2⟩ := h
    have HC := Lib.hid HC
    have hne : ¬ least = 0 := by omega
    clear hr e
    go_enter Try.func10, Try.ntmps10
    go_wp2_with fail
    refine HC.out.mono ?_
    rintro e w2 ⟨rfl, rfl⟩
    go_wp2_with fail
    go_ret
    exact ⟨rfl, rfl⟩
  · rw [decide_eq_false h] at HC
    have e : spanI least d = 0 := by unfold spanI; rw [if_neg h]
    rw [e]
    have HC := Lib.hid HC
    clear h e
    go_enter Try.func10, Try.ntmps10
    go_wp2_with fail
    refine HC.out.mono ?_
    rintro e w2 ⟨rfl, rfl⟩
    go_wp2_with fail
    go_ret
    exact ⟨rfl, rfl⟩

set_option maxRecDepth 20000 in
theorem RefSpan_any (least d : Int) (hd : 0 ≤ d ∧ d < 18446744073709551616) (w : World) : Calls Try.prog 9 #[.int .i64 least, .int .u64 d] w fun e w' => e = .returned (.int .i64 (spanI least d)) ∧ w' = w := by
  by_cases h : fairI least
  · obtain ⟨e, h1, h2⟩ := span_pos h hd.1
    rw [e]
    obtain ⟨r, hr⟩ : ∃ r, r = d.tmod least := ⟨_, rfl⟩
    rw [← hr] at h1 h2 ⊢
    have hr2 := hr.symm
    obtain ⟨g1, g2⟩ := h
    have hne : ¬ least = 0 := by omega
    have k1 : ¬ least < 1 := by omega
    have k2 : ¬ 2147483648 < least := by omega
    clear hr e
    go_enter Try.func9, Try.ntmps9
    go_wp2_with fail
    go_ret
    exact ⟨rfl, rfl⟩
  · have e : spanI least d = 0 := by unfold spanI; rw [if_neg h]
    rw [e]
    by_cases k1 : least < 1
    · clear h e
      go_enter Try.func9, Try.ntmps9
      go_wp2_with fail
      go_ret
      exact ⟨rfl, rfl⟩
    · have k2 : 2147483648 < least := by unfold fairI at h; omega
      clear h e
      go_enter Try.func9, Try.ntmps9
      go_wp2_with fail
      go_ret
      exact ⟨rfl, rfl⟩

/-- A timer in memory. -/
def TiAt (w : World) (gt : Nat) (least left : Int) : Prop := w.heap[gt]? = some (.cells #[.int .i64 least, .int .i64 left] 73)

set_option maxRecDepth 20000 in
theorem New_any (least d : Int) (hd : 0 ≤ d ∧ d < 18446744073709551616) (w : World) : Calls Try.prog 12 #[.int .i64 least, .int .u64 d] w fun e w' =>
    (¬ fairI least ∧ e = .returned (.tuple #[.pointer none, .int .i64 2]) ∧ w' = w) ∨
    (fairI least ∧ e = .returned (.tuple #[.pointer (some ⟨w.heap.size, 0, none⟩), .int .i64 0]) ∧ Below w.heap.size w w' ∧ TiAt w' w.heap.size least (spanI least d)) := by
  have HC := fair_any least w
  by_cases h : fairI least
  · rw [decide_eq_true h] at HC
    have HS := Lib.hid (Span_any least d hd w)
    have HC := Lib.hid HC
    have HF := Lib.hid h
    obtain ⟨s, hs⟩ : ∃ s, s = spanI least d := ⟨_, rfl⟩
    rw [← hs] at HS ⊢
    clear h hs
    go_enter Try.func12, Try.ntmps12
    go_wp2_with fail
    refine HC.out.mono ?_
    rintro e w2 ⟨rfl, rfl⟩
    go_wp2_with fail
    refine HS.out.mono ?_
    rintro e w3 ⟨rfl, rfl⟩
    go_wp2_with fail
    go_ret2
    exact .inr ⟨HF.out, rfl, below_alloc _ _, heap_new _ _ _ rfl⟩
  · rw [decide_eq_false h] at HC
    have HC := Lib.hid HC
    have HF := Lib.hid h
    clear h
    go_enter Try.func12, Try.ntmps12
    go_wp2_with fail
    refine HC.out.mono ?_
    rintro e w2 ⟨rfl, rfl⟩
    go_wp2_with fail
    go_ret2
    exact .inl ⟨HF.out, rfl, rfl⟩

/-- What a call that turns a timer leaves. -/
def TiPost (gt : Nat) (least left : Int) (w w' : World) : Prop := Only (fun k => k = gt) w w' ∧ TiAt w' gt least left

set_option maxRecDepth 20000 in
theorem TSet_any (gt : Nat) (least left d : Int) (hd : 0 ≤ d ∧ d < 18446744073709551616) (w : World) (h : TiAt w gt least left) :
    Calls Try.prog 14 #[.pointer (some ⟨gt, 0, none⟩), .int .u64 d] w fun e w' => e = .returned (.tuple #[]) ∧ TiPost gt least (spanI least d) w w' := by
  have HS := Lib.hid (Span_any least d hd w)
  obtain ⟨s, hs⟩ : ∃ s, s = spanI least d := ⟨_, rfl⟩
  rw [← hs] at HS ⊢
  obtain ⟨c0, c1, f0, f1, cz⟩ := block2' h
  have H := Lib.hid h
  clear h hs
  go_enter Try.func14, Try.ntmps14
  go_wp2_with fail
  refine HS.out.mono ?_
  rintro e w2 ⟨rfl, rfl⟩
  go_wp2_with fail
  go_end0
  exact ⟨rfl, (Only.refl (fun k => k = gt) _).set (.inl rfl) _, (heap_set2 H.out).2⟩

def tickI (left : Int) : Int := if 0 < left then left - 1 else left

set_option maxRecDepth 20000 in
theorem Tick_any (gt : Nat) (least left : Int) (hl : 0 ≤ left ∧ left ≤ 4294967296) (w : World) (h : TiAt w gt least left) :
    Calls Try.prog 15 #[.pointer (some ⟨gt, 0, none⟩)] w fun e w' => e = .returned (.bool (decide (tickI left = 0))) ∧ TiPost gt least (tickI left) w w' := by
  obtain ⟨c0, c1, f0, f1, cz⟩ := block2' h
  have H := Lib.hid h
  by_cases h0 : 0 < left
  · have e : tickI left = left - 1 := by unfold tickI; rw [if_pos h0]
    obtain ⟨m, hm⟩ : ∃ m, m = left - 1 := ⟨_, rfl⟩
    rw [e, ← hm]
    have hm2 := hm.symm
    have HR : Hid (decide (m = 0) = (m == 0)) := Lib.hid (by rw [Bool.eq_iff_iff, decide_eq_true_iff, beq_iff_eq])
    clear e hm h
    go_enter Try.func15, Try.ntmps15
    go_wp2_with fail
    go_ret
    exact ⟨by rw [HR.out]; rfl, (Only.refl (fun k => k = gt) _).set (.inl rfl) _, (heap_set2 H.out).2⟩
  · have e : tickI left = left := by unfold tickI; rw [if_neg h0]
    rw [e]
    have HR : Hid (decide (left = 0) = (left == 0)) := Lib.hid (by rw [Bool.eq_iff_iff, decide_eq_true_iff, beq_iff_eq])
    clear e h
    go_enter Try.func15, Try.ntmps15
    go_wp2_with fail
    go_ret
    exact ⟨by rw [HR.out]; rfl, Only.refl _ _, H.out⟩

set_option maxRecDepth 20000 in
theorem Left_any (gt : Nat) (least left : Int) (w : World) (h : TiAt w gt least left) :
    Calls Try.prog 13 #[.pointer (some ⟨gt, 0, none⟩)] w fun e w' => e = .returned (.int .i64 left) ∧ w' = w := by
  obtain ⟨c0, c1, f0, f1, cz⟩ := block2' h
  clear h
  go_enter Try.func13, Try.ntmps13
  go_wp2_with fail
  go_ret
  exact ⟨rfl, rfl⟩
end Go.Proofs.Ytckankoaiapcoaa.M
