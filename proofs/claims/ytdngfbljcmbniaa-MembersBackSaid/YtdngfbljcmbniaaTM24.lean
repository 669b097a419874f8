/- The statements' examples: awake; lists that aren't too long. -/
import Derived.Test.YtdngfbljcmbniaaTM20
import Derived.Test.YtdngfbljcmbniaaTM21
import Derived.Test.YtdngfbljcmbniaaTM23
namespace Go.Proofs.Ytdngfbljcmbniaa.M
open Go.RowKit

/-- Ints in a new block. -/
theorem RepI.lit {w : World} {l : List Int} {g : Nat} {cs : Array Value} (hg : g = w.heap.size) (hc : cs = (l.map intV).toArray) (hl : l.length ≤ 1000000) (hr : In64 l) {n : Nat} (hn : n = l.length) :
    RepI (w.alloc (.cells cs 3)) (fun b => b < w.heap.size + 1) l (.slice (some ⟨g, 0, none⟩) n n) := by
  subst hg hc hn
  refine .inr ⟨w.heap.size, 0, l.length, rfl, by omega, Nat.le_refl _, by omega, fun i hi => ⟨?_, hr _ (List.getElem_mem hi)⟩⟩
  have := cell_of_row _ w.heap.size (0 + i) _ _ _ (heap_alloc_new w (.cells (l.map intV).toArray 3))
  rw [this]
  simp [hi, intV]

theorem In64.small {l : List Int} (h : ∀ x ∈ l, 0 ≤ x ∧ x ≤ 1000000) : In64 l := fun x hx => by have := h x hx; omega

def m8x3 : Cf := ⟨[1, 2, 3], []⟩
def m8x1 : Cf := ⟨[1], []⟩

theorem rise_of {l : List Int} (h1 : ∀ x ∈ l, okN x) (h2 : l.Pairwise (· < ·)) : Rise l := ⟨h1, h2⟩

theorem ex3_ok : m8x3.ok := ⟨by simp [m8x3], by simp [m8x3], ⟨by simp [m8x3, okN], by simp [m8x3]⟩, ⟨by simp [m8x3], by simp [m8x3]⟩, by simp [m8x3]⟩
theorem ex1_ok : m8x1.ok := ⟨by simp [m8x1], by simp [m8x1], ⟨by simp [m8x1, okN], by simp [m8x1]⟩, ⟨by simp [m8x1], by simp [m8x1]⟩, by simp [m8x1]⟩

theorem ex3_next : nextAll m8x3 [(1, 4), (2, 4)] = (⟨[1, 2, 3, 4], []⟩, 0) := by
  unfold nextAll
  rw [if_pos ex3_ok]
  rfl

theorem ex1_next : nextAll m8x1 [(3, 1)] = (cf0, 81) := by
  unfold nextAll
  rw [if_pos ex1_ok]
  rfl

set_option maxRecDepth 20000 in
set_option maxHeartbeats 6400000 in
theorem awake8_any (w : World) : Calls Try.prog 4 #[] w fun e w' => e = .returned (.bool true) ∧ Below w.heap.size w w' := by
  obtain ⟨W3, hW3⟩ : ∃ W3, W3 = ((w.alloc (.cells #[.int .i64 1, .int .i64 2, .int .i64 3] 3)).alloc (.cells #[.slice (some ⟨w.heap.size, 0, none⟩) 3 3, .slice none 0 0] 25)).alloc (.cells #[.int .i64 1, .int .i64 4, .int .i64 2, .int .i64 4] 38) := ⟨_, rfl⟩
  have HW3 := Lib.hid hW3
  clear hW3
  go_enter Try.func4, Try.ntmps4
  go_wp2_with fail
  rw [← HW3.out]
  have hb3 : Below w.heap.size w W3 := by rw [HW3.out]; exact (((Below.refl _ w).alloc (Nat.le_refl _) _).alloc (by simp) _).alloc (by simp; omega) _
  have hz3 : W3.heap.size = w.heap.size + 3 := by rw [HW3.out]; simp
  have hr0 : RepI W3 (fun b => b < w.heap.size + 1) [1, 2, 3] (.slice (some ⟨w.heap.size, 0, none⟩) 3 3) := by
    have h := RepI.lit (w := w) (l := [1, 2, 3]) rfl rfl (by simp) (In64.small (by simp)) (n := 3) rfl
    rw [HW3.out]
    exact (h.below (fun k hk => by simpa using hk) (below_alloc _ _)).below (fun k hk => by simp; omega) (below_alloc _ _)
  have hcx : W3.heap[w.heap.size + 1]? = some (.cells #[.slice (some ⟨w.heap.size, 0, none⟩) 3 3, .slice none 0 0] 25) := by rw [HW3.out]; exact old_alloc (heap_new _ _ _ (by simp))
  have hch : W3.heap[w.heap.size + 1 + 1]? = some (.cells #[.int .i64 1, .int .i64 4, .int .i64 2, .int .i64 4] 38) := by rw [HW3.out]; exact heap_new _ _ _ (by simp)
  have hp0 : RepPr W3 (fun b => b < W3.heap.size) [(1, 4), (2, 4)] (.slice (some ⟨w.heap.size + 1 + 1, 0, none⟩) 2 2) := .inr ⟨_, 0, 2, rfl, by omega, by simp, by omega, fun i hi => by
    have h0 := fun j => cell_of_row W3 _ j _ _ _ hch
    have hi2 : i < 2 := by simpa using hi
    rcases (show i = 0 ∨ i = 1 by omega) with rfl | rfl
    · exact ⟨h0 0, h0 1⟩
    · exact ⟨h0 2, h0 3⟩⟩
  have HC1 := Next_any m8x3 [(1, 4), (2, 4)] (fun b => b < W3.heap.size) (fun b => b < W3.heap.size) _ (.slice none 0 0) _ W3 (hr0.same (fun k hk => by omega) fun _ _ => rfl) (.inl ⟨rfl, Bare.nil⟩) (fun k hk => hk) (by simp [m8x3]) hp0 (fun k hk => hk)
  rw [ex3_next] at HC1
  have HB3 := Lib.hid hb3
  have HZ3 := Lib.hid hz3
  have HR0 := Lib.hid hr0
  have HCX := Lib.hid hcx
  have HCALL := Lib.hid HC1
  clear hb3 hz3 hr0 hcx hch hp0 HC1
  refine HCALL.out.mono ?_
  rintro e w4 ⟨hb4, v4, l4, rfl, hv4, hl4⟩
  obtain ⟨a4, k4, hva⟩ := hv4.slice
  obtain ⟨a5, k5, hla⟩ := hl4.slice
  simp only [List.length_cons, List.length_nil] at hva hla
  obtain ⟨hva, -⟩ := hva
  obtain ⟨hla, -⟩ := hla
  subst hva hla
  have HB4 : Hid (Below w.heap.size w w4) := Lib.hid (HB3.out.trans (hb4.mono HB3.out.size))
  have HV4 := Lib.hid hv4
  have HL4 := Lib.hid hl4
  have HR4 := Lib.hid (HR0.out.below (fun k hk => by rw [HZ3.out]; omega) hb4)
  have HCX4 := Lib.hid (old_below HCX.out hb4)
  obtain ⟨c0, c1, -, -, cz⟩ := block2' HCX4.out
  have HSZ : Hid (w.heap.size + 3 ≤ w4.heap.size) := Lib.hid (by have := HZ3.out; have := hb4.size; omega)
  clear hb4 hv4 hl4
  go_wp2_with fail
  obtain ⟨W5, hW5⟩ : ∃ W5, W5 = ((w4.alloc (.cells #[.slice a4 4 k4, .slice a5 0 k5] 25)).alloc (.cells #[.int .i64 1] 3)).alloc (.cells #[.int .i64 3, .int .i64 1] 38) := ⟨_, rfl⟩
  rw [← hW5]
  have hb5 : Below w4.heap.size w4 W5 := by rw [hW5]; exact (((Below.refl _ w4).alloc (Nat.le_refl _) _).alloc (by simp) _).alloc (by simp; omega) _
  have hz5 : W5.heap.size = w4.heap.size + 3 := by rw [hW5]; simp
  have hr1 : RepI W5 (fun b => b < W5.heap.size) [1] (.slice (some ⟨w4.heap.size + 1, 0, none⟩) 1 1) := by
    have h := RepI.lit (w := w4.alloc (.cells #[.slice a4 4 k4, .slice a5 0 k5] 25)) (l := [1]) (g := w4.heap.size + 1) (by simp) rfl (by simp) (In64.small (by simp)) (n := 1) rfl
    rw [hW5]
    exact (h.below (fun k hk => by simpa using hk) (below_alloc _ _)).same (fun k hk => by simp at hk ⊢; omega) fun _ _ => rfl
  have hcd : W5.heap[w4.heap.size]? = some (.cells #[.slice a4 4 k4, .slice a5 0 k5] 25) := by rw [hW5]; exact old_alloc (old_alloc (heap_alloc_new w4 _))
  have hch : W5.heap[w4.heap.size + 1 + 1]? = some (.cells #[.int .i64 3, .int .i64 1] 38) := by rw [hW5]; exact heap_new _ _ _ (by simp)
  have hp0 : RepPr W5 (fun b => b < W5.heap.size) [(3, 1)] (.slice (some ⟨w4.heap.size + 1 + 1, 0, none⟩) 1 1) := .inr ⟨_, 0, 1, rfl, by omega, by simp, by omega, fun i hi => by
    have h0 := fun j => cell_of_row W5 _ j _ _ _ hch
    obtain rfl : i = 0 := by simpa using hi
    exact ⟨h0 0, h0 1⟩⟩
  have HC1 := Next_any m8x1 [(3, 1)] (fun b => b < W5.heap.size) (fun b => b < W5.heap.size) _ (.slice none 0 0) _ W5 hr1 (.inl ⟨rfl, Bare.nil⟩) (fun k hk => hk) (by simp [m8x1]) hp0 (fun k hk => hk)
  rw [ex1_next] at HC1
  have HB5 : Hid (Below w.heap.size w W5) := Lib.hid (HB4.out.trans (hb5.mono HB4.out.size))
  have HR5 := Lib.hid (HR4.out.below (fun k hk => by have := HB4.out.size; have := HB3.out.size; have := HZ3.out; omega) hb5)
  have HV5 := Lib.hid (HV4.out.below (fun k hk => hk.2) hb5)
  have HL5 := Lib.hid (HL4.out.below (fun k hk => hk.2) hb5)
  have HZ5 := Lib.hid hz5
  have HCX5 := Lib.hid (old_below HCX4.out hb5)
  have HCD5 := Lib.hid hcd
  have HCALL2 := Lib.hid HC1
  clear hW5 hb5 hz5 hr1 hcd hch hp0 HC1 c0 c1 cz
  refine HCALL2.out.mono ?_
  rintro e w6 ⟨hb6, v6, l6, rfl, hv6, hl6⟩
  obtain ⟨a6, k6, hva⟩ := hv6.slice
  obtain ⟨a7, k7, hla⟩ := hl6.slice
  simp only [cf0, List.length_nil] at hva hla
  obtain ⟨hva, -⟩ := hva
  obtain ⟨hla, -⟩ := hla
  subst hva hla
  have HB6 : Hid (Below w.heap.size w w6) := Lib.hid (HB5.out.trans (hb6.mono HB5.out.size))
  have HL3 : Hid (∀ w', Below w6.heap.size w6 w' → RepI w' (fun b => b < w6.heap.size) [1, 2, 3] (.slice (some ⟨w.heap.size, 0, none⟩) 3 3)) := Lib.hid fun w' hb' =>
    (((HR5.out.below (fun k hk => by have := HB5.out.size; have := HZ5.out; have := HSZ.out; omega) hb6).below (fun k hk => by have := HB5.out.size; have := HZ5.out; have := HSZ.out; have := hb6.size; omega) hb').same (fun k hk => by have := HB5.out.size; have := HZ5.out; have := HSZ.out; have := hb6.size; omega) fun _ _ => rfl)
  have HD4 : Hid (∀ w', Below w6.heap.size w6 w' → RepI w' (fun b => b < w6.heap.size) [1, 2, 3, 4] (.slice a4 4 k4) ∧ RepI w' (fun b => b < w6.heap.size) [] (.slice a5 0 k5)) := Lib.hid fun w' hb' =>
    ⟨((HV5.out.below (fun k hk => by have := hk.2; have := HZ5.out; omega) hb6).below (fun k hk => by have := hk.2; have := HZ5.out; have := hb6.size; omega) hb').same (fun k hk => by have := hk.2; have := HZ5.out; have := hb6.size; omega) fun _ _ => rfl,
     ((HL5.out.below (fun k hk => by have := hk.2; have := HZ5.out; omega) hb6).below (fun k hk => by have := hk.2; have := HZ5.out; have := hb6.size; omega) hb').same (fun k hk => by have := hk.2; have := HZ5.out; have := hb6.size; omega) fun _ _ => rfl⟩
  have HCX6 := Lib.hid (old_below HCX5.out hb6)
  have HCD6 := Lib.hid (old_below HCD5.out hb6)
  obtain ⟨c0, c1, -, -, cz⟩ := block2' HCX6.out
  obtain ⟨d0, d1, -, -, dz⟩ := block2' HCD6.out
  clear hb6 hv6 hl6
  go_wp2_with fail
  have hbA : Below w6.heap.size w6 ((w6.alloc (.cells #[.slice a6 0 k6, .slice a7 0 k7] 25)).alloc (.cells #[.slice (some ⟨w.heap.size, 0, none⟩) 3 3, .slice none 0 0] 25)) := ((Below.refl _ w6).alloc (Nat.le_refl _) _).alloc (by simp) _
  have hcA : ((w6.alloc (.cells #[.slice a6 0 k6, .slice a7 0 k7] 25)).alloc (.cells #[.slice (some ⟨w.heap.size, 0, none⟩) 3 3, .slice none 0 0] 25)).heap[w6.heap.size + 1]? = some (.cells #[.slice (some ⟨w.heap.size, 0, none⟩) 3 3, .slice none 0 0] 25) := heap_new _ _ _ (by simp)
  have HBA := Lib.hid hbA
  have hcs : RepCs ((w6.alloc (.cells #[.slice a6 0 k6, .slice a7 0 k7] 25)).alloc (.cells #[.slice (some ⟨w.heap.size, 0, none⟩) 3 3, .slice none 0 0] 25)) (fun b => b < w6.heap.size + 2) [⟨m8x3, .slice (some ⟨w.heap.size, 0, none⟩) 3 3, .slice none 0 0⟩] (.slice (some ⟨w6.heap.size + 1, 0, none⟩) 1 1) :=
    ⟨fun p hp => by
      rw [List.mem_singleton.1 hp]
      exact ⟨(HL3.out _ hbA).same (fun k hk => by omega) fun _ _ => rfl, .inl ⟨rfl, Bare.nil⟩, by simp [m8x3]⟩, .inr ⟨_, 0, 1, rfl, by omega, by simp, by omega, fun i hi => by
      obtain rfl : i = 0 := by simpa using hi
      exact ⟨cell_of_row _ _ 0 _ _ _ hcA, cell_of_row _ _ 1 _ _ _ hcA⟩⟩⟩
  have HCS := Lib.hid hcs
  clear hbA hcA hcs
  refine (CRight_any _ _ _ _ HCS.out (fun k hk => by simp; omega)).mono ?_
  rintro e w8 ⟨rfl, hb8⟩
  have HB8 : Hid (Below w6.heap.size w6 w8) := Lib.hid (HBA.out.trans (hb8.mono HBA.out.size))
  rw [yes_t (by intro p hp; rw [List.mem_singleton.1 hp]; exact ex3_ok)]
  obtain ⟨c0, c1, -, -, cz⟩ := block2' (old_below HCX6.out HB8.out)
  clear hb8 HCS HBA d0 d1 dz
  go_wp2_with fail
  have HM1 := Lib.hid (Majority_any m8x3 [1, 3] _ _ _ (.slice none 0 0) _ (w8.alloc (.cells #[.int .i64 1, .int .i64 3] 3)) (HL3.out _ (HB8.out.alloc HB8.out.size _)) (.inl ⟨rfl, Bare.nil⟩) (fun k hk => by have := HB8.out.size; simp; omega) (by simp [m8x3]) (RepI.lit (w := w8) (l := [1, 3]) (n := 2) rfl rfl (by simp) (In64.small (by simp)) rfl) (fun k hk => by simpa using hk) (by simp))
  rw [yes_t (show maj m8x3 [1, 3] by unfold maj m8x3; decide)] at HM1
  refine HM1.out.mono ?_
  rintro e w9 ⟨rfl, hb9⟩
  have HB9 : Hid (Below w6.heap.size w6 w9) := Lib.hid ((HB8.out.alloc HB8.out.size _).trans (hb9.mono (by have := HB8.out.size; simp; omega)))
  clear hb9 HM1 c0 c1 cz
  obtain ⟨c0, c1, -, -, cz⟩ := block2' (old_below HCX6.out HB9.out)
  go_wp2_with fail
  have HM2 := Lib.hid (Majority_any m8x3 [1, 1] _ _ _ (.slice none 0 0) _ (w9.alloc (.cells #[.int .i64 1, .int .i64 1] 3)) (HL3.out _ (HB9.out.alloc HB9.out.size _)) (.inl ⟨rfl, Bare.nil⟩) (fun k hk => by have := HB9.out.size; simp; omega) (by simp [m8x3]) (RepI.lit (w := w9) (l := [1, 1]) (n := 2) rfl rfl (by simp) (In64.small (by simp)) rfl) (fun k hk => by simpa using hk) (by simp))
  rw [yes_f (show ¬ maj m8x3 [1, 1] by unfold maj m8x3; decide)] at HM2
  refine HM2.out.mono ?_
  rintro e w10 ⟨rfl, hb10⟩
  have HB10 : Hid (Below w6.heap.size w6 w10) := Lib.hid ((HB9.out.alloc HB9.out.size _).trans (hb10.mono (by have := HB9.out.size; simp; omega)))
  clear hb10 HM2 c0 c1 cz
  obtain ⟨c0, c1, -, -, cz⟩ := block2' (old_below HCD6.out HB10.out)
  go_wp2_with fail
  have HBB : Hid (Below w6.heap.size w6 (w10.alloc (.cells #[.int .i64 1, .int .i64 2, .int .i64 3, .int .i64 4] 3))) := Lib.hid (HB10.out.alloc HB10.out.size _)
  have HM3 := Lib.hid (RefSame_any ⟨[1, 2, 3, 4], []⟩ ⟨[1, 2, 3, 4], []⟩ (fun b => b < w6.heap.size) (fun b => b < w10.heap.size + 1) _ _ _ (.slice none 0 0) (w10.alloc (.cells #[.int .i64 1, .int .i64 2, .int .i64 3, .int .i64 4] 3)) (HD4.out _ HBB.out).1 (HD4.out _ HBB.out).2 (RepI.lit (w := w10) (l := [1, 2, 3, 4]) (n := 4) rfl rfl (by simp) (In64.small (by simp)) rfl) (.inl ⟨rfl, Bare.nil⟩) (fun k hk => Nat.lt_of_lt_of_le hk HBB.out.size) (fun k hk => by simpa using hk))
  rw [yes_t rfl] at HM3
  refine HM3.out.mono ?_
  rintro e w11 ⟨rfl, hb11⟩
  have HB11 : Hid (Below w6.heap.size w6 w11) := Lib.hid (HBB.out.trans (hb11.mono HBB.out.size))
  clear hb11 HM3 c0 c1 cz
  obtain ⟨c0, c1, -, -, cz⟩ := block2' (old_below HCD6.out HB11.out)
  go_wp2_with fail
  have HM4 := Lib.hid (Quorum_any ⟨[1, 2, 3, 4], []⟩ (fun b => b < w6.heap.size) _ _ w11 (HD4.out _ HB11.out).1 (HD4.out _ HB11.out).2 (by simp))
  refine HM4.out.mono ?_
  rintro e w12 ⟨rfl, hb12⟩
  have HB12 : Hid (Below w.heap.size w w12) := Lib.hid (HB6.out.trans ((HB11.out.trans (hb12.mono HB11.out.size)).mono HB6.out.size))
  clear hb12 HM4 c0 c1 cz
  go_wp2_with fail
  go_ret
  exact ⟨rfl, HB12.out⟩

set_option maxRecDepth 20000 in
theorem small_any (c : Cf) (F : Nat → Prop) (vv lv : Value) (w : World) (hv : RepI w F c.v vv) (hl : RepI w F c.l lv) :
    Calls Try.prog 5 #[.agg #[vv, lv]] w fun e w' => e = .returned (.bool (decide (c.v.length ≤ 60 ∧ c.l.length ≤ 60))) ∧ Below w.heap.size w w' := by
  obtain ⟨a, k, rfl, -⟩ := hv.slice
  obtain ⟨a', k', rfl, -⟩ := hl.slice
  obtain ⟨n, hn⟩ : ∃ n, n = c.v.length := ⟨_, rfl⟩
  obtain ⟨m, hm⟩ : ∃ m, m = c.l.length := ⟨_, rfl⟩
  rw [← hn, ← hm]
  obtain ⟨y, hy⟩ : ∃ y, y = decide (n ≤ 60 ∧ m ≤ 60) := ⟨_, rfl⟩
  rw [← hy]
  have HY := Lib.hid hy
  clear hv hl hn hm hy
  by_cases h1 : n ≤ 60
  · have q1 : decide ((n : Int) ≤ 60) = true := decide_eq_true (by omega)
    have HE : Hid (y = decide ((m : Int) ≤ 60)) := Lib.hid (by rw [HY.out]; rw [decide_eq_decide]; omega)
    go_enter Try.func5, Try.ntmps5
    go_wp2_with fail
    go_ret
    exact ⟨by rw [HE.out]; rfl, below_alloc _ _⟩
  · have q1 : decide ((n : Int) ≤ 60) = false := decide_eq_false (by omega)
    have HE : Hid (y = false) := Lib.hid (by rw [HY.out]; exact decide_eq_false (by omega))
    go_enter Try.func5, Try.ntmps5
    go_wp2_with fail
    go_ret
    exact ⟨by rw [HE.out]; rfl, below_alloc _ _⟩
end Go.Proofs.Ytdngfbljcmbniaa.M
