/- The statements' examples: awake; lists that aren't too long. Rows of ints and a block for a configuration, all of the call's own, apart from one another: what a region that draws its order makes one by one. -/
import Derived.Test.YtfdlpmphgojlhaaMM14
import Derived.Test.YtfdlpmphgojlhaaMM15
import Derived.Test.YtfdlpmphgojlhaaMM17
import Derived.Test.YtfdlpmphgojlhaaMM16
/- Part: MmU. -/
namespace Go.Proofs.Ytfdlpmphgojlhaa.M
open Go.RowKit

/-- Ints in a new block. -/
theorem RepI.lit {w : World} {l : List Int} {g : Nat} {cs : Array Value} (hg : g = w.heap.size) (hc : cs = (l.map intV).toArray) (hl : l.length ≤ 1000000) (hr : In64 l) {n : Nat} (hn : n = l.length) :
    RepI (w.alloc (.cells cs 3)) (fun b => b < w.heap.size + 1) l (.slice (some ⟨g, 0, none⟩) n n) := by
  subst hg hc hn
  refine .inr ⟨w.heap.size, 0, l.length, rfl, by omega, Nat.le_refl _, by omega, fun i hi => ⟨?_, hr _ (List.getElem_mem hi)⟩⟩
  have := cell_of_row _ w.heap.size (0 + i) _ _ _ (heap_alloc_new w (.cells (l.map intV).toArray 3))
  rw [this]
  simp [hi, intV]

theorem In64.small {l : List Int} (h : ∀ x ∈ l, 0 ≤ x ∧ x ≤ 1000000) : In64 l := fun x hx => by have := h x hx; omega

def ex3 : Cf := ⟨[1, 2, 3], []⟩
def ex1 : Cf := ⟨[1], []⟩

theorem rise_of {l : List Int} (h1 : ∀ x ∈ l, okN x) (h2 : l.Pairwise (· < ·)) : Rise l := ⟨h1, h2⟩

theorem ex3_ok : ex3.ok := ⟨by simp [ex3], by simp [ex3], ⟨by simp [ex3, okN], by simp [ex3]⟩, ⟨by simp [ex3], by simp [ex3]⟩, by simp [ex3]⟩
theorem ex1_ok : ex1.ok := ⟨by simp [ex1], by simp [ex1], ⟨by simp [ex1, okN], by simp [ex1]⟩, ⟨by simp [ex1], by simp [ex1]⟩, by simp [ex1]⟩

theorem ex3_next : nextAll ex3 [(1, 4), (2, 4)] = (⟨[1, 2, 3, 4], []⟩, 0) := by
  unfold nextAll
  rw [if_pos ex3_ok]
  rfl

theorem ex1_next : nextAll ex1 [(3, 1)] = (cf0, 81) := by
  unfold nextAll
  rw [if_pos ex1_ok]
  rfl

set_option maxRecDepth 20000 in
set_option maxHeartbeats 6400000 in
theorem awake8_any (w : World) : Calls Try.prog 8 #[] w fun e w' => e = .returned (.bool true) ∧ Below w.heap.size w w' := by
  obtain ⟨W3, hW3⟩ : ∃ W3, W3 = ((w.alloc (.cells #[.int .i64 1, .int .i64 2, .int .i64 3] 3)).alloc (.cells #[.slice (some ⟨w.heap.size, 0, none⟩) 3 3, .slice none 0 0] 24)).alloc (.cells #[.int .i64 1, .int .i64 4, .int .i64 2, .int .i64 4] 48) := ⟨_, rfl⟩
  have HW3 := Lib.hid hW3
  clear hW3
  go_enter Try.func8, Try.ntmps8
  go_wp2_with fail
  rw [← HW3.out]
  have hb3 : Below w.heap.size w W3 := by rw [HW3.out]; exact (((Below.refl _ w).alloc (Nat.le_refl _) _).alloc (by simp) _).alloc (by simp; omega) _
  have hz3 : W3.heap.size = w.heap.size + 3 := by rw [HW3.out]; simp
  have hr0 : RepI W3 (fun b => b < w.heap.size + 1) [1, 2, 3] (.slice (some ⟨w.heap.size, 0, none⟩) 3 3) := by
    have h := RepI.lit (w := w) (l := [1, 2, 3]) rfl rfl (by simp) (In64.small (by simp)) (n := 3) rfl
    rw [HW3.out]
    exact (h.below (fun k hk => by simpa using hk) (below_alloc _ _)).below (fun k hk => by simp; omega) (below_alloc _ _)
  have hcx : W3.heap[w.heap.size + 1]? = some (.cells #[.slice (some ⟨w.heap.size, 0, none⟩) 3 3, .slice none 0 0] 24) := by rw [HW3.out]; exact old_alloc (heap_new _ _ _ (by simp))
  have hch : W3.heap[w.heap.size + 1 + 1]? = some (.cells #[.int .i64 1, .int .i64 4, .int .i64 2, .int .i64 4] 48) := by rw [HW3.out]; exact heap_new _ _ _ (by simp)
  have hp0 : RepPr W3 (fun b => b < W3.heap.size) [(1, 4), (2, 4)] (.slice (some ⟨w.heap.size + 1 + 1, 0, none⟩) 2 2) := .inr ⟨_, 0, 2, rfl, by omega, by simp, by omega, fun i hi => by
    have h0 := fun j => cell_of_row W3 _ j _ _ _ hch
    have hi2 : i < 2 := by simpa using hi
    rcases (show i = 0 ∨ i = 1 by omega) with rfl | rfl
    · exact ⟨h0 0, h0 1⟩
    · exact ⟨h0 2, h0 3⟩⟩
  have HC1 := Next_any ex3 [(1, 4), (2, 4)] (fun b => b < W3.heap.size) (fun b => b < W3.heap.size) _ (.slice none 0 0) _ W3 (hr0.same (fun k hk => by omega) fun _ _ => rfl) (.inl ⟨rfl, Bare.nil⟩) (fun k hk => hk) (by simp [ex3]) hp0 (fun k hk => hk)
  rw [ex3_next] at HC1
  have HB3 := Lib.hid hb3
  have HZ3 := Lib.hid hz3
  have HR0 := Lib.hid hr0
  have HCX := Lib.hid hcx
  have HCALL := Lib.hid HC1
  clear hb3 hz3 hr0 hcx hch hp0 HC1
  refine HCALL.out.mono ?_
  rintro e w4 ⟨hb4, v4, l4, rfl, hv4, hl4⟩
  obtain ⟨a4, k4, hva⟩ := hv4.slice
  obtain ⟨a5, k5, hla⟩ := hl4.slice
  simp only [List.length_cons, List.length_nil] at hva hla
  obtain ⟨hva, -⟩ := hva
  obtain ⟨hla, -⟩ := hla
  subst hva hla
  have HB4 : Hid (Below w.heap.size w w4) := Lib.hid (HB3.out.trans (hb4.mono HB3.out.size))
  have HV4 := Lib.hid hv4
  have HL4 := Lib.hid hl4
  have HR4 := Lib.hid (HR0.out.below (fun k hk => by rw [HZ3.out]; omega) hb4)
  have HCX4 := Lib.hid (old_below HCX.out hb4)
  obtain ⟨c0, c1, -, -, cz⟩ := block2' HCX4.out
  have HSZ : Hid (w.heap.size + 3 ≤ w4.heap.size) := Lib.hid (by have := HZ3.out; have := hb4.size; omega)
  clear hb4 hv4 hl4
  go_wp2_with fail
  obtain ⟨W5, hW5⟩ : ∃ W5, W5 = ((w4.alloc (.cells #[.slice a4 4 k4, .slice a5 0 k5] 24)).alloc (.cells #[.int .i64 1] 3)).alloc (.cells #[.int .i64 3, .int .i64 1] 48) := ⟨_, rfl⟩
  rw [← hW5]
  have hb5 : Below w4.heap.size w4 W5 := by rw [hW5]; exact (((Below.refl _ w4).alloc (Nat.le_refl _) _).alloc (by simp) _).alloc (by simp; omega) _
  have hz5 : W5.heap.size = w4.heap.size + 3 := by rw [hW5]; simp
  have hr1 : RepI W5 (fun b => b < W5.heap.size) [1] (.slice (some ⟨w4.heap.size + 1, 0, none⟩) 1 1) := by
    have h := RepI.lit (w := w4.alloc (.cells #[.slice a4 4 k4, .slice a5 0 k5] 24)) (l := [1]) (g := w4.heap.size + 1) (by simp) rfl (by simp) (In64.small (by simp)) (n := 1) rfl
    rw [hW5]
    exact (h.below (fun k hk => by simpa using hk) (below_alloc _ _)).same (fun k hk => by simp at hk ⊢; omega) fun _ _ => rfl
  have hcd : W5.heap[w4.heap.size]? = some (.cells #[.slice a4 4 k4, .slice a5 0 k5] 24) := by rw [hW5]; exact old_alloc (old_alloc (heap_alloc_new w4 _))
  have hch : W5.heap[w4.heap.size + 1 + 1]? = some (.cells #[.int .i64 3, .int .i64 1] 48) := by rw [hW5]; exact heap_new _ _ _ (by simp)
  have hp0 : RepPr W5 (fun b => b < W5.heap.size) [(3, 1)] (.slice (some ⟨w4.heap.size + 1 + 1, 0, none⟩) 1 1) := .inr ⟨_, 0, 1, rfl, by omega, by simp, by omega, fun i hi => by
    have h0 := fun j => cell_of_row W5 _ j _ _ _ hch
    obtain rfl : i = 0 := by simpa using hi
    exact ⟨h0 0, h0 1⟩⟩
  have HC1 := Next_any ex1 [(3, 1)] (fun b => b < W5.heap.size) (fun b => b < W5.heap.size) _ (.slice none 0 0) _ W5 hr1 (.inl ⟨rfl, Bare.nil⟩) (fun k hk => hk) (by simp [ex1]) hp0 (fun k hk => hk)
  rw [ex1_next] at HC1
  have HB5 : Hid (Below w.heap.size w W5) := Lib.hid (HB4.out.trans (hb5.mono HB4.out.size))
  have HR5 := Lib.hid (HR4.out.below (fun k hk => by have := HB4.out.size; have := HB3.out.size; have := HZ3.out; omega) hb5)
  have HV5 := Lib.hid (HV4.out.below (fun k hk => hk.2) hb5)
  have HL5 := Lib.hid (HL4.out.below (fun k hk => hk.2) hb5)
  have HZ5 := Lib.hid hz5
  have HCX5 := Lib.hid (old_below HCX4.out hb5)
  have HCD5 := Lib.hid hcd
  have HCALL2 := Lib.hid HC1
  clear hW5 hb5 hz5 hr1 hcd hch hp0 HC1 c0 c1 cz
  refine HCALL2.out.mono ?_
  rintro e w6 ⟨hb6, v6, l6, rfl, hv6, hl6⟩
  obtain ⟨a6, k6, hva⟩ := hv6.slice
  obtain ⟨a7, k7, hla⟩ := hl6.slice
  simp only [cf0, List.length_nil] at hva hla
  obtain ⟨hva, -⟩ := hva
  obtain ⟨hla, -⟩ := hla
  subst hva hla
  have HB6 : Hid (Below w.heap.size w w6) := Lib.hid (HB5.out.trans (hb6.mono HB5.out.size))
  have HL3 : Hid (∀ w', Below w6.heap.size w6 w' → RepI w' (fun b => b < w6.heap.size) [1, 2, 3] (.slice (some ⟨w.heap.size, 0, none⟩) 3 3)) := Lib.hid fun w' hb' =>
    (((HR5.out.below (fun k hk => by have := HB5.out.size; have := HZ5.out; have := HSZ.out; omega) hb6).below (fun k hk => by have := HB5.out.size; have := HZ5.out; have := HSZ.out; have := hb6.size; omega) hb').same (fun k hk => by have := HB5.out.size; have := HZ5.out; have := HSZ.out; have := hb6.size; omega) fun _ _ => rfl)
  have HD4 : Hid (∀ w', Below w6.heap.size w6 w' → RepI w' (fun b => b < w6.heap.size) [1, 2, 3, 4] (.slice a4 4 k4) ∧ RepI w' (fun b => b < w6.heap.size) [] (.slice a5 0 k5)) := Lib.hid fun w' hb' =>
    ⟨((HV5.out.below (fun k hk => by have := hk.2; have := HZ5.out; omega) hb6).below (fun k hk => by have := hk.2; have := HZ5.out; have := hb6.size; omega) hb').same (fun k hk => by have := hk.2; have := HZ5.out; have := hb6.size; omega) fun _ _ => rfl,
     ((HL5.out.below (fun k hk => by have := hk.2; have := HZ5.out; omega) hb6).below (fun k hk => by have := hk.2; have := HZ5.out; have := hb6.size; omega) hb').same (fun k hk => by have := hk.2; have := HZ5.out; have := hb6.size; omega) fun _ _ => rfl⟩
  have HCX6 := Lib.hid (old_below HCX5.out hb6)
  have HCD6 := Lib.hid (old_below HCD5.out hb6)
  obtain ⟨c0, c1, -, -, cz⟩ := block2' HCX6.out
  obtain ⟨d0, d1, -, -, dz⟩ := block2' HCD6.out
  clear hb6 hv6 hl6
  go_wp2_with fail
  have hbA : Below w6.heap.size w6 ((w6.alloc (.cells #[.slice a6 0 k6, .slice a7 0 k7] 24)).alloc (.cells #[.slice (some ⟨w.heap.size, 0, none⟩) 3 3, .slice none 0 0] 24)) := ((Below.refl _ w6).alloc (Nat.le_refl _) _).alloc (by simp) _
  have hcA : ((w6.alloc (.cells #[.slice a6 0 k6, .slice a7 0 k7] 24)).alloc (.cells #[.slice (some ⟨w.heap.size, 0, none⟩) 3 3, .slice none 0 0] 24)).heap[w6.heap.size + 1]? = some (.cells #[.slice (some ⟨w.heap.size, 0, none⟩) 3 3, .slice none 0 0] 24) := heap_new _ _ _ (by simp)
  have HBA := Lib.hid hbA
  have hcs : RepCs ((w6.alloc (.cells #[.slice a6 0 k6, .slice a7 0 k7] 24)).alloc (.cells #[.slice (some ⟨w.heap.size, 0, none⟩) 3 3, .slice none 0 0] 24)) (fun b => b < w6.heap.size + 2) [⟨ex3, .slice (some ⟨w.heap.size, 0, none⟩) 3 3, .slice none 0 0⟩] (.slice (some ⟨w6.heap.size + 1, 0, none⟩) 1 1) :=
    ⟨fun p hp => by
      rw [List.mem_singleton.1 hp]
      exact ⟨(HL3.out _ hbA).same (fun k hk => by omega) fun _ _ => rfl, .inl ⟨rfl, Bare.nil⟩, by simp [ex3]⟩, .inr ⟨_, 0, 1, rfl, by omega, by simp, by omega, fun i hi => by
      obtain rfl : i = 0 := by simpa using hi
      exact ⟨cell_of_row _ _ 0 _ _ _ hcA, cell_of_row _ _ 1 _ _ _ hcA⟩⟩⟩
  have HCS := Lib.hid hcs
  clear hbA hcA hcs
  refine (Right_any _ _ _ _ HCS.out (fun k hk => by simp; omega)).mono ?_
  rintro e w8 ⟨rfl, hb8⟩
  have HB8 : Hid (Below w6.heap.size w6 w8) := Lib.hid (HBA.out.trans (hb8.mono HBA.out.size))
  rw [yes_t (by intro p hp; rw [List.mem_singleton.1 hp]; exact ex3_ok)]
  obtain ⟨c0, c1, -, -, cz⟩ := block2' (old_below HCX6.out HB8.out)
  clear hb8 HCS HBA d0 d1 dz
  go_wp2_with fail
  have HM1 := Lib.hid (Majority_any ex3 [1, 3] _ _ _ (.slice none 0 0) _ (w8.alloc (.cells #[.int .i64 1, .int .i64 3] 3)) (HL3.out _ (HB8.out.alloc HB8.out.size _)) (.inl ⟨rfl, Bare.nil⟩) (fun k hk => by have := HB8.out.size; simp; omega) (by simp [ex3]) (RepI.lit (w := w8) (l := [1, 3]) (n := 2) rfl rfl (by simp) (In64.small (by simp)) rfl) (fun k hk => by simpa using hk) (by simp))
  rw [yes_t (show maj ex3 [1, 3] by unfold maj ex3; decide)] at HM1
  refine HM1.out.mono ?_
  rintro e w9 ⟨rfl, hb9⟩
  have HB9 : Hid (Below w6.heap.size w6 w9) := Lib.hid ((HB8.out.alloc HB8.out.size _).trans (hb9.mono (by have := HB8.out.size; simp; omega)))
  clear hb9 HM1 c0 c1 cz
  obtain ⟨c0, c1, -, -, cz⟩ := block2' (old_below HCX6.out HB9.out)
  go_wp2_with fail
  have HM2 := Lib.hid (Majority_any ex3 [1, 1] _ _ _ (.slice none 0 0) _ (w9.alloc (.cells #[.int .i64 1, .int .i64 1] 3)) (HL3.out _ (HB9.out.alloc HB9.out.size _)) (.inl ⟨rfl, Bare.nil⟩) (fun k hk => by have := HB9.out.size; simp; omega) (by simp [ex3]) (RepI.lit (w := w9) (l := [1, 1]) (n := 2) rfl rfl (by simp) (In64.small (by simp)) rfl) (fun k hk => by simpa using hk) (by simp))
  rw [yes_f (show ¬ maj ex3 [1, 1] by unfold maj ex3; decide)] at HM2
  refine HM2.out.mono ?_
  rintro e w10 ⟨rfl, hb10⟩
  have HB10 : Hid (Below w6.heap.size w6 w10) := Lib.hid ((HB9.out.alloc HB9.out.size _).trans (hb10.mono (by have := HB9.out.size; simp; omega)))
  clear hb10 HM2 c0 c1 cz
  obtain ⟨c0, c1, -, -, cz⟩ := block2' (old_below HCD6.out HB10.out)
  go_wp2_with fail
  have HBB : Hid (Below w6.heap.size w6 (w10.alloc (.cells #[.int .i64 1, .int .i64 2, .int .i64 3, .int .i64 4] 3))) := Lib.hid (HB10.out.alloc HB10.out.size _)
  have HM3 := Lib.hid (RefSame_any ⟨[1, 2, 3, 4], []⟩ ⟨[1, 2, 3, 4], []⟩ (fun b => b < w6.heap.size) (fun b => b < w10.heap.size + 1) _ _ _ (.slice none 0 0) (w10.alloc (.cells #[.int .i64 1, .int .i64 2, .int .i64 3, .int .i64 4] 3)) (HD4.out _ HBB.out).1 (HD4.out _ HBB.out).2 (RepI.lit (w := w10) (l := [1, 2, 3, 4]) (n := 4) rfl rfl (by simp) (In64.small (by simp)) rfl) (.inl ⟨rfl, Bare.nil⟩) (fun k hk => Nat.lt_of_lt_of_le hk HBB.out.size) (fun k hk => by simpa using hk))
  rw [yes_t rfl] at HM3
  refine HM3.out.mono ?_
  rintro e w11 ⟨rfl, hb11⟩
  have HB11 : Hid (Below w6.heap.size w6 w11) := Lib.hid (HBB.out.trans (hb11.mono HBB.out.size))
  clear hb11 HM3 c0 c1 cz
  obtain ⟨c0, c1, -, -, cz⟩ := block2' (old_below HCD6.out HB11.out)
  go_wp2_with fail
  have HM4 := Lib.hid (Quorum_any ⟨[1, 2, 3, 4], []⟩ (fun b => b < w6.heap.size) _ _ w11 (HD4.out _ HB11.out).1 (HD4.out _ HB11.out).2 (by simp))
  refine HM4.out.mono ?_
  rintro e w12 ⟨rfl, hb12⟩
  have HB12 : Hid (Below w.heap.size w w12) := Lib.hid (HB6.out.trans ((HB11.out.trans (hb12.mono HB11.out.size)).mono HB6.out.size))
  clear hb12 HM4 c0 c1 cz
  go_wp2_with fail
  go_ret
  exact ⟨rfl, HB12.out⟩

set_option maxRecDepth 20000 in
theorem small_any (c : Cf) (F : Nat → Prop) (vv lv : Value) (w : World) (hv : RepI w F c.v vv) (hl : RepI w F c.l lv) :
    Calls Try.prog 9 #[.agg #[vv, lv]] w fun e w' => e = .returned (.bool (decide (c.v.length ≤ 60 ∧ c.l.length ≤ 60))) ∧ Below w.heap.size w w' := by
  obtain ⟨a, k, rfl, -⟩ := hv.slice
  obtain ⟨a', k', rfl, -⟩ := hl.slice
  obtain ⟨n, hn⟩ : ∃ n, n = c.v.length := ⟨_, rfl⟩
  obtain ⟨m, hm⟩ : ∃ m, m = c.l.length := ⟨_, rfl⟩
  rw [← hn, ← hm]
  obtain ⟨y, hy⟩ : ∃ y, y = decide (n ≤ 60 ∧ m ≤ 60) := ⟨_, rfl⟩
  rw [← hy]
  have HY := Lib.hid hy
  clear hv hl hn hm hy
  by_cases h1 : n ≤ 60
  · have q1 : decide ((n : Int) ≤ 60) = true := decide_eq_true (by omega)
    have HE : Hid (y = decide ((m : Int) ≤ 60)) := Lib.hid (by rw [HY.out]; rw [decide_eq_decide]; omega)
    go_enter Try.func9, Try.ntmps9
    go_wp2_with fail
    go_ret
    exact ⟨by rw [HE.out]; rfl, below_alloc _ _⟩
  · have q1 : decide ((n : Int) ≤ 60) = false := decide_eq_false (by omega)
    have HE : Hid (y = false) := Lib.hid (by rw [HY.out]; exact decide_eq_false (by omega))
    go_enter Try.func9, Try.ntmps9
    go_wp2_with fail
    go_ret
    exact ⟨by rw [HE.out]; rfl, below_alloc _ _⟩
end Go.Proofs.Ytfdlpmphgojlhaa.M

/- Part: MmV. -/
namespace Go.Proofs.Ytfdlpmphgojlhaa.M
open Go.RowKit

def apartV (a b : List Int × Value) : Prop := a.2.ownBlock = b.2.ownBlock → a.2.ownBlock = none

theorem apartV_symm {a b : List Int × Value} (h : apartV a b) : apartV b a := fun e => by
  rw [e]; exact h e.symm

/-- Since W nothing has turned below; the rows rs are of the call's own and apart; the blocks gs hold the zero configuration. -/
structure Mk (W : World) (rs : List (List Int × Value)) (gs : List Nat) (w : World) : Prop where
  below : Below W.heap.size W w
  rows : ∀ r ∈ rs, IR W.heap.size r.1 r.2 w
  apart : rs.Pairwise apartV
  boxes : ∀ g ∈ gs, W.heap.size ≤ g ∧ w.heap[g]? = some (.cells #[.slice none 0 0, .slice none 0 0] 24) ∧ ∀ r ∈ rs, r.2.ownBlock ≠ some g

theorem Mk.start (W w : World) (h : Below W.heap.size W w) : Mk W [] [] w := ⟨h, fun _ h => by simp at h, List.Pairwise.nil, fun _ h => by simp at h⟩

theorem Mk.lit {W w : World} {rs : List (List Int × Value)} {gs : List Nat} (h : Mk W rs gs w) {g : Nat} (hg : g = w.heap.size) : Mk W (([], .slice (some ⟨g, 0, none⟩) 0 0) :: rs) gs (w.alloc (.cells #[] 3)) := by
  subst hg
  have hb := below_alloc w (.cells #[] 3)
  refine ⟨h.below.alloc h.below.size _, fun r hr => ?_, List.pairwise_cons.2 ⟨fun r hr e => ?_, h.apart⟩, fun g hg => ?_⟩
  · rcases List.mem_cons.1 hr with rfl | hr
    · exact IR.of_block rfl h.below.size (heap_alloc_new w _) (by simp) (by omega) rfl rfl (fun _ h => by simp at h)
    · exact (h.rows r hr).next hb
  · have := ((h.rows r hr).block_lt (by rw [← e]; rfl)).2
    exact absurd this (Nat.lt_irrefl _)
  · obtain ⟨h1, h2, h3⟩ := h.boxes g hg
    refine ⟨h1, old_below h2 hb, fun r hr => ?_⟩
    rcases List.mem_cons.1 hr with rfl | hr
    · intro e
      have e' : w.heap.size = g := by simpa [Value.ownBlock] using e
      have := lt_of_heap h2
      omega
    · exact h3 r hr

theorem Mk.zero {W w : World} {rs : List (List Int × Value)} {gs : List Nat} (h : Mk W rs gs w) {g : Nat} (hg : g = w.heap.size) : Mk W rs (g :: gs) (w.alloc (.cells #[.slice none 0 0, .slice none 0 0] 24)) := by
  subst hg
  have hb := below_alloc w (.cells #[.slice none 0 0, .slice none 0 0] 24)
  refine ⟨h.below.alloc h.below.size _, fun r hr => (h.rows r hr).next hb, h.apart, fun g hg => ?_⟩
  rcases List.mem_cons.1 hg with rfl | hg
  · exact ⟨h.below.size, heap_alloc_new w _, fun r hr e => by have := ((h.rows r hr).block_lt e).2; exact absurd this (Nat.lt_irrefl _)⟩
  · obtain ⟨h1, h2, h3⟩ := h.boxes g hg
    exact ⟨h1, old_below h2 hb, h3⟩

theorem Mk.app {W w w' : World} {l l' : List Int} {v v' : Value} {rs : List (List Int × Value)} {gs : List Nat} (h : Mk W ((l, v) :: rs) gs w) (ht : Turned W.heap.size l' v v' w w') : Mk W ((l', v') :: rs) gs w' := by
  obtain ⟨ha, hp⟩ := List.pairwise_cons.1 h.apart
  have hv := h.rows _ (List.mem_cons_self ..)
  refine ⟨h.below.trans (ht.below hv h.below.size), fun r hr => ?_, List.pairwise_cons.2 ⟨fun r hr e => ?_, hp⟩, fun g hg => ?_⟩
  · rcases List.mem_cons.1 hr with rfl | hr
    · exact ht.1
    · refine (h.rows r (List.mem_cons_of_mem _ hr)).kept ht.2.1 fun e => ?_
      rw [e]; exact ha r hr e.symm
  · have e2 : v'.ownBlock = r.2.ownBlock := e
    show v'.ownBlock = none
    rcases ht.2.2 with h1 | ⟨g, h1, hg⟩
    · rw [h1]; exact ha r hr (h1.symm.trans e2)
    · have := ((h.rows r (List.mem_cons_of_mem _ hr)).block_lt (e2.symm.trans h1)).2
      omega
  · obtain ⟨h1, h2, h3⟩ := h.boxes g hg
    have hn := h3 _ (List.mem_cons_self ..)
    refine ⟨h1, ht.old h2 hn, fun r hr => ?_⟩
    rcases List.mem_cons.1 hr with rfl | hr
    · exact ht.block (lt_of_heap h2) hn
    · exact h3 r (List.mem_cons_of_mem _ hr)

theorem Mk.swap {W w : World} {a b : List Int × Value} {rs : List (List Int × Value)} {gs : List Nat} (h : Mk W (a :: b :: rs) gs w) : Mk W (b :: a :: rs) gs w := by
  refine ⟨h.below, fun r hr => h.rows r (by simp only [List.mem_cons] at hr ⊢; rcases hr with h | h | h <;> simp [h]), ?_, fun g hg => ?_⟩
  · obtain ⟨h1, h2⟩ := List.pairwise_cons.1 h.apart
    obtain ⟨h3, h4⟩ := List.pairwise_cons.1 h2
    refine List.pairwise_cons.2 ⟨fun r hr => ?_, List.pairwise_cons.2 ⟨fun r hr => h1 r (List.mem_cons_of_mem _ hr), h4⟩⟩
    rcases List.mem_cons.1 hr with rfl | hr
    · exact apartV_symm (h1 _ (List.mem_cons_self ..))
    · exact h3 r hr
  · obtain ⟨h1, h2, h3⟩ := h.boxes g hg
    exact ⟨h1, h2, fun r hr => h3 r (by simp only [List.mem_cons] at hr ⊢; rcases hr with h | h | h <;> simp [h])⟩

theorem Mk.drew {W w : World} {rs : List (List Int × Value)} {gs : List Nat} (h : Mk W rs gs w) : Mk W rs gs w.drew :=
  ⟨h.below.drew, fun r hr => (h.rows r hr).next (below_drew1 w), h.apart, fun g hg => h.boxes g hg⟩

/-- The configuration is written. -/
theorem Mk.done {W w : World} {a b : List Int} {v l : Value} {g : Nat} (h : Mk W [(b, l), (a, v)] [g] w) : NX W.heap.size g v l ⟨a, b⟩ v l ((w.setCell ⟨g, 0, none⟩ v).setCell ⟨g, 1, none⟩ l) ∧ Below W.heap.size W ((w.setCell ⟨g, 0, none⟩ v).setCell ⟨g, 1, none⟩ l) := by
  obtain ⟨h1, h2, h3⟩ := h.boxes g (by simp)
  have hl := h3 (b, l) (by simp)
  have hv := h3 (a, v) (by simp)
  have ha := (List.pairwise_cons.1 h.apart).1 (a, v) (by simp)
  refine ⟨⟨(heap_set22 h2), ⟨((h.rows (a, v) (by simp)).set hv).set hv, ((h.rows (b, l) (by simp)).set hl).set hl, fun e => by rw [e]; exact ha e.symm⟩, h1, hv, hl⟩, (h.below.setCell h1 _).setCell h1 _⟩

/-- An append, at a step of a region that draws its order. -/
theorem wp_ir_append {w : World} {o : Oper} {a : Act} {K : Act → World → Prop} {Q : Exit → Act → World → Prop} (s y : Operand)
    (ho : o.op = .call { callee := .builtin .append, args := #[s, y], argTypes := #[22, 22] }) (_hty : o.type = 22)
    {base : Nat} {L L2 : List Int} {v x : Value} {F : Nat → Prop} (hs : a.eval s = v) (hown : IR base L v w) (hbase : base ≤ w.heap.size) (hy : a.eval y = x) (hx : RepI w F L2 x) (hl : L.length + L2.length ≤ 17592186044416)
    (h : ∀ v' w', Turned base (L ++ L2) v v' w w' → K (a.put o.dst v') w') : o.wp Try.prog a w K Q := by
  obtain ⟨ib, hib, hib0, hib1, hib2⟩ := info_parts infoInt
  exact wp_append_any w s y 22 ho base 3 ib (.int .i64 0) 1 8 Try.underlying22 hib hib0 hib1 hib2 rfl (by decide) v L.length (L.map intV) hs hown.own x hy L2.length (L2.map intV) hx.yields
    (by unfold maxLen; omega) (by omega) hbase fun v' w' ha => h v' w' ⟨⟨by rw [List.map_append, List.length_append]; exact ha.1, fun z hz => by
      rcases List.mem_append.1 hz with hz | hz
      · exact hown.rng z hz
      · exact hx.rng z hz⟩, ha.2.1, by
      rcases ha.2.2 with h | h
      · exact .inl h
      · exact .inr ⟨_, h, Nat.le_refl _⟩⟩

/-- One of three comes up next, whichever. -/
theorem H_any3 {P : Program} {md : Region.Mode} {ops : Array Oper} {Q : Exit → Act → World → Prop} {S : World → Prop} {fuel : Nat} {listed : Array Bool} {a : Act} {w : World} {i j k : Nat} {oi oj ok : Oper}
    (hr : Region.ready md ops listed = [i, j, k]) (hi : ops[i]? = some oi) (hj : ops[j]? = some oj) (hk : ops[k]? = some ok) (hwi : Region.wanted oi (yielded ops a.tmps) = true) (hwj : Region.wanted oj (yielded ops a.tmps) = true) (hwk : Region.wanted ok (yielded ops a.tmps) = true)
    (h1 : oi.wp P a w (fun a' w' => S w' ∧ wpAnyH P md ops Q S fuel (listed.setIfInBounds i true) a' w') Q)
    (h2 : oj.wp P a w (fun a' w' => S w' ∧ wpAnyH P md ops Q S fuel (listed.setIfInBounds j true) a' w') Q)
    (h3 : ok.wp P a w (fun a' w' => S w' ∧ wpAnyH P md ops Q S fuel (listed.setIfInBounds k true) a' w') Q) : wpAnyH P md ops Q S (fuel + 1) listed a w :=
  wpAnyH_ready hr (by simp) (AllReadyH.cons hi (fun K' hK => by rw [if_pos hwi]; exact Oper.wp_mono (fun a w h => hK.out a w h.1 fun _ => h.2) h1)
    (AllReadyH.cons hj (fun K' hK => by rw [if_pos hwj]; exact Oper.wp_mono (fun a w h => hK.out a w h.1 fun _ => h.2) h2)
      (AllReadyH.cons hk (fun K' hK => by rw [if_pos hwk]; exact Oper.wp_mono (fun a w h => hK.out a w h.1 fun _ => h.2) h3) AllReadyH.nil)))
end Go.Proofs.Ytfdlpmphgojlhaa.M
