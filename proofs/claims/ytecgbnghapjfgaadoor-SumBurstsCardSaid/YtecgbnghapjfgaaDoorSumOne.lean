/- oneZero: what one byte 0 makes of each bit. -/
import Derived.Test.YtecgbnghapjfgaaDoorSumPass
import Derived.Deep.LoopGhost
namespace Go.Proofs.YtecgbnghapjfgaaDoor.M
open Go.RowKit

/-- The row in the middle of its making: k bits done, the next one led on by j steps. -/
def midf (k j i : Nat) : Nat := if i < k then zF 1 i else if i = k then C.rnds j (2 ^ k) else 0

theorem zRow_put (f g : Nat → Nat) (k v : Nat) (h : k < 32) (hv : g k = v) (ho : ∀ i, i < 32 → i ≠ k → f i = g i) : (zRow f).setIfInBounds k (.int .u32 (v : Int)) = zRow g := by
  apply Array.ext_getElem?
  intro i
  rw [Array.getElem?_setIfInBounds, zRow_size]
  by_cases hi : k = i
  · subst hi
    rw [if_pos rfl, if_pos h, zRow_get _ _ h, hv]
  · rw [if_neg hi]
    by_cases h32 : i < 32
    · rw [zRow_get _ _ h32, zRow_get _ _ h32, ho i h32 fun e => hi e.symm]
    · rw [Array.getElem?_eq_none (by rw [zRow_size]; omega), Array.getElem?_eq_none (by rw [zRow_size]; omega)]

theorem mid_first (k i : Nat) (h : i ≠ k) : upto (zF 1) k i = midf k 0 i := by
  unfold upto midf
  by_cases h1 : i < k
  · rw [if_pos h1, if_pos h1]
  · rw [if_neg h1, if_neg h1, if_neg h]

theorem mid_next (k j i : Nat) (h : i ≠ k) : midf k j i = midf k (j + 1) i := by
  unfold midf
  rw [if_neg h, if_neg h]

theorem mid_at (k j : Nat) : midf k j k = C.rnds j (2 ^ k) := by unfold midf; rw [if_neg (by omega), if_pos rfl]

theorem mid_last (k : Nat) : zRow (midf k 8) = zRow (upto (zF 1) (k + 1)) := by
  unfold zRow
  congr 1
  apply List.map_congr_left
  intro i _
  have : midf k 8 i = upto (zF 1) (k + 1) i := by
    unfold midf upto
    by_cases h1 : i < k
    · rw [if_pos h1, if_pos (by omega)]
    · rw [if_neg h1]
      by_cases h2 : i = k
      · subst h2; rw [if_pos rfl, if_pos (by omega)]; rfl
      · rw [if_neg h2, if_neg (by omega)]
  rw [this]

structure OneAt (w : World) (f : Nat → Nat) (wr : World) : Prop where
  below : Below w.heap.size w wr
  b0 : wr.heap[w.heap.size]? = some (.cells (zRow fun _ => 0) 47)
  b1 : wr.heap[w.heap.size + 1]? = some (.cells (zRow f) 47)

theorem OneAt.put {w wr : World} {f g : Nat → Nat} {k v : Nat} (h : OneAt w f wr) (hk : k < 32) (hv : g k = v) (ho : ∀ i, i < 32 → i ≠ k → f i = g i) : OneAt w g (wr.setCell ⟨w.heap.size + 1, k, none⟩ (.int .u32 (v : Int))) := by
  refine ⟨h.below.setCell (by simp) _, old_set h.b0 (by simp), ?_⟩
  rw [heap_setCell_same _ _ _ _ _ _ h.b1, zRow_put f g k v hk hv ho]

set_option maxRecDepth 20000 in
set_option maxHeartbeats 1600000 in
theorem oneZero_any (w : World) :
    Calls Tryd.prog 18 #[] w fun e w' => e = .returned (.agg (zRow (zF 1))) ∧ Below w.heap.size w w' := by
  have HSZ : ∀ h : Nat → Nat, Hid ((Tryd.prog.info? 47).map (·.size) = some (zRow h).size) := fun h => Lib.hid (by rw [zRow_size]; exact infoZ)
  go_enter Tryd.func18, Tryd.ntmps18
  go_wp2_with fail
  rw [← zRow_none]
  go_loopg [3] 32 (fun g i wr => ∃ k : Nat, i = .int .i64 (k : Int) ∧ k + g = 32 ∧ OneAt w (upto (zF 1) k) wr)
  case atStart =>
    refine ⟨0, rfl, rfl, (below_alloc _ _).alloc (by simp) _, old_alloc (heap_new _ _ _ rfl), ?_⟩
    have : zRow (upto (zF 1) 0) = zRow fun _ => 0 := by simp [upto, zRow]
    rw [this]
    exact heap_new _ _ _ (by simp)
  case round =>
    obtain ⟨k, rfl, hkg, hat⟩ := hrel
    obtain ⟨go, hgo⟩ : ∃ go : Nat, go = gk := ⟨_, rfl⟩
    subst hgo
    have hb2 := lt_of_heap hat.b1
    have HAT := Lib.hid hat
    clear hat
    by_cases hlt : k < 32
    · have hkk : (k : Int) < 32 := by omega
      obtain ⟨p, hp, hpe, hpl⟩ : ∃ p : Nat, (2 : Int) ^ k = (p : Int) ∧ p = 2 ^ k ∧ p < 4294967296 := ⟨2 ^ k, by simp, rfl, Nat.pow_lt_pow_right (by omega) hlt⟩
      obtain ⟨c1, f1, -⟩ := z_cell HAT.out.b1 k hlt
      have HPE := Lib.hid hpe
      have hpl2 : (p : Int) < 4294967296 := by omega
      clear hpe
      go_wp2_with fail
      have H0 : Hid (OneAt w (midf k 0) (wr.setCell ⟨w.heap.size + 1, k, none⟩ (.int .u32 (p : Int)))) := Lib.hid (HAT.out.put hlt (by rw [mid_at, HPE.out]; rfl) fun i _ h => mid_first k i h)
      clear c1 f1 hp hpl hpl2
      obtain ⟨wo, hwo⟩ : ∃ wo : World, wo = wr.setCell ⟨w.heap.size + 1, k, none⟩ (.int .u32 (p : Int)) := ⟨_, rfl⟩
      rw [← hwo] at H0 ⊢
      have HWO := Lib.hid hwo
      clear hwo
      go_loopg [10] 8 (fun g i wr => ∃ j : Nat, i = .int .i64 (j : Int) ∧ j + g = 8 ∧ OneAt w (midf k j) wr)
      case atStart => exact ⟨0, rfl, rfl, H0.out⟩
      case round =>
        obtain ⟨j, rfl, hjg, hat⟩ := hrel
        have hb2 := lt_of_heap hat.b1
        have HA := Lib.hid hat
        clear hat
        by_cases hj : j < 8
        · have hjj : (j : Int) < 8 := by omega
          obtain ⟨c1, f1, -⟩ := z_cell HA.out.b1 k hlt
          have hv : C.rnds j (2 ^ k) < 4294967296 := C.rnds_lt j (Nat.pow_lt_pow_right (by omega) hlt)
          rw [mid_at] at c1
          have HN := Lib.hid (C.rnds_add 1 j (2 ^ k))
          generalize C.rnds j (2 ^ k) = v at *
          have HV := Lib.hid hv
          clear hv
          go_wp2_with (go_at_call 21; refine (step_any v _ HV).mono ?_; rintro e w' ⟨rfl, rfl⟩)
          go_roundg (gk - 1)
          case measure => omega
          case rel => exact ⟨j + 1, by go_num, by omega, HA.out.put hlt (by rw [mid_at, HN.out]; rfl) fun i _ h => mid_next k j i h⟩
        · have hjj : ¬ (j : Int) < 8 := by omega
          obtain rfl : j = 8 := by omega
          have HM := Lib.hid (mid_last k)
          have HB := HA.out
          have HN : Hid (OneAt w (upto (zF 1) (k + 1)) wr) := Lib.hid ⟨HB.below, HB.b0, by rw [← HM.out]; exact HB.b1⟩
          clear HB
          go_wp2_with fail
          go_roundg (go - 1)
          case measure => omega
          case rel => exact ⟨k + 1, by go_num, by omega, HN.out⟩
    · have hkk : ¬ (k : Int) < 32 := by omega
      obtain rfl : k = 32 := by omega
      go_wp2_with (first | (refine wpList_load_row rfl 47 (.tmp 1) rfl (w.heap.size + 1) rfl 47 (zRow (upto (zF 1) 32)) (0, 0) _ HAT.out.b1 Tryd.underlying47 rfl (HSZ _).out ?_) | (refine wpList_store_row rfl 47 (.tmp 0) (.tmp 20) rfl w.heap.size (zRow (upto (zF 1) 32)) rfl rfl 47 _ HAT.out.b0 (HSZ _).out (by rw [zRow_size, zRow_size]) (zRow_one _) ?_))
      refine bodyPost_ret (v := .agg (zRow (upto (zF 1) 32))) (results_cell_row (P := Tryd.prog) Tryd.results18 _ _ w.heap.size 47 _ (0, 0) _ rfl (setRow_heap _ _ _ _ _ _ HAT.out.b0) Tryd.underlying47 rfl (HSZ _).out) rfl ⟨?_, ?_⟩
      · rw [zRow_upto]
      · exact below_setRow HAT.out.below (by omega) _
end Go.Proofs.YtecgbnghapjfgaaDoor.M
