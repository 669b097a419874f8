/- twice, oneZero, pass, Join. -/
import Derived.Test.YtecgbnghapjfgaaDoorSumZeros
import Derived.Laws.CopyOwn
namespace Go.Proofs.YtecgbnghapjfgaaDoor.M
open Go.RowKit

theorem zRow_none : zRow (fun _ => 0) = #[.int .u32 0, .int .u32 0, .int .u32 0, .int .u32 0, .int .u32 0, .int .u32 0, .int .u32 0, .int .u32 0, .int .u32 0, .int .u32 0, .int .u32 0, .int .u32 0, .int .u32 0, .int .u32 0, .int .u32 0, .int .u32 0, .int .u32 0, .int .u32 0, .int .u32 0, .int .u32 0, .int .u32 0, .int .u32 0, .int .u32 0, .int .u32 0, .int .u32 0, .int .u32 0, .int .u32 0, .int .u32 0, .int .u32 0, .int .u32 0, .int .u32 0, .int .u32 0] := rfl

/-- The first k of a row, noughts behind. -/
def upto (f : Nat → Nat) (k i : Nat) : Nat := if i < k then f i else 0

theorem zRow_set (f : Nat → Nat) (k : Nat) (h : k < 32) : (zRow (upto f k)).setIfInBounds k (.int .u32 (f k : Int)) = zRow (upto f (k + 1)) := by
  apply Array.ext_getElem?
  intro i
  rw [Array.getElem?_setIfInBounds, zRow_size]
  by_cases hi : k = i
  · subst hi
    rw [if_pos rfl, if_pos h, zRow_get _ _ h]
    simp [upto]
  · rw [if_neg hi]
    by_cases h32 : i < 32
    · rw [zRow_get _ _ h32, zRow_get _ _ h32]
      have e : upto f k i = upto f (k + 1) i := by
        unfold upto
        by_cases h1 : i < k
        · rw [if_pos h1, if_pos (by omega)]
        · rw [if_neg h1, if_neg (by omega)]
      rw [e]
    · rw [Array.getElem?_eq_none (by rw [zRow_size]; omega), Array.getElem?_eq_none (by rw [zRow_size]; omega)]

theorem zRow_upto (f : Nat → Nat) : zRow (upto f 32) = zRow f := by
  apply Array.ext_getElem?
  intro i
  by_cases h32 : i < 32
  · rw [zRow_get _ _ h32, zRow_get _ _ h32]
    simp [upto, h32]
  · rw [Array.getElem?_eq_none (by rw [zRow_size]; omega), Array.getElem?_eq_none (by rw [zRow_size]; omega)]

theorem infoZ : (Tryd.prog.info? 47).map (·.size) = some 32 := by kernel_rfl

/-- A cell of a row of a block that is known whole. -/
theorem z_cell {w : World} {b : Nat} {f : Nat → Nat} (h : w.heap[b]? = some (.cells (zRow f) 47)) (k : Nat) (hk : k < 32) :
    w.cell? ⟨b, k, none⟩ = some (.int .u32 (f k : Int)) ∧ w.frozen? ⟨b, k, none⟩ = false ∧ b < w.heap.size := by
  refine ⟨?_, frozen_of_row w b k _ _ h, lt_of_heap h⟩
  rw [cell_of_row w b k _ _ _ h, zRow_get f k hk]

/-- The state at the head of the loop that fills the second row. -/
structure TwAt (w : World) (f g : Nat → Nat) (k : Nat) (wr : World) : Prop where
  le : k ≤ 32
  below : Below w.heap.size w wr
  b0 : wr.heap[w.heap.size]? = some (.cells (zRow f) 47)
  b1 : wr.heap[w.heap.size + 1]? = some (.cells (zRow fun _ => 0) 47)
  b2 : wr.heap[w.heap.size + 2]? = some (.cells (zRow (upto g k)) 47)

set_option maxRecDepth 20000 in
set_option maxHeartbeats 800000 in
theorem twice_any (f : Nat → Nat) (w : World) (hf : Hid (∀ i, i < 32 → f i < 4294967296)) :
    Calls Tryd.prog 20 #[.agg (zRow f)] w fun e w' => e = .returned (.agg (zRow fun i => leadN f (f i) 32)) ∧ Below w.heap.size w w' := by
  have HSZ : Hid ((Tryd.prog.info? 47).map (·.size) = some (zRow f).size) := Lib.hid (by rw [zRow_size]; exact infoZ)
  have HSZ2 : ∀ h : Nat → Nat, Hid ((Tryd.prog.info? 47).map (·.size) = some (zRow h).size) := fun h => Lib.hid (by rw [zRow_size]; exact infoZ)
  have HG : Hid (∃ g : Nat → Nat, g = fun i => leadN f (f i) 32) := Lib.hid ⟨_, rfl⟩
  go_enter Tryd.func20, Tryd.ntmps20
  go_wp2_with (refine wpList_load_row rfl 47 (.tmp 1) rfl w.heap.size rfl 47 (zRow f) (0, 0) _ ?ca Tryd.underlying47 rfl HSZ.out ?_)
  case ca => exact old_alloc (old_alloc (heap_new _ _ _ rfl))
  rw [← zRow_none]
  obtain ⟨g, hg⟩ := HG.out
  have HGE := Lib.hid hg
  clear hg HG
  have HGF : Hid (∀ i, i < 32 → g i = leadN f (f i) 32) := Lib.hid fun i _ => by rw [HGE.out]
  go_loopw [4, 5, 7] (fun _ _ i wr => ∃ (k : Nat), i = .int .i64 (k : Int) ∧ TwAt w f g k wr) (fun _ _ i _ => 32 - (intOf i).toNat)
  case atStart =>
    refine ⟨0, rfl, by omega, ((below_alloc _ _).alloc (by simp) _).alloc (by simp; omega) _, old_alloc (old_alloc (heap_new _ _ _ rfl)), old_alloc (heap_new _ _ _ (by simp)), ?_⟩
    have : zRow (upto g 0) = zRow fun _ => 0 := by simp [upto, zRow]
    rw [this]
    exact heap_new _ _ _ (by simp)
  case round =>
    obtain ⟨k, rfl, hat⟩ := hrel
    have hk := hat.le
    have HAT := Lib.hid hat
    clear hat
    have hz := HAT.out.below.size
    have hb2 := lt_of_heap HAT.out.b2
    by_cases hlt : k < 32
    · have hkk : (k : Int) < 32 := by omega
      obtain ⟨q, hq⟩ : ∃ q, f k = q := ⟨_, rfl⟩
      have HQ := Lib.hid hq
      have HQL : Hid (q < 4294967296) := Lib.hid (by rw [← hq]; exact hf.out k hlt)
      have HQG : Hid (leadN f q 32 = g k) := Lib.hid (by rw [HGF.out k hlt, hq])
      clear hq
      obtain ⟨c2, f2, -⟩ := z_cell HAT.out.b2 k hlt
      have e0 : upto g k k = 0 := by simp [upto]
      rw [e0] at c2
      have HZ0 := Lib.hid e0
      clear e0
      go_wp2_with (first | (refine wpList_index_z rfl (.tmp 6) (.tmp 7) rfl f k rfl rfl hlt q HQ.out ?_) | (refine wpList_load_row rfl 47 (.tmp 1) rfl w.heap.size rfl 47 (zRow f) (0, 0) _ HAT.out.b0 Tryd.underlying47 rfl HSZ.out ?_) | (go_at_call 19; refine (zlead_any f q _ HQL hf).mono ?_; rintro e w' ⟨rfl, rfl⟩))
      go_roundw
      case rel =>
        refine ⟨k + 1, by go_num, by omega, (HAT.out.below.setCell (by simp; omega) _).alloc (by simp; omega) _, old_alloc (old_set HAT.out.b0 (by simp; omega)), old_alloc (old_set HAT.out.b1 (by simp)), old_alloc ?_⟩
        have := heap_setCell_same _ _ k _ _ (.int .u32 (leadN f q 32 : Int)) HAT.out.b2
        rw [HQG.out, zRow_set g k hlt] at this
        rw [HQG.out]
        exact this
      case measure => simp [intOf]; omega
    · have hkk : ¬ (k : Int) < 32 := by omega
      obtain rfl : k = 32 := by omega
      go_wp2_with (first | (refine wpList_load_row rfl 47 (.tmp 3) rfl (w.heap.size + 1 + 1) rfl 47 (zRow (upto g 32)) (0, 0) _ HAT.out.b2 Tryd.underlying47 rfl (HSZ2 _).out ?_) | (refine wpList_store_row rfl 47 (.tmp 2) (.tmp 17) rfl (w.heap.size + 1) (zRow (upto g 32)) rfl rfl 47 _ HAT.out.b1 (HSZ2 _).out (by rw [zRow_size, zRow_size]) (zRow_one _) ?_))
      refine bodyPost_ret (v := .agg (zRow (upto g 32))) (results_cell_row (P := Tryd.prog) Tryd.results20 _ _ (w.heap.size + 1) 47 _ (0, 0) _ rfl (setRow_heap _ _ _ _ _ _ HAT.out.b1) Tryd.underlying47 rfl (HSZ2 _).out) rfl ⟨?_, ?_⟩
      · rw [zRow_upto, HGE.out]
      · exact below_setRow HAT.out.below (by omega) _
end Go.Proofs.YtecgbnghapjfgaaDoor.M
