/- pass, Join. -/
import Derived.Test.YtecgbnghapjfgaaDoorSumOne
import Derived.Deep.WholeRow
namespace Go.Proofs.YtecgbnghapjfgaaDoor.M
open Go.RowKit

theorem zF_twice (m : Nat) : zRow (fun i => leadN (zF m) (zF m i) 32) = zRow (zF (m + m)) := by
  unfold zRow
  congr 1
  apply List.map_congr_left
  intro i hi
  have : leadN (zF m) (zF m i) 32 = zF (m + m) i := by
    rw [leadN_all m (zF_lt m i (by simpa using hi))]
    unfold zF
    rw [C.zeros_add]
  show Value.int .u32 ((leadN (zF m) (zF m i) 32 : Nat) : Int) = _
  rw [this]

structure PassAt (w : World) (r0 n0 x s m b : Nat) (wr : World) : Prop where
  below : Below w.heap.size w wr
  base : w.heap.size ≤ b
  blk : wr.heap[b]? = some (.cells (zRow (zF m)) 47)
  xl : x < 4294967296
  sl : s < 9223372036854775808
  out : C.zeros (m * s) x = C.zeros n0 r0

theorem PassAt.next1 {w wr w2 : World} {r0 n0 x s m b : Nat} {o : Array Value} (h : PassAt w r0 n0 x s m b wr) (hB : Below wr.heap.size wr w2) (hs : s % 2 = 1) :
    PassAt w r0 n0 (C.zeros m x) (s / 2) (m + m) w2.heap.size (((w2.setRow b (zRow (zF (m + m)))).alloc (.cells o 47)).setRow w2.heap.size (zRow (zF (m + m)))) := by
  have h1 := h.below.size
  have h2 := hB.size
  refine ⟨below_setRow ((below_setRow (h.below.trans (hB.mono h1)) h.base _).alloc (by simp; omega) _) (by omega) _, by omega, setRow_heap _ _ _ _ _ _ (heap_new _ _ _ (by simp)), C.zeros_lt m h.xl, by have := h.sl; omega, ?_⟩
  rw [← C.zeros_add, ← h.out]
  congr 1
  have e : s = 2 * (s / 2) + 1 := by omega
  conv => rhs; rw [e]
  rw [Nat.mul_add, Nat.mul_one, Nat.add_mul, ← Nat.mul_assoc, Nat.mul_comm m 2, Nat.mul_assoc, Nat.two_mul]
  omega

theorem PassAt.next0 {w wr w2 : World} {r0 n0 x s m b : Nat} {o : Array Value} (h : PassAt w r0 n0 x s m b wr) (hB : Below wr.heap.size wr w2) (hs : ¬ s % 2 = 1) :
    PassAt w r0 n0 x (s / 2) (m + m) w2.heap.size (((w2.setRow b (zRow (zF (m + m)))).alloc (.cells o 47)).setRow w2.heap.size (zRow (zF (m + m)))) := by
  have h1 := h.below.size
  have h2 := hB.size
  refine ⟨below_setRow ((below_setRow (h.below.trans (hB.mono h1)) h.base _).alloc (by simp; omega) _) (by omega) _, by omega, setRow_heap _ _ _ _ _ _ (heap_new _ _ _ (by simp)), h.xl, by have := h.sl; omega, ?_⟩
  rw [← h.out]
  congr 1
  have e : s = 2 * (s / 2) := by omega
  conv => rhs; rw [e]
  rw [Nat.add_mul, ← Nat.mul_assoc, Nat.mul_comm m 2, Nat.mul_assoc, Nat.two_mul]

theorem i64_and1 (s : Nat) (h : s < 9223372036854775808) : bits .and .i64 (s : Int) 1 = ((s % 2 : Nat) : Int) := by
  have h1 : (BitVec.ofInt 64 1).toNat = 2 ^ 1 - 1 := by decide
  have key : (BitVec.ofInt 64 (s : Int) &&& BitVec.ofInt 64 1).toNat = ((s : Int) % ((2 ^ 64 : Nat) : Int)).toNat % 2 ^ 1 := by
    rw [BitVec.toNat_and, BitVec.toNat_ofInt, h1, Nat.and_two_pow_sub_one_eq_mod]
  show IntKind.i64.wrap ((BitVec.ofInt 64 (s : Int) &&& BitVec.ofInt 64 1).toNat : Nat) = _
  rw [key, IntKind.wrap_i64]
  omega

set_option maxRecDepth 20000 in
set_option maxHeartbeats 1600000 in
theorem pass_any (r n : Nat) (w : World) (hr : Hid (r < 4294967296)) (hn : Hid (n < 9223372036854775808)) :
    Calls Tryd.prog 17 #[.int .u32 (r : Int), .int .i64 (n : Int)] w fun e w' => e = .returned (.int .u32 (C.zeros n r : Int)) ∧ Below w.heap.size w w' := by
  have HSZ : ∀ h : Nat → Nat, Hid ((Tryd.prog.info? 47).map (·.size) = some (zRow h).size) := fun h => Lib.hid (by rw [zRow_size]; exact infoZ)
  go_enter Tryd.func17, Tryd.ntmps17
  go_wp2_with (first | (go_at_call 18; refine (oneZero_any _).mono ?_; rintro e w1 ⟨rfl, hB1⟩) | (refine wpList_store_row rfl 47 (.tmp 5) (.tmp 6) rfl w1.heap.size (zRow (zF 1)) rfl rfl 47 _ (heap_new _ _ _ rfl) (HSZ _).out (by rw [← zRow_none, zRow_size, zRow_size]) (zRow_one _) ?_))
  rw [← zRow_none, World.setRow_alloc_new]
  go_frame
  have H0 : Hid (PassAt w r n r n 1 w1.heap.size (w1.alloc (.cells (zRow (zF 1)) 47))) :=
    Lib.hid ⟨hB1.alloc hB1.size _, hB1.size, heap_new _ _ _ rfl, hr.out, hn.out, by rw [Nat.one_mul]⟩
  clear hB1
  go_loopw [0, 1, 5] (fun x s p wr => ∃ (x' s' m b : Nat), x = .int .u32 (x' : Int) ∧ s = .int .i64 (s' : Int) ∧ p = .pointer (some ⟨b, 0, none⟩) ∧ PassAt w r n x' s' m b wr) (fun _ s _ _ => (intOf s).toNat)
  case atStart => exact ⟨r, n, 1, _, rfl, rfl, rfl, H0.out⟩
  case round =>
    obtain ⟨x, s, m, b, rfl, rfl, rfl, hat⟩ := hrel
    have hsl : (s : Int) < 9223372036854775808 := by have := hat.sl; omega
    have hxl : (x : Int) < 4294967296 := by have := hat.xl; omega
    have hbl := lt_of_heap hat.blk
    have HAT := Lib.hid hat
    clear hat
    by_cases hs0 : 0 < s
    · have hss : (0 : Int) < (s : Int) := by omega
      by_cases hodd : s % 2 = 1
      · have e1 : bits .and .i64 (s : Int) 1 = 1 := by rw [i64_and1 s HAT.out.sl, hodd]; rfl
        have HO := Lib.hid hodd
        clear hodd
        go_wp2_with (first
          | (refine wpList_load_row (o := ⟨some 14, _, _, _, _, _⟩) rfl 47 (.tmp 5) rfl b rfl 47 (zRow (zF m)) (0, 0) _ HAT.out.blk Tryd.underlying47 rfl (HSZ _).out ?_)
          | (go_at_call 19; refine (zlead_any (zF m) x _ (Lib.hid HAT.out.xl) (Lib.hid (zF_lt m))).mono ?_; rintro e w' ⟨rfl, rfl⟩)
          | (refine wpList_load_row (o := ⟨some 17, _, _, _, _, _⟩) rfl 47 (.tmp 5) rfl b rfl 47 (zRow (zF m)) (0, 0) _ (old_alloc HAT.out.blk) Tryd.underlying47 rfl (HSZ _).out ?_))
        refine (twice_any (zF m) _ (Lib.hid (zF_lt m))).mono ?_
        rintro e w2 ⟨rfl, hB2⟩
        have hblk : w2.heap[b]? = some (.cells (zRow (zF m)) 47) := old_below (old_alloc HAT.out.blk) hB2
        have HB2 : Hid (Below wr.heap.size wr w2) := Lib.hid (below_behind (by simpa using hB2))
        have HK := Lib.hid hblk
        have HE : Hid (leadN (zF m) x 32 = C.zeros m x) := Lib.hid (leadN_all m HAT.out.xl)
        rw [zF_twice]
        clear hB2 hblk
        go_wp2_with (first
          | (refine wpList_store_row rfl 47 (.tmp 5) (.tmp 18) rfl b (zRow (zF (m + m))) rfl rfl 47 _ HK.out (HSZ _).out (by rw [zRow_size, zRow_size]) (zRow_one _) ?_)
          | (refine wpList_load_row (o := ⟨some 19, _, _, _, _, _⟩) rfl 47 (.tmp 5) rfl b rfl 47 (zRow (zF (m + m))) (0, 0) _ (setRow_heap _ _ _ _ _ _ HK.out) Tryd.underlying47 rfl (HSZ _).out ?_)
          | (refine wpList_store_row rfl 47 (.tmp 5) (.tmp 19) rfl w2.heap.size (zRow (zF (m + m))) rfl rfl 47 _ (heap_new _ _ _ (by simp)) (HSZ _).out (by rw [← zRow_none, zRow_size, zRow_size]) (zRow_one _) ?_))
        go_roundw
        case rel => exact ⟨C.zeros m x, s / 2, m + m, w2.heap.size, by rw [HE.out], by simp, rfl, PassAt.next1 HAT.out HB2.out HO.out⟩
        case measure => simp [intOf]; omega
      · have e1 : bits .and .i64 (s : Int) 1 = 0 := by rw [i64_and1 s HAT.out.sl, show s % 2 = 0 by omega]; rfl
        have HO := Lib.hid hodd
        clear hodd
        go_wp2_with (first
          | (refine wpList_load_row (o := ⟨some 17, _, _, _, _, _⟩) rfl 47 (.tmp 5) rfl b rfl 47 (zRow (zF m)) (0, 0) _ HAT.out.blk Tryd.underlying47 rfl (HSZ _).out ?_))
        refine (twice_any (zF m) _ (Lib.hid (zF_lt m))).mono ?_
        rintro e w2 ⟨rfl, hB2⟩
        have hblk : w2.heap[b]? = some (.cells (zRow (zF m)) 47) := old_below HAT.out.blk hB2
        have HB2 : Hid (Below wr.heap.size wr w2) := Lib.hid hB2
        have HK := Lib.hid hblk
        have HE : Hid (leadN (zF m) x 32 = C.zeros m x) := Lib.hid (leadN_all m HAT.out.xl)
        rw [zF_twice]
        clear hB2 hblk
        go_wp2_with (first
          | (refine wpList_store_row rfl 47 (.tmp 5) (.tmp 18) rfl b (zRow (zF (m + m))) rfl rfl 47 _ HK.out (HSZ _).out (by rw [zRow_size, zRow_size]) (zRow_one _) ?_)
          | (refine wpList_load_row (o := ⟨some 19, _, _, _, _, _⟩) rfl 47 (.tmp 5) rfl b rfl 47 (zRow (zF (m + m))) (0, 0) _ (setRow_heap _ _ _ _ _ _ HK.out) Tryd.underlying47 rfl (HSZ _).out ?_)
          | (refine wpList_store_row rfl 47 (.tmp 5) (.tmp 19) rfl w2.heap.size (zRow (zF (m + m))) rfl rfl 47 _ (heap_new _ _ _ (by simp)) (HSZ _).out (by rw [← zRow_none, zRow_size, zRow_size]) (zRow_one _) ?_))
        go_roundw
        case rel => exact ⟨x, s / 2, m + m, w2.heap.size, rfl, by simp, rfl, PassAt.next0 HAT.out HB2.out HO.out⟩
        case measure => simp [intOf]; omega
    · have hss : ¬ (0 : Int) < (s : Int) := by omega
      have HE : Hid (C.zeros n r = x) := Lib.hid (by
        have := HAT.out.out
        rw [show s = 0 by omega, Nat.mul_zero] at this
        exact this.symm)
      go_wp2_with fail
      go_ret
      exact ⟨by rw [HE.out]; rfl, HAT.out.below⟩
end Go.Proofs.YtecgbnghapjfgaaDoor.M
