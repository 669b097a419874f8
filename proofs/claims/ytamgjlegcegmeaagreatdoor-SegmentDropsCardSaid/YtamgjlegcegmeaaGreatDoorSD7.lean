/- math/bits.Len64: how many bits a number takes. -/
import Derived.Test.YtamgjlegcegmeaaGreatDoorRows
import Derived.Test.YtamgjlegcegmeaaGreatDoorSD3
import Derived.WalkKit
import Derived.WalkSpells
import Derived.WalkLawsBesides
import Derived.Lib.Hide
namespace Go.Proofs.YtamgjlegcegmeaaGreatDoor.M
open Go.RowKit

theorem table (T : ByteArray) (hT : T.data.toList = (List.range 256).map (fun i => UInt8.ofNat (blen i))) (i : Nat) (h : i < T.size) : ((T[i].toNat : Int)) = (blen i : Int) := by
  have hs : T.size = 256 := by rw [show T.size = T.data.toList.length from by rw [Array.length_toList]; rfl, hT]; simp
  have e : T[i] = UInt8.ofNat (blen i) := by
    have : T[i] = T.data.toList[i]'(by simpa using h) := rfl
    rw [this]
    simp only [hT, List.getElem_map, List.getElem_range]
  have hb : blen i ≤ 8 := by rw [blen_le]; omega
  rw [e, UInt8.toNat_ofNat_of_lt' (by show blen i < 256; omega)]

theorem bits_add (c : Int) (k m n : Nat) (hc : c = (k : Int)) (hk : k ≤ 56) (h : 2 ^ k ≤ n) (hm : m = n / 2 ^ k) (hm2 : m < 256) : wrap64 (c + wrap64 (blen m : Int)) = (blen n : Int) := by
  have hb : blen m ≤ 8 := by rw [blen_le]; omega
  rw [blen_shift n k h, ← hm, hc, IntWalk.wrap64_in (blen m : Int) (by omega), IntWalk.wrap64_in _ (by omega)]
  simp

theorem bits_none (n : Nat) (hm2 : n < 256) : wrap64 (wrap64 (blen n : Int)) = (blen n : Int) := by
  have hb : blen n ≤ 8 := by rw [blen_le]; omega
  rw [IntWalk.wrap64_in (blen n : Int) (by omega), IntWalk.wrap64_in _ (by omega)]

set_option maxRecDepth 100000 in
set_option maxHeartbeats 800000 in
theorem Len64_any (n : Int) (h0 : 0 ≤ n) (h1 : Hid (n < 18446744073709551616)) (w : World) :
    Calls Tryz.prog 98 #[.int .u64 n] w fun e w' => e = .returned (.int .i64 (blen n.toNat : Int)) ∧ w = w' := by
  go_enter Tryz.func98, Tryz.ntmps98
  go_wp2_with fail
  all_goals go_ret
  all_goals refine ⟨?_, rfl⟩
  all_goals have h2 := h1.out
  · exact congrArg (fun x => Ending.returned (.int .i64 x)) (by rw [table _ (by decide +kernel)]; refine bits_add 56 56 _ _ rfl (by omega) (by omega) (by omega) (by omega))
  · exact congrArg (fun x => Ending.returned (.int .i64 x)) (by rw [table _ (by decide +kernel)]; refine bits_add 48 48 _ _ rfl (by omega) (by omega) (by omega) (by omega))
  · exact congrArg (fun x => Ending.returned (.int .i64 x)) (by rw [table _ (by decide +kernel)]; refine bits_add 40 40 _ _ rfl (by omega) (by omega) (by omega) (by omega))
  · exact congrArg (fun x => Ending.returned (.int .i64 x)) (by rw [table _ (by decide +kernel)]; refine bits_add 32 32 _ _ rfl (by omega) (by omega) (by omega) (by omega))
  · exact congrArg (fun x => Ending.returned (.int .i64 x)) (by rw [table _ (by decide +kernel)]; refine bits_add 24 24 _ _ rfl (by omega) (by omega) (by omega) (by omega))
  · exact congrArg (fun x => Ending.returned (.int .i64 x)) (by rw [table _ (by decide +kernel)]; refine bits_add 16 16 _ _ rfl (by omega) (by omega) (by omega) (by omega))
  · exact congrArg (fun x => Ending.returned (.int .i64 x)) (by rw [table _ (by decide +kernel)]; refine bits_add 8 8 _ _ rfl (by omega) (by omega) (by omega) (by omega))
  · exact congrArg (fun x => Ending.returned (.int .i64 x)) (by rw [table _ (by decide +kernel)]; refine bits_none _ (by omega))
end Go.Proofs.YtamgjlegcegmeaaGreatDoor.M
