/- Join; the document's examples, as law 2's statements begin with them. -/
import Derived.Test.YtecgbnghapjfgaaDoorSumJoin
import Derived.Test.YtecgbnghapjfgaaDoorSumRef
import Derived.Lib.SlBytesConst
namespace Go.Proofs.YtecgbnghapjfgaaDoor.M
open Go.RowKit

def joinOf (a b n : Nat) : Nat := C.zeros n a ^^^ b

set_option maxHeartbeats 800000 in
theorem Join_any (a b n : Nat) (w : World) (ha : Hid (a < 4294967296)) (hb : Hid (b < 4294967296)) (hn : Hid (n < 9223372036854775808)) :
    Calls Tryd.prog 13 #[.int .u32 (a : Int), .int .u32 (b : Int), .int .i64 (n : Int)] w fun e w' => e = .returned (.tuple #[.int .u32 (joinOf a b n : Int), .int .i64 0]) ∧ Below w.heap.size w w' := by
  have hn0 : ¬ (n : Int) < 0 := by omega
  have e1 : bits .xor .u32 (C.zeros n a : Int) (b : Int) = (joinOf a b n : Int) := u32_x _ _ (C.zeros_lt n ha.out) hb.out
  go_enter Tryd.func13, Tryd.ntmps13
  go_wp2_with (go_at_call 17; refine (pass_any a n _ ha hn).mono ?_; rintro e w' ⟨rfl, hB⟩)
  go_ret2
  exact ⟨rfl, by assumption⟩

theorem join_sum (a b : List UInt8) : joinOf (C.sumOf a) (C.sumOf b) b.length = C.sumOf (a ++ b) := (C.sum_join a b).symm

/-- The four examples. -/
def dig9 : List UInt8 := [49, 50, 51, 52, 53, 54, 55, 56, 57]

theorem ex_all : C.sumOf dig9 = 3808858755 := by decide +kernel

def dig4 : List UInt8 := [49, 50, 51, 52]
def dig5 : List UInt8 := [53, 54, 55, 56, 57]

theorem Tab.drew {w : World} (h : Tab w) : Tab w.drew := h

set_option maxHeartbeats 1600000 in
theorem awake_any (w : World) (ht : Hid (Tab w)) : Calls Tryd.prog 7 #[] w fun e w' => e = .returned (.bool true) ∧ Below w.heap.size w w' := by
  have kc := fun (w : World) (C : Array Value) (n c : Nat) => Lib.run_convert_bytes_const (P := Tryd.prog) w 22 5 C n c Tryd.underlying22 Tryd.underlying5
  go_enter Tryd.func7, Tryd.ntmps7
  go_wp2_with fail
  have b1 : Below w.heap.size w ((w.alloc (.cells (dig4.map byteV).toArray 5 (4, 5))).alloc (.cells #[.slice (some ⟨w.heap.size, 0, none⟩) 4 4] 22)) := (below_alloc _ _).alloc (by simp) _
  have r1 : RepBl ((w.alloc (.cells (dig4.map byteV).toArray 5 (4, 5))).alloc (.cells #[.slice (some ⟨w.heap.size, 0, none⟩) 4 4] 22)) (fun b => b = w.heap.size ∨ b = w.heap.size + 1) [dig4] (.slice (some ⟨w.heap.size + 1, 0, none⟩) 1 1) :=
    RepBl.one (RepB.new (L := dig4) rfl (by decide)) (by simp) (fun k hk => by rw [hk]; simp)
  refine (Of_any [dig4] _ _ _ r1 (Lib.hid (ht.out.next b1))).mono ?_
  rintro e w1 ⟨rfl, hw1⟩
  rw [hw1] at b1
  have T1 : Hid (Tab w1) := Lib.hid (ht.out.next b1)
  have B1 := Lib.hid b1
  rw [show [dig4].flatten = dig4 from rfl]
  clear b1 r1 hw1
  go_wp2_with fail
  have b2 : Below w1.heap.size w1 ((w1.alloc (.cells (dig5.map byteV).toArray 5 (5, 6))).alloc (.cells #[.slice (some ⟨w1.heap.size, 0, none⟩) 5 5] 22)) := (below_alloc _ _).alloc (by simp) _
  have r2 : RepBl ((w1.alloc (.cells (dig5.map byteV).toArray 5 (5, 6))).alloc (.cells #[.slice (some ⟨w1.heap.size, 0, none⟩) 5 5] 22)) (fun b => b = w1.heap.size ∨ b = w1.heap.size + 1) [dig5] (.slice (some ⟨w1.heap.size + 1, 0, none⟩) 1 1) :=
    RepBl.one (RepB.new (L := dig5) rfl (by decide)) (by simp) (fun k hk => by rw [hk]; simp)
  refine (Of_any [dig5] _ _ _ r2 (Lib.hid (T1.out.next b2))).mono ?_
  rintro e w2 ⟨rfl, hw2⟩
  rw [hw2] at b2
  have T2 : Hid (Tab w2) := Lib.hid (T1.out.next b2)
  have B2 := Lib.hid b2
  rw [show [dig5].flatten = dig5 from rfl]
  clear b2 r2 hw2
  go_wp2_with fail
  refine (Join_any (C.sumOf dig4) (C.sumOf dig5) 5 _ (Lib.hid (sum_lt _)) (Lib.hid (sum_lt _)) (Lib.hid (by decide))).mono ?_
  rintro e w3 ⟨rfl, b3⟩
  rw [show joinOf (C.sumOf dig4) (C.sumOf dig5) 5 = 3808858755 from by rw [show (5 : Nat) = dig5.length from rfl, join_sum]; exact ex_all]
  have T3 : Hid (Tab w3) := Lib.hid (T2.out.next b3)
  have B3 := Lib.hid b3
  clear b3
  go_wp2_with fail
  have b4 : Below w3.heap.size w3 ((w3.alloc (.cells (dig9.map byteV).toArray 5 (9, 10))).alloc (.cells #[.slice (some ⟨w3.heap.size, 0, none⟩) 9 9] 22)) := (below_alloc _ _).alloc (by simp) _
  have r4 : RepBl ((w3.alloc (.cells (dig9.map byteV).toArray 5 (9, 10))).alloc (.cells #[.slice (some ⟨w3.heap.size, 0, none⟩) 9 9] 22)) (fun b => b = w3.heap.size ∨ b = w3.heap.size + 1) [dig9] (.slice (some ⟨w3.heap.size + 1, 0, none⟩) 1 1) :=
    RepBl.one (RepB.new (L := dig9) rfl (by decide)) (by simp) (fun k hk => by rw [hk]; simp)
  refine (Of_any [dig9] _ _ _ r4 (Lib.hid (T3.out.next b4))).mono ?_
  rintro e w4 ⟨rfl, hw4⟩
  rw [hw4] at b4
  have T4 : Hid (Tab w4) := Lib.hid (T3.out.next b4)
  have B4 := Lib.hid b4
  rw [show [dig9].flatten = dig9 from rfl, ex_all]
  clear b4 r4 hw4
  go_wp2_with fail
  refine (Of_any [] (fun _ => False) _ _ (.inl ⟨rfl, Bare.nil⟩) T4).mono ?_
  rintro e w5 ⟨rfl, rfl⟩
  rw [show C.sumOf ([] : List (List UInt8)).flatten = 0 from by decide]
  go_wp2_with fail
  go_ret
  have h1 := B1.out.size
  have h2 := B2.out.size
  have h3 := B3.out.size
  exact ⟨rfl, B1.out.trans ((B2.out.trans ((B3.out.trans (B4.out.mono h3)).mono h2)).mono h1)⟩
end Go.Proofs.YtecgbnghapjfgaaDoor.M
