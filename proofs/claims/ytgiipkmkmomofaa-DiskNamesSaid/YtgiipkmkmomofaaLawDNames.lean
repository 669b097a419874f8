/- The law DiskNames: which names there are. -/
import Derived.Test.YtgiipkmkmomofaaDiskAwake
import Derived.Test.YtgiipkmkmomofaaDiskRef1
namespace Go.Proofs.Ytgiipkmkmomofaa.M
open Go.RowKit Go.Maps
open D (Fl Dk)

set_option maxRecDepth 20000 in
set_option maxHeartbeats 1600000 in
theorem DiskNames_any (a b : ByteArray) (w : World) (ha : a.size ≤ 9223372036854775807) (hb : b.size ≤ 9223372036854775807) :
    Calls Try.prog 3 #[.string a, .string b] w fun e w' => e = .returned (.bool true) ∧ Below w.heap.size w w' := by
  have HA := Lib.hid ha
  have HB := Lib.hid hb
  clear ha hb
  go_enter Try.func3, Try.ntmps3
  go_wp2_with fail
  refine (awake3_any w).mono ?_
  rintro e w1 ⟨rfl, hb1⟩
  have HB1 := Lib.hid hb1
  clear hb1
  go_wp2_with fail
  refine (RefName_any a _ HA.out).mono ?_
  rintro e w2 ⟨rfl, rfl⟩
  go_wp2_with fail
  refine (RefName_any b _ HB.out).mono ?_
  rintro e w2 ⟨rfl, rfl⟩
  obtain ⟨x, hx⟩ : ∃ x, x = D.okName a := ⟨_, rfl⟩
  obtain ⟨y, hy⟩ : ∃ y, y = D.okName b := ⟨_, rfl⟩
  rw [← hx, ← hy]
  have HXE := Lib.hid hx
  have HYE := Lib.hid hy
  clear hx hy
  go_wp2_with fail
  refine (PName_any [a] (fun k => k = w1.heap.size) _ _ (RepSl.new (w := w1) (ls := [a]) (n := 1) rfl rfl (by simp)) (fun k hk => by rw [hk]; simp) (by simpa using HA.out)).mono ?_
  rintro e w3 ⟨rfl, hb3⟩
  have e1 : [a].all D.okName = x := by rw [HXE.out]; simp
  rw [e1]
  have HB3 : Hid (Below w.heap.size w w3) := Lib.hid (HB1.out.trans (((below_alloc _ _).trans (hb3.mono (by simp))).mono HB1.out.size))
  clear hb3 e1
  have hxx : (x == x) = true := by simp
  go_wp2_with fail
  refine (PName_any [a, b] (fun k => k = w3.heap.size) _ _ (RepSl.new (w := w3) (ls := [a, b]) (n := 2) rfl rfl (by simp)) (fun k hk => by rw [hk]; simp) (by simpa using ⟨HA.out, HB.out⟩)).mono ?_
  rintro e w4 ⟨rfl, hb4⟩
  have e2 : [a, b].all D.okName = (x && y) := by rw [HXE.out, HYE.out]; simp
  rw [e2]
  have HB4 : Hid (Below w.heap.size w w4) := Lib.hid (HB3.out.trans (((below_alloc _ _).trans (hb4.mono (by simp))).mono HB3.out.size))
  clear hb4 e2 hxx
  cases x with
  | true =>
    cases y with
    | true =>
      go_wp2_with fail
      go_ret
      exact ⟨rfl, HB4.out⟩
    | false =>
      go_wp2_with fail
      go_ret
      exact ⟨rfl, HB4.out⟩
  | false =>
    go_wp2_with fail
    go_ret
    exact ⟨rfl, HB4.out⟩
end Go.Proofs.Ytgiipkmkmomofaa.M
