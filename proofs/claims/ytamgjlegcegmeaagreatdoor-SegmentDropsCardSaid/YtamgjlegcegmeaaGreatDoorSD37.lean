/- Package segment: slices.Backward over files. -/
import Derived.Test.YtamgjlegcegmeaaGreatDoorSD35
import Derived.Test.YtamgjlegcegmeaaGreatDoorSD36
import Derived.RangeFuncNested
import Derived.RangeFuncBound
import Derived.RangeFuncCalls
import Derived.RangeFuncLeaves
import Derived.RangeFuncBox
import Derived.Shelf.Abstract
import Derived.Shelf.RegionOpen
import Derived.WalkKit
import Derived.OwnWalkIn
import Derived.TacticsInMore
import Derived.LoopNIn
import Derived.LoopIn
namespace Go.Proofs.YtamgjlegcegmeaaGreatDoor.M
open Go.RowKit Go.Shelf Go.Maps
open D (Fl Dk)

attribute [local go_sem] Oper.semAt_some

/-- What the iterator reads when k rounds are over. -/
def FilesAt (Bs : Nat) (a : Option Addr) (cap : Nat) (fs : List Fi) (k : Nat) (W : World) : Prop :=
  W.cell? ⟨Bs, 0, none⟩ = some (.slice a fs.length cap) ∧ ∀ j (h : j < fs.length), j + k < fs.length → ∃ b, a = some ⟨b, 0, none⟩ ∧ ∀ t, t < 5 → W.cell? ⟨b, j * 5 + t, none⟩ = (fiV fs[j])[t]?

def noFi : Fi := ⟨0, 0, 0, 0, false⟩
/-- The k-th from the end. -/
def bkFi (fs : List Fi) (k : Nat) : Fi := fs[fs.length - 1 - k]?.getD noFi
def bkEnc (fs : List Fi) (k : Nat) : Array Value := #[.int .i64 ((fs.length - 1 - k : Nat) : Int), fiAgg (bkFi fs k)]

set_option maxRecDepth 100000 in
set_option maxHeartbeats 2000000 in
theorem backFi_in (F : Fence) (n : Nat) (h8 : F.fn 99) (hro : F.round = none) (hn : 1 ≤ n) (l Bs : Nat) (a : Option Addr) (cap : Nat) (fs : List Fi) (hl : fs.length ≤ 1000000) (J Jx : Nat → World → Prop) (hJ : ∀ k W, k ≤ fs.length → J k W → FilesAt Bs a cap fs k W)
    (hY : ∀ k W, k < fs.length → J k W → YieldAt F (n - 1) Tryz.prog l (bkEnc fs k) W fun e W' => (e = .returned (.bool true) ∧ J (k + 1) W') ∨ (e = .returned (.bool false) ∧ Jx k W'))
    (W : World) (h0 : J 0 W) :
    CallsIn F n Tryz.prog 99 #[.func (.yield l) #[] #[], .pointer (some ⟨Bs, 0, none⟩)] W fun e W' => (∃ v, e = .returned v) ∧ (J fs.length W' ∨ ∃ k, Jx k W') := by
  have hBs := (hJ 0 W (Nat.zero_le _) h0).1
  have HJ := Lib.hid hJ
  obtain ⟨len, hlen⟩ : ∃ len, len = fs.length := ⟨_, rfl⟩
  rw [← hlen] at hBs hl
  have HLEN := Lib.hid hlen
  clear hlen hJ
  refine callsIn_of_wp Tryz.func99 rfl h8 ?_ hro
  simp only [Tryz.ntmps99, List.size_toArray, List.length_cons, List.length_nil, Nat.reduceAdd, Nat.reduceSub, Array.replicate_succ, Array.replicate_zero, List.push_toArray, List.append_toArray, List.nil_append, List.cons_append]
  gi_wp2
  gi_loopw [3] (fun i wr => ∃ k : Nat, k ≤ len ∧ i = .int .i64 ((len : Int) - 1 - (k : Int)) ∧ J k wr)
    (fun i _ => (intOf i + 1).toNat)
  case atStart => exact ⟨0, Nat.zero_le _, by simp, h0⟩
  case round =>
    obtain ⟨k, hk, rfl, hJs⟩ := hrel
    have hfa := HJ.out k wr (by rw [← HLEN.out]; exact hk) hJs
    by_cases hlt : k < len
    · obtain ⟨m, hm⟩ : ∃ m, len = m + 1 + k := ⟨len - 1 - k, by omega⟩
      have hx : (len : Int) - 1 - (k : Int) = (m : Int) := by omega
      have hx2 : (len : Int) - 1 - ((k + 1 : Nat) : Int) = (m : Int) - 1 := by omega
      rw [hx]
      have hmf : m < fs.length := by have := HLEN.out; omega
      obtain ⟨hbx, hcs⟩ := hfa
      rw [← HLEN.out] at hbx
      obtain ⟨b, ha, hc2⟩ := hcs m hmf (by have := HLEN.out; omega)
      subst ha
      have e0 := hc2 0 (by omega)
      have e1 := hc2 1 (by omega)
      have e2 := hc2 2 (by omega)
      have e3 := hc2 3 (by omega)
      have e4 := hc2 4 (by omega)
      have hen : bkEnc fs k = #[.int .i64 (m : Int), fiAgg fs[m]] := by
        unfold bkEnc bkFi
        rw [show fs.length - 1 - k = m by have := HLEN.out; omega, List.getElem?_eq_getElem hmf]
        rfl
      obtain ⟨fn, tmps, assign, body, hy, hR⟩ := hY k wr (by rw [← HLEN.out]; exact hlt) hJs
      rw [hen] at hy
      obtain ⟨f, hf⟩ : ∃ f, f = fs[m] := ⟨_, rfl⟩
      rw [← hf] at hy e0 e1 e2 e3 e4
      obtain ⟨f0, f1, f2, f3, f4⟩ := f
      simp only [fiV, List.getElem?_cons_zero, List.getElem?_cons_succ, Nat.add_zero] at e0 e1 e2 e3 e4
      unfold fiAgg at hy
      simp only at hy
      have hml : (m : Int) < (len : Int) := by omega
      have HX2 := Lib.hid hx2
      clear hcs hc2 hen hf hx hx2 hm
      gi_wp2
      refine hR.mono ?_
      rintro e W3 (⟨rfl, hJ3⟩ | ⟨rfl, hJx3⟩)
      · gi_wp2
        go_roundw
        case rel => exact ⟨k + 1, by omega, by rw [HX2.out], hJ3⟩
        case measure => simp [intOf] <;> omega
      · gi_wp2
        refine bodyPost_ret (results_none rfl _ _ _) rfl ?_
        exact ⟨⟨_, rfl⟩, .inr ⟨k, hJx3⟩⟩
    · have hke : k = len := by omega
      subst hke
      have hx : (k : Int) - 1 - (k : Int) = -1 := by omega
      rw [hx]
      gi_wp2
      go_end0
      exact ⟨⟨_, rfl⟩, .inl (by rw [← HLEN.out]; exact hJs)⟩

/-- The call of the library: the slice is boxed, the function has the box. -/
theorem backFi_any (a : Option Addr) (len cap : Nat) (w : World) :
    Calls Tryz.prog 67 #[.slice a len cap] w fun e w' => e = .returned (.func (.func 99) #[] #[.pointer (some ⟨w.heap.size, 0, none⟩)]) ∧ w' = w.alloc (.cells #[.slice a len cap] 58) := by
  have hmf : ∀ (fn : Fn) (first cap : Array Value) (w : World), (Instr.makeFunc fn first cap).run Tryz.prog w = .ok (.func fn first cap) w := fun _ _ _ _ => rfl
  go_enter Tryz.func67, Tryz.ntmps67
  go_wp2_with fail
  go_ret
  exact ⟨rfl, rfl⟩
end Go.Proofs.YtamgjlegcegmeaaGreatDoor.M
