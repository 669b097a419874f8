/- The program's disk: Name, New, Free, Stop, Safe; what is done to one file. -/
import Derived.Test.YtbcpcopapbgcdaaGreatDoorSZ15
import Derived.Test.YtbcpcopapbgcdaaGreatDoorSZ16
import Derived.Carry
import Derived.StillTailTactics
namespace Go.Proofs.YtbcpcopapbgcdaaGreatDoor.M
open Go.RowKit Go.Maps
open D (Fl Dk)

/-- A new disk. -/
def fresh (n : Int) : Dk := { room := n, fs := [], ends := false, calls := 0 }

theorem New_neg (n : Int) (w : World) (hn : n < 0) : Calls Tryz.prog 10 #[.int .i64 n] w fun e w' => e = .returned (.tuple #[.pointer none, .int .i64 2]) ∧ w = w' := by
  go_enter Tryz.func10, Tryz.ntmps10
  go_wp2_with fail
  go_ret2
  exact ⟨rfl, rfl⟩

set_option maxRecDepth 20000 in
theorem New_any (n : Int) (w : World) (hn : 0 ≤ n) :
    Calls Tryz.prog 10 #[.int .i64 n] w fun e w' => e = .returned (.tuple #[.pointer (some ⟨w.heap.size + 1, 0, none⟩), .int .i64 0]) ∧ Below w.heap.size w w' ∧ w'.heap.size = w.heap.size + 2 ∧ PDsk w' (fun k => w.heap.size ≤ k ∧ k < w.heap.size + 2) (w.heap.size + 1) (fresh n) := by
  have hmm := @run_makeMap Tryz.prog
  have hno : decide (n < 0) = false := by simp; omega
  go_enter Tryz.func10, Tryz.ntmps10
  go_wp2_with fail
  go_ret2
  refine ⟨rfl, ((Below.refl _ _).alloc (Nat.le_refl _) _).alloc (by simp) _, by simp, w.heap.size, .map [], fun _ => (0, .slice none 0 0), ?_⟩
  have h0 := World.ownsMap_made w Tryz.prog 9 ptrElem
  refine ⟨?_, (ownsMap_same h0 (Below.heap_alloc _ _ _ (by simp))), fun s z => by simp [fresh, D.isThere, D.find, DataW.atKey], rfl, fun f hf => by simp [fresh] at hf, fun f hf => by simp [fresh] at hf, ⟨by omega, by omega⟩, ⟨by omega, by omega⟩, fun f hf => by simp [fresh] at hf⟩
  have hb := heap_new (w.alloc (.map #[] 0)) (.cells #[.int .i64 n, .int .i64 (-1), .map (some w.heap.size)] 97) (w.heap.size + 1) (by simp)
  rw [hb]
  simp [fresh, restOf, D.Dk.free, D.used]

section
variable (d : Dk) (X : Nat → Prop) (gd : Nat) (w : World)

theorem PFree_any (hd : PDsk w X gd d) : Calls Tryz.prog 57 #[.pointer (some ⟨gd, 0, none⟩)] w fun e w' => e = .returned (.int .i64 d.free) ∧ w = w' := by
  obtain ⟨gm, M, E, hat⟩ := hd
  obtain ⟨⟨c0, -, -⟩, -, hz⟩ := hat.cells
  clear hat
  go_enter Tryz.func57, Tryz.ntmps57
  go_wp2_with fail
  go_ret
  exact ⟨rfl, rfl⟩

theorem PStop_any (n : Int) (hd : PDsk w X gd d) (hn : -9223372036854775808 ≤ n ∧ n ≤ 9223372036854775807) :
    Calls Tryz.prog 38 #[.pointer (some ⟨gd, 0, none⟩), .int .i64 n] w fun e w' => e = .returned (.tuple #[]) ∧ Only X w w' ∧ PDsk w' X gd (D.stop d n) ∧ w'.heap.size = w.heap.size := by
  obtain ⟨gm, M, E, hat⟩ := hd
  obtain ⟨⟨c0, c1, c2⟩, ⟨f0, f1, f2⟩, hz⟩ := hat.cells
  have HAT := Lib.hid hat
  clear hat
  have hr : ∀ r : Int, r = restOf (D.stop d n) → ∀ wx : World, wx = w.setCell ⟨gd, 1, none⟩ (.int .i64 r) → Only X w wx ∧ PDsk wx X gd (D.stop d n) ∧ wx.heap.size = w.heap.size := fun r e wx ew => by
    subst ew
    have hb := heap_setCell_same _ _ 1 _ _ (.int .i64 r) HAT.out.box
    refine ⟨(Only.refl X w).set (.inl HAT.out.foot.1) _, ⟨gm, M, E, HAT.out.ticked rfl ?_ fun k hk => ?_⟩, by simp⟩
    · rw [hb, e]; simp [D.stop, D.Dk.free]
    · exact Below.heap_setCell _ _ _ _ (by simpa using hk)
  have HR := Lib.hid hr
  clear hr c0 c2 f0 f2
  go_enter Tryz.func38, Tryz.ntmps38
  by_cases h : n < -1
  · have h1 : decide ((-1 : Int) < n) = false := by simp; omega
    have hm : max n (-1) = -1 := by omega
    have HE : Hid ((-1 : Int) = restOf (D.stop d n)) := Lib.hid (by unfold restOf D.stop; simp; omega)
    go_wp2_with fail
    go_end0
    exact ⟨rfl, HR.out _ HE.out _ (by simp)⟩
  · have hm : max n (-1) = n := by omega
    have HE : Hid (n = restOf (D.stop d n)) := Lib.hid (by unfold restOf D.stop; simp; split <;> omega)
    go_wp2_with fail
    go_end0
    exact ⟨rfl, HR.out _ HE.out _ (by simp)⟩
end
end Go.Proofs.YtbcpcopapbgcdaaGreatDoor.M
