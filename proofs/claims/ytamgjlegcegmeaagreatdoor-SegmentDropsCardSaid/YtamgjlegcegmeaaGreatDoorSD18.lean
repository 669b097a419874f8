/- The program's disk: Name, New, Free, Stop, Safe; what is done to one file. -/
import Derived.Test.YtamgjlegcegmeaaGreatDoorSD15
import Derived.Test.YtamgjlegcegmeaaGreatDoorSD17
import Derived.Carry
import Derived.StillTailTactics
namespace Go.Proofs.YtamgjlegcegmeaaGreatDoor.M
open Go.RowKit Go.Maps
open D (Fl Dk)

/-- A new disk. -/
def fresh (n : Int) : Dk := { room := n, fs := [], ends := false, calls := 0 }

theorem New_neg (n : Int) (w : World) (hn : n < 0) : Calls Tryz.prog 5 #[.int .i64 n] w fun e w' => e = .returned (.tuple #[.pointer none, .int .i64 2]) ∧ w = w' := by
  go_enter Tryz.func5, Tryz.ntmps5
  go_wp2_with fail
  go_ret2
  exact ⟨rfl, rfl⟩

set_option maxRecDepth 20000 in
theorem New_any (n : Int) (w : World) (hn : 0 ≤ n) :
    Calls Tryz.prog 5 #[.int .i64 n] w fun e w' => e = .returned (.tuple #[.pointer (some ⟨w.heap.size + 1, 0, none⟩), .int .i64 0]) ∧ Below w.heap.size w w' ∧ w'.heap.size = w.heap.size + 2 ∧ PDsk w' (fun k => w.heap.size ≤ k ∧ k < w.heap.size + 2) (w.heap.size + 1) (fresh n) := by
  have hmm := @run_makeMap Tryz.prog
  have hno : decide (n < 0) = false := by simp; omega
  go_enter Tryz.func5, Tryz.ntmps5
  go_wp2_with fail
  go_ret2
  refine ⟨rfl, ((Below.refl _ _).alloc (Nat.le_refl _) _).alloc (by simp) _, by simp, w.heap.size, .map [], fun _ => (0, .slice none 0 0), ?_⟩
  have h0 := World.ownsMap_made w Tryz.prog 9 ptrElem
  refine ⟨?_, (ownsMap_same h0 (Below.heap_alloc _ _ _ (by simp))), fun s z => by simp [fresh, D.isThere, D.find, DataW.atKey], rfl, fun f hf => by simp [fresh] at hf, fun f hf => by simp [fresh] at hf, ⟨by omega, by omega⟩, ⟨by omega, by omega⟩, fun f hf => by simp [fresh] at hf⟩
  have hb := heap_new (w.alloc (.map #[] 0)) (.cells #[.int .i64 n, .int .i64 (-1), .map (some w.heap.size)] 55) (w.heap.size + 1) (by simp)
  rw [hb]
  simp [fresh, restOf, D.Dk.free, D.used]

section
variable (d : Dk) (X : Nat → Prop) (gd : Nat) (w : World)

theorem PFree_any (hd : PDsk w X gd d) : Calls Tryz.prog 26 #[.pointer (some ⟨gd, 0, none⟩)] w fun e w' => e = .returned (.int .i64 d.free) ∧ w = w' := by
  obtain ⟨gm, M, E, hat⟩ := hd
  obtain ⟨⟨c0, -, -⟩, -, hz⟩ := hat.cells
  clear hat
  go_enter Tryz.func26, Tryz.ntmps26
  go_wp2_with fail
  go_ret
  exact ⟨rfl, rfl⟩

end
end Go.Proofs.YtamgjlegcegmeaaGreatDoor.M
