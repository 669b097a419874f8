/- The document's disk: Name, Free, find, Stopped, Stop. The document's disk: find, Stopped, Stop. The document's disk: Stop, take. The document's disk: take. The document's disk: add. The document's disk: Rename. -/
import Derived.Test.YtamgjlegcegmeaaGreatDoorSD11
import Derived.IntWalk
import Derived.WalkLawsBesides
import Derived.Outline
import Derived.Deep.QuietTactic
import Derived.BigQuiet
/- Part: DiskRef1. -/
namespace Go.Proofs.YtamgjlegcegmeaaGreatDoor.M
open Go.RowKit
open D (Fl Dk)

theorem find_go (fs : List Fl) (s : ByteArray) : D.find fs s ≤ fs.length := List.findIdx_le_length

end Go.Proofs.YtamgjlegcegmeaaGreatDoor.M

/- Part: DiskRef2. -/
namespace Go.Proofs.YtamgjlegcegmeaaGreatDoor.M
open Go.RowKit
open D (Fl Dk)

end Go.Proofs.YtamgjlegcegmeaaGreatDoor.M

/- Part: DiskRef3. -/
namespace Go.Proofs.YtamgjlegcegmeaaGreatDoor.M
open Go.RowKit
open D (Fl Dk)

theorem flCells_append (a b : List (Fl × Value)) : flCells (a ++ b) = flCells a ++ flCells b := by simp [flCells]

end Go.Proofs.YtamgjlegcegmeaaGreatDoor.M

/- Part: DiskRef4. -/
namespace Go.Proofs.YtamgjlegcegmeaaGreatDoor.M
open Go.RowKit
open D (Fl Dk)

/-- Three cells of a block that is known whole. -/
theorem three_of {w : World} {g : Nat} {x y z : Value} {t : TypeId} (h : w.heap[g]? = some (.cells #[x, y, z] t)) :
    w.cell? ⟨g, 0, none⟩ = some x ∧ w.cell? ⟨g, 1, none⟩ = some y ∧ w.cell? ⟨g, 2, none⟩ = some z ∧
    w.frozen? ⟨g, 0, none⟩ = false ∧ w.frozen? ⟨g, 1, none⟩ = false ∧ w.frozen? ⟨g, 2, none⟩ = false ∧ g < w.heap.size :=
  ⟨cell_of_row w g 0 _ t _ h, cell_of_row w g 1 _ t _ h, cell_of_row w g 2 _ t _ h, frozen_of_row w g 0 _ t h, frozen_of_row w g 1 _ t h, frozen_of_row w g 2 _ t h, lt_of_heap h⟩

theorem ownBlock_len {a : Option Addr} {n m c c' : Nat} : (Value.slice a n c).ownBlock = (Value.slice a m c').ownBlock := by
  cases a with
  | none => rfl
  | some a => rfl

theorem erase_parts {α : Type} (l : List α) (i : Nat) : l.eraseIdx i = l.take i ++ l.drop (i + 1) := List.eraseIdx_eq_take_drop_succ ..

theorem parts_of_list {α : Type} (l : List α) (i : Nat) (h : i < l.length) : l = l.take i ++ l[i] :: l.drop (i + 1) := by
  rw [← List.drop_eq_getElem_cons h, List.take_append_drop]

end Go.Proofs.YtamgjlegcegmeaaGreatDoor.M

/- Part: DiskRef5. -/
namespace Go.Proofs.YtamgjlegcegmeaaGreatDoor.M
open Go.RowKit
open D (Fl Dk)

theorem yields_none (w : World) : Yields w (.slice none 0 0) 0 3 [] := ⟨rfl, by simp, .inl ⟨rfl, rfl⟩⟩

theorem yields_bare (w : World) (a : Addr) (c : Nat) : Yields w (.slice (some a) 0 c) 0 3 [] := ⟨rfl, by simp, .inr ⟨a, c, rfl, by simp⟩⟩

end Go.Proofs.YtamgjlegcegmeaaGreatDoor.M

/- Part: DiskRef6. -/
namespace Go.Proofs.YtamgjlegcegmeaaGreatDoor.M
open Go.RowKit
open D (Fl Dk)

theorem tick_fs (d : Dk) : d.tick.fs = d.fs := by unfold D.Dk.tick; split <;> rfl

theorem tick_room (d : Dk) : d.tick.room = d.room := by unfold D.Dk.tick; split <;> rfl

theorem tick_calls (d : Dk) : d.tick.calls ≤ d.calls := by
  unfold D.Dk.tick
  split
  · exact Nat.sub_le _ _
  · exact Nat.le_refl _

theorem findR_neg {fs : List Fl} {s : ByteArray} (h : D.isThere fs s = false) : D.findR fs s = -1 := by
  unfold D.isThere at h
  unfold D.findR
  rw [if_neg (by simpa using h)]

theorem findR_pos {fs : List Fl} {s : ByteArray} (h : D.isThere fs s = true) : D.findR fs s = (D.find fs s : Int) ∧ D.find fs s < fs.length := by
  unfold D.isThere at h
  unfold D.findR
  have h' : D.find fs s < fs.length := by simpa using h
  exact ⟨by rw [if_pos h'], h'⟩

theorem rename_32 {d : Dk} {a b : ByteArray} (h : d.stopped = true) : D.rename d a b = (32, d) := by unfold D.rename; rw [if_pos h]

theorem rename_30 {d : Dk} {a b : ByteArray} (h : d.stopped = false) (hn : D.isThere d.fs a = false ∨ D.okName b = false) : D.rename d a b = (30, d.tick) := by
  unfold D.rename
  rw [if_neg (by rw [h]; simp)]
  simp only [tick_fs]
  rw [if_pos hn]

theorem rename_0 {d : Dk} {a b : ByteArray} (h : d.stopped = false) (ha : D.isThere d.fs a = true) (hb : D.okName b = true) (hi : D.find d.fs a < d.fs.length) :
    D.rename d a b = (0, { d.tick with fs := D.add ((d.fs.eraseIdx (D.find d.fs a)).eraseIdx (D.find (d.fs.eraseIdx (D.find d.fs a)) b)) { d.fs[D.find d.fs a] with nm := b } }) := by
  unfold D.rename
  rw [if_neg (by rw [h]; simp)]
  simp only [tick_fs]
  rw [if_neg (by rw [ha, hb]; simp), List.getElem?_eq_getElem hi]

theorem stopped_tick {d : Dk} (hst : d.stopped = true) : d.tick = d := by
  unfold D.Dk.tick
  unfold D.Dk.stopped at hst
  simp only [Bool.and_eq_true, beq_iff_eq] at hst
  rw [if_neg (by simp [hst.2])]

end Go.Proofs.YtamgjlegcegmeaaGreatDoor.M
