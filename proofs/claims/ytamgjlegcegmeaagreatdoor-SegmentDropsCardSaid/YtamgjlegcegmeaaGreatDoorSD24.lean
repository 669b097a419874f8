/- Package hard: Follows, none. -/
import Derived.Test.YtamgjlegcegmeaaGreatDoorSD5
namespace Go.Proofs.YtamgjlegcegmeaaGreatDoor.M
open Go.RowKit

def may (s e : Int × Int) : Bool := decide (s = e ∨ e.1 < s.1 ∨ (s.1 = e.1 ∧ e.2 = -1))

/-- A slice of states. -/
def RepSts (w : World) (F : Nat → Prop) (l : List (Int × Int)) (v : Value) : Prop :=
  (l = [] ∧ Bare v) ∨ ∃ b off c, v = .slice (some ⟨b, off, none⟩) l.length c ∧ F b ∧ l.length ≤ c ∧ c ≤ 9223372036854775807 ∧
    ∀ (i : Nat) (hi : i < l.length), w.cell? ⟨b, off + i * 2, none⟩ = some (.int .i64 l[i].1) ∧ w.cell? ⟨b, off + i * 2 + 1, none⟩ = some (.int .i64 l[i].2)

theorem RepSts.slice {w : World} {F : Nat → Prop} {l : List (Int × Int)} {v : Value} (h : RepSts w F l v) : ∃ a c, v = .slice a l.length c ∧ l.length ≤ 9223372036854775807 := by
  rcases h with ⟨rfl, a, c, rfl, h1, -⟩ | ⟨b, off, c, rfl, -, h1, h2, -⟩
  · exact ⟨a, c, rfl, by simp⟩
  · exact ⟨_, _, rfl, by omega⟩

theorem RepSts.elem {w : World} {F : Nat → Prop} {l : List (Int × Int)} {a : Option Addr} {n c : Nat} (h : RepSts w F l (.slice a n c)) (i : Nat) (hi : i < l.length) :
    ∃ b off, a = some ⟨b, off, none⟩ ∧ F b ∧ w.cell? ⟨b, off + i * 2, none⟩ = some (.int .i64 l[i].1) ∧ w.cell? ⟨b, off + i * 2 + 1, none⟩ = some (.int .i64 l[i].2) := by
  rcases h with ⟨rfl, -⟩ | ⟨b, off, c', hv, hF, h1, h2, hc⟩
  · simp at hi
  · cases hv
    exact ⟨b, off, rfl, hF, (hc i hi).1, (hc i hi).2⟩

theorem RepSts.same {w w' : World} {F G : Nat → Prop} (hF : ∀ k, F k → G k) (hw : ∀ k, F k → w'.heap[k]? = w.heap[k]?) {l : List (Int × Int)} {v : Value} (h : RepSts w F l v) : RepSts w' G l v := by
  rcases h with h | ⟨b, off, c, hs, hb, h1, h2, hc⟩
  · exact .inl h
  · exact .inr ⟨b, off, c, hs, hF b hb, h1, h2, fun i hi => ⟨by rw [World.cell?_of_block (by exact hw b hb)]; exact (hc i hi).1, by rw [World.cell?_of_block (by exact hw b hb)]; exact (hc i hi).2⟩⟩

def isState (s : Int × Int) : Bool := decide (0 ≤ s.1 ∧ -1 ≤ s.2)

def followsAll (s : Int × Int) (l : List (Int × Int)) : Bool := isState s && l.all (may s)

end Go.Proofs.YtamgjlegcegmeaaGreatDoor.M
