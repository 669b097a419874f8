/- Slices of strings in memory. -/
import Derived.Test.YtamgjlegcegmeaaGreatDoorSD11
import Derived.Test.YtamgjlegcegmeaaGreatDoorSD16
namespace Go.Proofs.YtamgjlegcegmeaaGreatDoor.M
open Go.RowKit

/-- A slice of strings. -/
def RepSl (w : World) (F : Nat → Prop) (l : List ByteArray) (v : Value) : Prop :=
  (l = [] ∧ Bare v) ∨ ∃ b off c, v = .slice (some ⟨b, off, none⟩) l.length c ∧ F b ∧ l.length ≤ c ∧ c ≤ 9223372036854775807 ∧
    ∀ (i : Nat) (h : i < l.length), w.cell? ⟨b, off + i, none⟩ = some (.string l[i])

theorem RepSl.same {w w' : World} {F G : Nat → Prop} (hF : ∀ k, F k → G k) (hw : ∀ k, F k → w'.heap[k]? = w.heap[k]?) {l : List ByteArray} {v : Value} (h : RepSl w F l v) : RepSl w' G l v := by
  rcases h with h | ⟨b, off, c, hv, hb, hl, hm, hc⟩
  · exact .inl h
  · exact .inr ⟨b, off, c, hv, hF b hb, hl, hm, fun i hi => by rw [World.cell?_of_block (by exact hw b hb)]; exact hc i hi⟩

theorem RepSl.slice {w : World} {F : Nat → Prop} {l : List ByteArray} {v : Value} (h : RepSl w F l v) : ∃ a c, v = .slice a l.length c ∧ l.length ≤ 9223372036854775807 := by
  rcases h with ⟨rfl, a, c, rfl, _⟩ | ⟨b, off, c, rfl, _, h1, h2, _⟩
  · exact ⟨a, c, rfl, by simp⟩
  · exact ⟨_, c, rfl, by omega⟩

theorem RepSl.elem {w : World} {F : Nat → Prop} {l : List ByteArray} {a : Option Addr} {n c : Nat} (h : RepSl w F l (.slice a n c)) (i : Nat) (hi : i < l.length) :
    ∃ b off, a = some ⟨b, off, none⟩ ∧ F b ∧ w.cell? ⟨b, off + i, none⟩ = some (.string l[i]) := by
  rcases h with ⟨h, _⟩ | ⟨b, off, c', h, hb, _, _, hc⟩
  · rw [h] at hi; simp at hi
  · cases h
    exact ⟨b, off, rfl, hb, hc i hi⟩
end Go.Proofs.YtamgjlegcegmeaaGreatDoor.M
