/- Slices of ints in memory. -/
import Derived.Test.YtamgjlegcegmeaaGreatDoorSD5
namespace Go.Proofs.YtamgjlegcegmeaaGreatDoor.M
open Go.RowKit

/-- A slice of ints. -/
def RepI (w : World) (F : Nat → Prop) (l : List Int) (v : Value) : Prop :=
  (l = [] ∧ Bare v) ∨ ∃ b off c, v = .slice (some ⟨b, off, none⟩) l.length c ∧ F b ∧ l.length ≤ c ∧ c ≤ 9223372036854775807 ∧
    ∀ (i : Nat) (h : i < l.length), w.cell? ⟨b, off + i, none⟩ = some (.int .i64 l[i]) ∧ -9223372036854775808 ≤ l[i] ∧ l[i] ≤ 9223372036854775807

theorem RepI.same {w w' : World} {F G : Nat → Prop} (hF : ∀ k, F k → G k) (hw : ∀ k, F k → w'.heap[k]? = w.heap[k]?) {l : List Int} {v : Value} (h : RepI w F l v) : RepI w' G l v := by
  rcases h with h | ⟨b, off, c, hv, hb, hl, hm, hc⟩
  · exact .inl h
  · exact .inr ⟨b, off, c, hv, hF b hb, hl, hm, fun i hi => ⟨by rw [World.cell?_of_block (by exact hw b hb)]; exact (hc i hi).1, (hc i hi).2⟩⟩

theorem RepI.slice {w : World} {F : Nat → Prop} {l : List Int} {v : Value} (h : RepI w F l v) : ∃ a c, v = .slice a l.length c ∧ l.length ≤ 9223372036854775807 := by
  rcases h with ⟨rfl, a, c, rfl, _⟩ | ⟨b, off, c, rfl, _, h1, h2, _⟩
  · exact ⟨a, c, rfl, by simp⟩
  · exact ⟨_, c, rfl, by omega⟩

theorem RepI.elem {w : World} {F : Nat → Prop} {l : List Int} {a : Option Addr} {n c : Nat} (h : RepI w F l (.slice a n c)) (i : Nat) (hi : i < l.length) :
    ∃ b off, a = some ⟨b, off, none⟩ ∧ F b ∧ w.cell? ⟨b, off + i, none⟩ = some (.int .i64 l[i]) ∧ -9223372036854775808 ≤ l[i] ∧ l[i] ≤ 9223372036854775807 := by
  rcases h with ⟨h, _⟩ | ⟨b, off, c', h, hb, _, _, hc⟩
  · rw [h] at hi; simp at hi
  · cases h
    exact ⟨b, off, rfl, hb, hc i hi⟩

theorem RepI.elem' {w : World} {F : Nat → Prop} {l : List Int} {a : Option Addr} {n c m : Nat} (h : RepI w F l (.slice a n c)) (hm : m = l.length) (i : Nat) (hi : i < m) :
    ∃ b off, a = some ⟨b, off, none⟩ ∧ F b ∧ w.cell? ⟨b, off + i, none⟩ = some (.int .i64 (l[i]'(by omega))) ∧ -9223372036854775808 ≤ (l[i]'(by omega)) ∧ (l[i]'(by omega)) ≤ 9223372036854775807 := h.elem i (by omega)
end Go.Proofs.YtamgjlegcegmeaaGreatDoor.M
