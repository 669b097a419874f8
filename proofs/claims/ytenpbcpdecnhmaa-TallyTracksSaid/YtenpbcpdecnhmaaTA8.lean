/- Matches in memory: slices of pairs of ints. -/
import Derived.Test.YtenpbcpdecnhmaaTA6
import Derived.Test.YtenpbcpdecnhmaaTA7
namespace Go.Proofs.Ytenpbcpdecnhmaa.M
open Go.RowKit

def In64p (p : Int × Int) : Prop := (-9223372036854775808 ≤ p.1 ∧ p.1 ≤ 9223372036854775807) ∧ (-9223372036854775808 ≤ p.2 ∧ p.2 ≤ 9223372036854775807)

/-- A slice of matches. -/
def RepM (w : World) (F : Nat → Prop) (l : List (Int × Int)) (v : Value) : Prop :=
  (l = [] ∧ Bare v) ∨ ∃ b off c, v = .slice (some ⟨b, off, none⟩) l.length c ∧ F b ∧ l.length ≤ c ∧ c ≤ 9223372036854775807 ∧
    ∀ (i : Nat) (hi : i < l.length), (w.cell? ⟨b, off + i * 2, none⟩ = some (.int .i64 l[i].1) ∧ w.cell? ⟨b, off + i * 2 + 1, none⟩ = some (.int .i64 l[i].2)) ∧ In64p l[i]

theorem RepM.slice {w : World} {F : Nat → Prop} {l : List (Int × Int)} {v : Value} (h : RepM w F l v) : ∃ a c, v = .slice a l.length c ∧ l.length ≤ 9223372036854775807 := by
  rcases h with ⟨rfl, a, c, rfl, h1, -⟩ | ⟨b, off, c, rfl, -, h1, h2, -⟩
  · exact ⟨a, c, rfl, by simp⟩
  · exact ⟨_, _, rfl, by omega⟩

theorem RepM.elem {w : World} {F : Nat → Prop} {l : List (Int × Int)} {a : Option Addr} {n c : Nat} (h : RepM w F l (.slice a n c)) (i : Nat) (hi : i < l.length) :
    ∃ b off, a = some ⟨b, off, none⟩ ∧ F b ∧ w.cell? ⟨b, off + i * 2, none⟩ = some (.int .i64 l[i].1) ∧ w.cell? ⟨b, off + i * 2 + 1, none⟩ = some (.int .i64 l[i].2) ∧ In64p l[i] := by
  rcases h with ⟨rfl, -⟩ | ⟨b, off, c', hv, hF, h1, h2, hc⟩
  · simp at hi
  · cases hv
    exact ⟨b, off, rfl, hF, (hc i hi).1.1, (hc i hi).1.2, (hc i hi).2⟩

theorem RepM.rng {w : World} {F : Nat → Prop} {l : List (Int × Int)} {v : Value} (h : RepM w F l v) : ∀ p ∈ l, In64p p := by
  intro p hp
  obtain ⟨i, hi, rfl⟩ := List.mem_iff_getElem.1 hp
  rcases h with ⟨rfl, _⟩ | ⟨b, off, c, rfl, _, _, _, hc⟩
  · simp at hi
  · exact (hc i hi).2

theorem RepM.same {w w' : World} {F G : Nat → Prop} (hF : ∀ k, F k → G k) (hw : ∀ k, F k → w'.heap[k]? = w.heap[k]?) {l : List (Int × Int)} {v : Value} (h : RepM w F l v) : RepM w' G l v := by
  rcases h with h | ⟨b, off, c, hs, hb, h1, h2, hc⟩
  · exact .inl h
  · exact .inr ⟨b, off, c, hs, hF b hb, h1, h2, fun i hi => ⟨⟨by rw [World.cell?_of_block (by exact hw b hb)]; exact (hc i hi).1.1, by rw [World.cell?_of_block (by exact hw b hb)]; exact (hc i hi).1.2⟩, (hc i hi).2⟩⟩

theorem RepM.below {w w' : World} {F : Nat → Prop} {l : List (Int × Int)} {v : Value} (h : RepM w F l v) (hF : ∀ k, F k → k < w.heap.size) (hb : Below w.heap.size w w') : RepM w' F l v := h.same (fun _ h => h) fun k hk => hb.block k (hF k hk)

theorem hasM_in64 {l : List (Int × Int)} (h : ∀ p ∈ l, In64p p) (k : Int) : -9223372036854775808 ≤ hasM l k ∧ hasM l k ≤ 9223372036854775807 :=
  ⟨by have := hasM_nn l k; omega, hasM_le (by omega) (fun m hm => (h m hm).2.2) k⟩

theorem hasStep_max (n : Int) (m : Int × Int) : hasStep m.1 n m = max n m.2 := by
  unfold hasStep
  simp only [true_and]
  split <;> omega

theorem hasStep_other {id n : Int} {m : Int × Int} (h : id ≠ m.1) : hasStep id n m = n := by
  unfold hasStep
  rw [if_neg fun e => h e.1.symm]
end Go.Proofs.Ytenpbcpdecnhmaa.M
