/- What has turned: nothing but some blocks. -/
import Derived.Test.YtdngfbljcmbniaaDoorCN2
import Derived.Deep.QuietTactic
namespace Go.Proofs.YtdngfbljcmbniaaDoor.M
open Go.RowKit

/-- Nothing but blocks of X has turned. -/
structure Only (X : Nat → Prop) (w w' : World) : Prop where
  os : w'.os = w.os
  tape : w'.tape = w.tape
  output : w'.output = w.output
  size : w.heap.size ≤ w'.heap.size
  block : ∀ k, k < w.heap.size → ¬ X k → w'.heap[k]? = w.heap[k]?

theorem Only.refl (X : Nat → Prop) (w : World) : Only X w w := ⟨rfl, rfl, rfl, Nat.le_refl _, fun _ _ _ => rfl⟩

theorem Only.of_below {X : Nat → Prop} {w w' : World} (h : Below w.heap.size w w') : Only X w w' := ⟨h.os, h.tape, h.output, h.size, fun k hk _ => h.block k hk⟩

/-- X, and all that is new since w. -/
def More (X : Nat → Prop) (w w' : World) (k : Nat) : Prop := X k ∨ (w.heap.size ≤ k ∧ k < w'.heap.size)

theorem Only.trans {X : Nat → Prop} {w w1 w2 : World} (h : Only X w w1) (g : Only (More X w w1) w1 w2) : Only X w w2 :=
  ⟨g.os.trans h.os, g.tape.trans h.tape, g.output.trans h.output, Nat.le_trans h.size g.size, fun k hk hn =>
    (g.block k (Nat.lt_of_lt_of_le hk h.size) fun hm => by
      rcases hm with hm | hm
      · exact hn hm
      · omega).trans (h.block k hk hn)⟩

theorem More.trans {X : Nat → Prop} {w w1 w2 : World} {k : Nat} (h1 : w.heap.size ≤ w1.heap.size) (h2 : w1.heap.size ≤ w2.heap.size) (h : More (More X w w1) w1 w2 k) : More X w w2 k := by
  rcases h with (h | h) | h
  · exact .inl h
  · exact .inr ⟨h.1, by omega⟩
  · exact .inr ⟨by omega, h.2⟩

theorem Only.mono {X Y : Nat → Prop} {w w' : World} (h : Only X w w') (hX : ∀ k, X k → Y k) : Only Y w w' := ⟨h.os, h.tape, h.output, h.size, fun k hk hn => h.block k hk fun hx => hn (hX k hx)⟩

theorem Only.alloc {X : Nat → Prop} {w w' : World} (h : Only X w w') (o : Obj) : Only X w (w'.alloc o) :=
  ⟨h.os, h.tape, h.output, by have := h.size; simp; omega, fun k hk hn => by rw [Below.heap_alloc _ _ _ (Nat.lt_of_lt_of_le hk h.size)]; exact h.block k hk hn⟩

theorem Only.set {X : Nat → Prop} {w w' : World} (h : Only X w w') {g j : Nat} (hg : X g ∨ w.heap.size ≤ g) (v : Value) : Only X w (w'.setCell ⟨g, j, none⟩ v) :=
  ⟨h.os, h.tape, h.output, by have := h.size; simp; omega, fun k hk hn => by
    rw [Below.heap_setCell _ _ _ _ (by
      show k ≠ g
      intro e
      rcases hg with hg | hg
      · exact hn (e ▸ hg)
      · omega)]
    exact h.block k hk hn⟩

theorem Only.next {X : Nat → Prop} {w w1 w2 : World} (h : Only X w w1) (g : Below w1.heap.size w1 w2) : Only X w w2 :=
  ⟨g.os.trans h.os, g.tape.trans h.tape, g.output.trans h.output, Nat.le_trans h.size g.size, fun k hk hn => (g.block k (Nat.lt_of_lt_of_le hk h.size)).trans (h.block k hk hn)⟩

theorem Only.thn {X X1 : Nat → Prop} {w w1 w2 : World} (h : Only X w w1) (hX : ∀ k, X1 k → X k ∨ w.heap.size ≤ k) (g : Only X1 w1 w2) : Only X w w2 :=
  ⟨g.os.trans h.os, g.tape.trans h.tape, g.output.trans h.output, Nat.le_trans h.size g.size, fun k hk hn => (g.block k (Nat.lt_of_lt_of_le hk h.size) fun hx => by
    rcases hX k hx with h | h
    · exact hn h
    · omega).trans (h.block k hk hn)⟩

theorem Only.one {w : World} {b j : Nat} (v : Value) : Only (fun k => k = b) w (w.setCell ⟨b, j, none⟩ v) := (Only.refl (fun k => k = b) w).set (.inl rfl) v

theorem Only.drewN (X : Nat → Prop) (w : World) (n : Nat) : Only X w (w.drewN n) := ⟨rfl, rfl, rfl, Nat.le_refl _, fun _ _ _ => rfl⟩

theorem Only.then {X : Nat → Prop} {w w1 w2 : World} (h : Only X w w1) (g : Only X w1 w2) : Only X w w2 := h.trans (g.mono fun _ hk => .inl hk)

theorem Only.drawn {X : Nat → Prop} {w w' : World} (h : Only X w w') : Only X w w'.drew := ⟨h.os, h.tape, h.output, h.size, h.block⟩

theorem cell_only {X : Nat → Prop} {w w' : World} (h : Only X w w') {b : Nat} (hb : b < w.heap.size) (hX : ¬ X b) (j : Nat) : w'.cell? ⟨b, j, none⟩ = w.cell? ⟨b, j, none⟩ := World.cell?_of_block (a := ⟨b, j, none⟩) (h.block b hb hX)

theorem below_only {w wr w' : World} {S : Nat → Prop} (h : Below w.heap.size w wr) (ho : Only S wr w') (hS : ∀ k, S k → w.heap.size ≤ k) : Below w.heap.size w w' :=
  ⟨ho.os.trans h.os, ho.tape.trans h.tape, ho.output.trans h.output, Nat.le_trans h.size ho.size, fun k hk => by
    rw [ho.block k (Nat.lt_of_lt_of_le hk h.size) fun hn => by have := hS k hn; omega]
    exact h.block k hk⟩
end Go.Proofs.YtdngfbljcmbniaaDoor.M
