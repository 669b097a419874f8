/- What has turned: nothing but some blocks. How the document's disk lies in memory. -/
import Derived.Test.YtamgjlegcegmeaaGreatDoorSD5
import Derived.Deep.QuietTactic
import Derived.Test.YtamgjlegcegmeaaGreatDoorSD1
/- Part: Only. -/
namespace Go.Proofs.YtamgjlegcegmeaaGreatDoor.M
open Go.RowKit

/-- Nothing but blocks of X has turned. -/
structure Only (X : Nat → Prop) (w w' : World) : Prop where
  os : w'.os = w.os
  tape : w'.tape = w.tape
  output : w'.output = w.output
  size : w.heap.size ≤ w'.heap.size
  block : ∀ k, k < w.heap.size → ¬ X k → w'.heap[k]? = w.heap[k]?

theorem Only.refl (X : Nat → Prop) (w : World) : Only X w w := ⟨rfl, rfl, rfl, Nat.le_refl _, fun _ _ _ => rfl⟩

theorem Only.of_below {X : Nat → Prop} {w w' : World} (h : Below w.heap.size w w') : Only X w w' := ⟨h.os, h.tape, h.output, h.size, fun k hk _ => h.block k hk⟩

/-- X, and all that is new since w. -/
def More (X : Nat → Prop) (w w' : World) (k : Nat) : Prop := X k ∨ (w.heap.size ≤ k ∧ k < w'.heap.size)

theorem Only.trans {X : Nat → Prop} {w w1 w2 : World} (h : Only X w w1) (g : Only (More X w w1) w1 w2) : Only X w w2 :=
  ⟨g.os.trans h.os, g.tape.trans h.tape, g.output.trans h.output, Nat.le_trans h.size g.size, fun k hk hn =>
    (g.block k (Nat.lt_of_lt_of_le hk h.size) fun hm => by
      rcases hm with hm | hm
      · exact hn hm
      · omega).trans (h.block k hk hn)⟩

theorem More.trans {X : Nat → Prop} {w w1 w2 : World} {k : Nat} (h1 : w.heap.size ≤ w1.heap.size) (h2 : w1.heap.size ≤ w2.heap.size) (h : More (More X w w1) w1 w2 k) : More X w w2 k := by
  rcases h with (h | h) | h
  · exact .inl h
  · exact .inr ⟨h.1, by omega⟩
  · exact .inr ⟨by omega, h.2⟩

theorem Only.mono {X Y : Nat → Prop} {w w' : World} (h : Only X w w') (hX : ∀ k, X k → Y k) : Only Y w w' := ⟨h.os, h.tape, h.output, h.size, fun k hk hn => h.block k hk fun hx => hn (hX k hx)⟩

theorem Only.alloc {X : Nat → Prop} {w w' : World} (h : Only X w w') (o : Obj) : Only X w (w'.alloc o) :=
  ⟨h.os, h.tape, h.output, by have := h.size; simp; omega, fun k hk hn => by rw [Below.heap_alloc _ _ _ (Nat.lt_of_lt_of_le hk h.size)]; exact h.block k hk hn⟩

theorem Only.set {X : Nat → Prop} {w w' : World} (h : Only X w w') {g j : Nat} (hg : X g ∨ w.heap.size ≤ g) (v : Value) : Only X w (w'.setCell ⟨g, j, none⟩ v) :=
  ⟨h.os, h.tape, h.output, by have := h.size; simp; omega, fun k hk hn => by
    rw [Below.heap_setCell _ _ _ _ (by
      show k ≠ g
      intro e
      rcases hg with hg | hg
      · exact hn (e ▸ hg)
      · omega)]
    exact h.block k hk hn⟩

theorem Only.next {X : Nat → Prop} {w w1 w2 : World} (h : Only X w w1) (g : Below w1.heap.size w1 w2) : Only X w w2 :=
  ⟨g.os.trans h.os, g.tape.trans h.tape, g.output.trans h.output, Nat.le_trans h.size g.size, fun k hk hn => (g.block k (Nat.lt_of_lt_of_le hk h.size)).trans (h.block k hk hn)⟩

theorem Only.thn {X X1 : Nat → Prop} {w w1 w2 : World} (h : Only X w w1) (hX : ∀ k, X1 k → X k ∨ w.heap.size ≤ k) (g : Only X1 w1 w2) : Only X w w2 :=
  ⟨g.os.trans h.os, g.tape.trans h.tape, g.output.trans h.output, Nat.le_trans h.size g.size, fun k hk hn => (g.block k (Nat.lt_of_lt_of_le hk h.size) fun hx => by
    rcases hX k hx with h | h
    · exact hn h
    · omega).trans (h.block k hk hn)⟩

theorem Only.one {w : World} {b j : Nat} (v : Value) : Only (fun k => k = b) w (w.setCell ⟨b, j, none⟩ v) := (Only.refl (fun k => k = b) w).set (.inl rfl) v

theorem Only.drewN (X : Nat → Prop) (w : World) (n : Nat) : Only X w (w.drewN n) := ⟨rfl, rfl, rfl, Nat.le_refl _, fun _ _ _ => rfl⟩

theorem Only.then {X : Nat → Prop} {w w1 w2 : World} (h : Only X w w1) (g : Only X w1 w2) : Only X w w2 := h.trans (g.mono fun _ hk => .inl hk)

theorem Only.drawn {X : Nat → Prop} {w w' : World} (h : Only X w w') : Only X w w'.drew := ⟨h.os, h.tape, h.output, h.size, h.block⟩

theorem cell_only {X : Nat → Prop} {w w' : World} (h : Only X w w') {b : Nat} (hb : b < w.heap.size) (hX : ¬ X b) (j : Nat) : w'.cell? ⟨b, j, none⟩ = w.cell? ⟨b, j, none⟩ := World.cell?_of_block (a := ⟨b, j, none⟩) (h.block b hb hX)

theorem below_only {w wr w' : World} {S : Nat → Prop} (h : Below w.heap.size w wr) (ho : Only S wr w') (hS : ∀ k, S k → w.heap.size ≤ k) : Below w.heap.size w w' :=
  ⟨ho.os.trans h.os, ho.tape.trans h.tape, ho.output.trans h.output, Nat.le_trans h.size ho.size, fun k hk => by
    rw [ho.block k (Nat.lt_of_lt_of_le hk h.size) fun hn => by have := hS k hn; omega]
    exact h.block k hk⟩
end Go.Proofs.YtamgjlegcegmeaaGreatDoor.M

/- Part: DiskRep. -/
namespace Go.Proofs.YtamgjlegcegmeaaGreatDoor.M
open Go.RowKit
open D (Fl Dk)

/-- The cells of a file. -/
def flV (p : Fl × Value) : List Value := [.string p.1.nm, p.2, .int .i64 (p.1.safe : Int)]

def flCells (fv : List (Fl × Value)) : List Value := fv.flatMap flV

theorem flCells_length (fv : List (Fl × Value)) : (flCells fv).length = fv.length * 3 := by
  induction fv with
  | nil => rfl
  | cons p r ih => simp only [flCells, List.flatMap_cons, List.length_append, List.length_cons] at ih ⊢; rw [ih]; simp [flV]; omega

theorem flCells_get : ∀ (fv : List (Fl × Value)) (i : Nat) (h : i < fv.length), (flCells fv)[i * 3]? = some (.string fv[i].1.nm) ∧ (flCells fv)[i * 3 + 1]? = some fv[i].2 ∧ (flCells fv)[i * 3 + 2]? = some (.int .i64 (fv[i].1.safe : Int))
  | p :: r, 0, _ => ⟨rfl, rfl, rfl⟩
  | p :: r, i + 1, h => by
    have ih := flCells_get r i (by simpa using h)
    have e : ∀ j, (flCells (p :: r))[(i + 1) * 3 + j]? = (flCells r)[i * 3 + j]? := fun j => by
      simp only [flCells, List.flatMap_cons]
      rw [List.getElem?_append_right (by simp [flV]; omega)]
      congr 1
      simp [flV]; omega
    exact ⟨(e 0).trans ih.1, (e 1).trans ih.2.1, (e 2).trans ih.2.2⟩

/-- The blocks that a disk lies in. -/
def blocksOf (gd : Nat) (vl : Value) (fv : List (Fl × Value)) : List Nat := gd :: vl.ownBlock.toList ++ fv.flatMap fun p => p.2.ownBlock.toList

theorem ownsRow_same {w w' : World} {base e size n : Nat} {v : Value} {xs : List Value} (h : w.ownsRow base e size v n xs) (hs : ∀ k, v.ownBlock = some k → w'.heap[k]? = w.heap[k]?) : w'.ownsRow base e size v n xs := by
  obtain ⟨h1, h2 | ⟨g, cap, cur, hv, hg, hcur, h3⟩⟩ := h
  · exact ⟨h1, .inl h2⟩
  · exact ⟨h1, .inr ⟨g, cap, cur, hv, hg, (hs g (by rw [hv]; rfl)).trans hcur, h3⟩⟩

theorem mem_blocks_vl {gd : Nat} {vl : Value} {fv : List (Fl × Value)} {k : Nat} (h : vl.ownBlock = some k) : k ∈ blocksOf gd vl fv := by simp [blocksOf, h]

theorem mem_blocks_file {gd : Nat} {vl : Value} {fv : List (Fl × Value)} {k : Nat} {p : Fl × Value} (hp : p ∈ fv) (h : p.2.ownBlock = some k) : k ∈ blocksOf gd vl fv := by
  simp only [blocksOf, List.cons_append, List.mem_cons, List.mem_append, List.mem_flatMap]
  exact .inr (.inr ⟨p, hp, by simp [h]⟩)

/-- What the answers of calls on a disk need of it. -/
def Fine (d : Dk) : Prop := d.fs.length ≤ 4096 ∧ d.calls ≤ 9223372036854775807 ∧ 0 ≤ d.free ∧ 0 ≤ d.room ∧ d.room ≤ 9223372036854775807

end Go.Proofs.YtamgjlegcegmeaaGreatDoor.M
