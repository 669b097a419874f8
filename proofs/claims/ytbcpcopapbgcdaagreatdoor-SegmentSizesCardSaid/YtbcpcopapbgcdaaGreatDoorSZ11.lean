/- How the document's disk lies in memory. -/
import Derived.Test.YtbcpcopapbgcdaaGreatDoorSZ5
import Derived.Test.YtbcpcopapbgcdaaGreatDoorSZ1
namespace Go.Proofs.YtbcpcopapbgcdaaGreatDoor.M
open Go.RowKit
open D (Fl Dk)

/-- Nothing but blocks of X has turned. -/
structure Only (X : Nat → Prop) (w w' : World) : Prop where
  os : w'.os = w.os
  tape : w'.tape = w.tape
  output : w'.output = w.output
  size : w.heap.size ≤ w'.heap.size
  block : ∀ k, k < w.heap.size → ¬ X k → w'.heap[k]? = w.heap[k]?

theorem Only.refl (X : Nat → Prop) (w : World) : Only X w w := ⟨rfl, rfl, rfl, Nat.le_refl _, fun _ _ _ => rfl⟩

theorem Only.of_below {X : Nat → Prop} {w w' : World} (h : Below w.heap.size w w') : Only X w w' := ⟨h.os, h.tape, h.output, h.size, fun k hk _ => h.block k hk⟩

/-- X, and all that is new since w. -/
def More (X : Nat → Prop) (w w' : World) (k : Nat) : Prop := X k ∨ (w.heap.size ≤ k ∧ k < w'.heap.size)

theorem Only.trans {X : Nat → Prop} {w w1 w2 : World} (h : Only X w w1) (g : Only (More X w w1) w1 w2) : Only X w w2 :=
  ⟨g.os.trans h.os, g.tape.trans h.tape, g.output.trans h.output, Nat.le_trans h.size g.size, fun k hk hn =>
    (g.block k (Nat.lt_of_lt_of_le hk h.size) fun hm => by
      rcases hm with hm | hm
      · exact hn hm
      · omega).trans (h.block k hk hn)⟩

theorem More.trans {X : Nat → Prop} {w w1 w2 : World} {k : Nat} (h1 : w.heap.size ≤ w1.heap.size) (h2 : w1.heap.size ≤ w2.heap.size) (h : More (More X w w1) w1 w2 k) : More X w w2 k := by
  rcases h with (h | h) | h
  · exact .inl h
  · exact .inr ⟨h.1, by omega⟩
  · exact .inr ⟨by omega, h.2⟩

/-- The cells of a file. -/
def flV (p : Fl × Value) : List Value := [.string p.1.nm, p.2, .int .i64 (p.1.safe : Int)]

def flCells (fv : List (Fl × Value)) : List Value := fv.flatMap flV

theorem flCells_length (fv : List (Fl × Value)) : (flCells fv).length = fv.length * 3 := by
  induction fv with
  | nil => rfl
  | cons p r ih => simp only [flCells, List.flatMap_cons, List.length_append, List.length_cons] at ih ⊢; rw [ih]; simp [flV]; omega

theorem flCells_get : ∀ (fv : List (Fl × Value)) (i : Nat) (h : i < fv.length), (flCells fv)[i * 3]? = some (.string fv[i].1.nm) ∧ (flCells fv)[i * 3 + 1]? = some fv[i].2 ∧ (flCells fv)[i * 3 + 2]? = some (.int .i64 (fv[i].1.safe : Int))
  | p :: r, 0, _ => ⟨rfl, rfl, rfl⟩
  | p :: r, i + 1, h => by
    have ih := flCells_get r i (by simpa using h)
    have e : ∀ j, (flCells (p :: r))[(i + 1) * 3 + j]? = (flCells r)[i * 3 + j]? := fun j => by
      simp only [flCells, List.flatMap_cons]
      rw [List.getElem?_append_right (by simp [flV]; omega)]
      congr 1
      simp [flV]; omega
    exact ⟨(e 0).trans ih.1, (e 1).trans ih.2.1, (e 2).trans ih.2.2⟩

/-- The blocks that a disk lies in. -/
def blocksOf (gd : Nat) (vl : Value) (fv : List (Fl × Value)) : List Nat := gd :: vl.ownBlock.toList ++ fv.flatMap fun p => p.2.ownBlock.toList

/-- A disk in memory, part by part. -/
structure DkAt (w : World) (X : Nat → Prop) (gd : Nat) (d : Dk) (vl : Value) (fv : List (Fl × Value)) : Prop where
  box : ∃ cc : Int, w.heap[gd]? = some (.cells #[.int .i64 d.room, vl, .bool d.ends, .int .i64 cc] 69) ∧ (d.ends = true → cc = (d.calls : Int))
  fs : fv.map (·.1) = d.fs
  row : w.ownsRow 0 147 3 vl fv.length (flCells fv)
  each : ∀ p ∈ fv, w.ownsRow 0 5 1 p.2 p.1.b.length (p.1.b.map byteV)
  apart : (blocksOf gd vl fv).Nodup
  foot : ∀ k ∈ blocksOf gd vl fv, X k

theorem ownsRow_same {w w' : World} {base e size n : Nat} {v : Value} {xs : List Value} (h : w.ownsRow base e size v n xs) (hs : ∀ k, v.ownBlock = some k → w'.heap[k]? = w.heap[k]?) : w'.ownsRow base e size v n xs := by
  obtain ⟨h1, h2 | ⟨g, cap, cur, hv, hg, hcur, h3⟩⟩ := h
  · exact ⟨h1, .inl h2⟩
  · exact ⟨h1, .inr ⟨g, cap, cur, hv, hg, (hs g (by rw [hv]; rfl)).trans hcur, h3⟩⟩

theorem mem_blocks_vl {gd : Nat} {vl : Value} {fv : List (Fl × Value)} {k : Nat} (h : vl.ownBlock = some k) : k ∈ blocksOf gd vl fv := by simp [blocksOf, h]

theorem mem_blocks_file {gd : Nat} {vl : Value} {fv : List (Fl × Value)} {k : Nat} {p : Fl × Value} (hp : p ∈ fv) (h : p.2.ownBlock = some k) : k ∈ blocksOf gd vl fv := by
  simp only [blocksOf, List.cons_append, List.mem_cons, List.mem_append, List.mem_flatMap]
  exact .inr (.inr ⟨p, hp, by simp [h]⟩)

theorem DkAt.same {w w' : World} {X Y : Nat → Prop} {gd : Nat} {d : Dk} {vl : Value} {fv : List (Fl × Value)} (h : DkAt w X gd d vl fv) (hX : ∀ k, X k → Y k) (hs : ∀ k, X k → w'.heap[k]? = w.heap[k]?) : DkAt w' Y gd d vl fv :=
  ⟨by
    obtain ⟨cc, hb, hc⟩ := h.box
    exact ⟨cc, (hs gd (h.foot gd (by simp [blocksOf]))).trans hb, hc⟩, h.fs, ownsRow_same h.row fun k hk => hs k (h.foot k (mem_blocks_vl hk)),
    fun p hp => ownsRow_same (h.each p hp) fun k hk => hs k (h.foot k (mem_blocks_file hp hk)), h.apart, fun k hk => hX k (h.foot k hk)⟩

/-- A disk in memory. -/
def Dsk (w : World) (X : Nat → Prop) (gd : Nat) (d : Dk) : Prop := ∃ vl fv, DkAt w X gd d vl fv

theorem Dsk.same {w w' : World} {X Y : Nat → Prop} {gd : Nat} {d : Dk} (h : Dsk w X gd d) (hX : ∀ k, X k → Y k) (hs : ∀ k, X k → w'.heap[k]? = w.heap[k]?) : Dsk w' Y gd d := by
  obtain ⟨vl, fv, h⟩ := h
  exact ⟨vl, fv, h.same hX hs⟩

/-- The four cells of a disk. -/
theorem DkAt.cells {w : World} {X : Nat → Prop} {gd : Nat} {d : Dk} {vl : Value} {fv : List (Fl × Value)} (h : DkAt w X gd d vl fv) :
    ∃ cc : Int, (w.cell? ⟨gd, 0, none⟩ = some (.int .i64 d.room) ∧ w.cell? ⟨gd, 1, none⟩ = some vl ∧ w.cell? ⟨gd, 2, none⟩ = some (.bool d.ends) ∧ w.cell? ⟨gd, 3, none⟩ = some (.int .i64 cc)) ∧
    (w.frozen? ⟨gd, 0, none⟩ = false ∧ w.frozen? ⟨gd, 1, none⟩ = false ∧ w.frozen? ⟨gd, 2, none⟩ = false ∧ w.frozen? ⟨gd, 3, none⟩ = false) ∧ gd < w.heap.size ∧
    w.heap[gd]? = some (.cells #[.int .i64 d.room, vl, .bool d.ends, .int .i64 cc] 69) ∧ (d.ends = true → cc = (d.calls : Int)) := by
  obtain ⟨cc, hb, hc⟩ := h.box
  exact ⟨cc, ⟨cell_of_row w gd 0 _ _ _ hb, cell_of_row w gd 1 _ _ _ hb, cell_of_row w gd 2 _ _ _ hb, cell_of_row w gd 3 _ _ _ hb⟩,
    ⟨frozen_of_row w gd 0 _ _ hb, frozen_of_row w gd 1 _ _ hb, frozen_of_row w gd 2 _ _ hb, frozen_of_row w gd 3 _ _ hb⟩, lt_of_heap hb, hb, hc⟩

/-- A file's cells. -/
theorem DkAt.file {w : World} {X : Nat → Prop} {gd : Nat} {d : Dk} {vl : Value} {fv : List (Fl × Value)} (h : DkAt w X gd d vl fv) (i : Nat) (hi : i < fv.length) :
    ∃ ga c, vl = .slice (some ⟨ga, 0, none⟩) fv.length c ∧ X ga ∧ ga ≠ gd ∧ ga < w.heap.size ∧ fv.length ≤ c ∧ c ≤ 9223372036854775807 ∧
      w.cell? ⟨ga, i * 3, none⟩ = some (.string fv[i].1.nm) ∧ w.cell? ⟨ga, i * 3 + 1, none⟩ = some fv[i].2 ∧ w.cell? ⟨ga, i * 3 + 2, none⟩ = some (.int .i64 (fv[i].1.safe : Int)) ∧ (∀ j, w.frozen? ⟨ga, j, none⟩ = false) := by
  have hr := h.row
  rcases hr.2 with ⟨h1, h2⟩ | ⟨g, cap, cur, hv, hg, hcur, hn, hm, hs, ht⟩
  · omega
  · have hgd : g ≠ gd := by
      intro e
      have := h.apart
      rw [blocksOf, List.cons_append, List.nodup_cons] at this
      apply this.1
      rw [hv, e]; simp [Value.ownBlock]
    rw [hv] at hr
    have hX : X g := h.foot g (mem_blocks_vl (by rw [hv]; rfl))
    obtain ⟨a, b, c⟩ := flCells_get fv i hi
    unfold maxLen at hm
    exact ⟨g, cap, hv, hX, hgd, (hr.lt g rfl).2, hn, hm, by rw [hr.cellAt _ (by omega)]; exact a, by rw [hr.cellAt _ (by omega)]; exact b, by rw [hr.cellAt _ (by omega)]; exact c, fun j => hr.frozenAt j⟩

theorem DkAt.len {w : World} {X : Nat → Prop} {gd : Nat} {d : Dk} {vl : Value} {fv : List (Fl × Value)} (h : DkAt w X gd d vl fv) : fv.length ≤ 9223372036854775807 ∧ d.fs.length = fv.length := by
  refine ⟨?_, by rw [← h.fs]; simp⟩
  rcases h.row.2 with ⟨h1, h2⟩ | ⟨g, cap, cur, hv, hg, hcur, hn, hm, hs, ht⟩
  · omega
  · unfold maxLen at hm; omega

theorem DkAt.get {w : World} {X : Nat → Prop} {gd : Nat} {d : Dk} {vl : Value} {fv : List (Fl × Value)} (h : DkAt w X gd d vl fv) (k : Nat) (hk : k < fv.length) (hk2 : k < d.fs.length) : fv[k].1 = d.fs[k] := by
  have := h.fs
  simp only [← this, List.getElem_map]

/-- A file's bytes, as a slice. -/
theorem DkAt.bytes {w : World} {X : Nat → Prop} {gd : Nat} {d : Dk} {vl : Value} {fv : List (Fl × Value)} (h : DkAt w X gd d vl fv) (k : Nat) (hk : k < fv.length) : ∃ a c, fv[k].2 = .slice a fv[k].1.b.length c ∧ fv[k].1.b.length ≤ 9223372036854775807 := by
  have he := h.each fv[k] (List.getElem_mem hk)
  obtain ⟨a, c, hv⟩ := owned_slice he
  refine ⟨a, c, hv, ?_⟩
  rcases he.2 with ⟨h1, h2⟩ | ⟨g, cap, cur, hv, hg, hcur, hn, hm, hs, ht⟩
  · omega
  · unfold maxLen at hm; omega

theorem Only.mono {X Y : Nat → Prop} {w w' : World} (h : Only X w w') (hX : ∀ k, X k → Y k) : Only Y w w' := ⟨h.os, h.tape, h.output, h.size, fun k hk hn => h.block k hk fun hx => hn (hX k hx)⟩

theorem Only.alloc {X : Nat → Prop} {w w' : World} (h : Only X w w') (o : Obj) : Only X w (w'.alloc o) :=
  ⟨h.os, h.tape, h.output, by have := h.size; simp; omega, fun k hk hn => by rw [Below.heap_alloc _ _ _ (Nat.lt_of_lt_of_le hk h.size)]; exact h.block k hk hn⟩

theorem Only.set {X : Nat → Prop} {w w' : World} (h : Only X w w') {g j : Nat} (hg : X g ∨ w.heap.size ≤ g) (v : Value) : Only X w (w'.setCell ⟨g, j, none⟩ v) :=
  ⟨h.os, h.tape, h.output, by have := h.size; simp; omega, fun k hk hn => by
    rw [Below.heap_setCell _ _ _ _ (by
      show k ≠ g
      intro e
      rcases hg with hg | hg
      · exact hn (e ▸ hg)
      · omega)]
    exact h.block k hk hn⟩

/-- What the answers of calls on a disk need of it. -/
def Fine (d : Dk) : Prop := d.fs.length ≤ 4096 ∧ d.calls ≤ 9223372036854775807 ∧ 0 ≤ d.free ∧ 0 ≤ d.room ∧ d.room ≤ 9223372036854775807

/-- A disk in memory that is there, with all of its memory. -/
def DskIn (w : World) (X : Nat → Prop) (gd : Nat) (d : Dk) : Prop := Dsk w X gd d ∧ ∀ k, X k → k < w.heap.size
end Go.Proofs.YtbcpcopapbgcdaaGreatDoor.M
