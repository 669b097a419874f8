/- Rows of ints of a call's own, and what turns them (stage 9's seat; as in stage 8's texts MmB .. MmU). -/
import Derived.Test.YtckankoaiapcoaaTM3
import Derived.Test.YtckankoaiapcoaaTM4
import Derived.Test.YtckankoaiapcoaaTM5
import Derived.Laws.ResultCell
namespace Go.Proofs.Ytckankoaiapcoaa.M
open Go.RowKit

theorem block2' {w : World} {g : Nat} {x y : Value} {t : TypeId} (h : w.heap[g]? = some (.cells #[x, y] t)) :
    w.cell? ⟨g, 0, none⟩ = some x ∧ w.cell? ⟨g, 1, none⟩ = some y ∧ w.frozen? ⟨g, 0, none⟩ = false ∧ w.frozen? ⟨g, 1, none⟩ = false ∧ g < w.heap.size :=
  ⟨cell_of_row w g 0 _ t _ h, cell_of_row w g 1 _ t _ h, frozen_of_row w g 0 _ t h, frozen_of_row w g 1 _ t h, lt_of_heap h⟩

theorem heap_set22 {w : World} {g : Nat} {x y a b : Value} {t : TypeId} (h : w.heap[g]? = some (.cells #[x, y] t)) :
    ((w.setCell ⟨g, 0, none⟩ a).setCell ⟨g, 1, none⟩ b).heap[g]? = some (.cells #[a, b] t) := by
  simp [World.setCell, Array.getElem?_modify, h]

theorem one_map (l : List Int) : ∀ u ∈ l.map intV, u.oneCell' = true := by
  intro u hu
  obtain ⟨z, -, rfl⟩ := List.mem_map.1 hu
  rfl

theorem RepI.below {w w' : World} {F : Nat → Prop} {l : List Int} {v : Value} (h : RepI w F l v) (hF : ∀ k, F k → k < w.heap.size) (hb : Below w.heap.size w w') : RepI w' F l v := h.same (fun _ h => h) fun k hk => hb.block k (hF k hk)

/-- What is left behind a call that turned a row of the call's own. -/
def Turned (base : Nat) (l : List Int) (v v' : Value) (w w' : World) : Prop :=
  IR base l v' w' ∧ w.grownBy w' v.ownBlock ∧ (v'.ownBlock = v.ownBlock ∨ ∃ g, v'.ownBlock = some g ∧ w.heap.size ≤ g)

theorem Turned.after {base : Nat} {l : List Int} {v v' : Value} {w w1 w' : World} (hb : Below w.heap.size w w1) (h : Turned base l v v' w1 w') : Turned base l v v' w w' :=
  ⟨h.1, gb_trans (gb_other _ (grown_of_below hb)) h.2.1, by
    rcases h.2.2 with h | ⟨g, h, hg⟩
    · exact .inl h
    · exact .inr ⟨g, h, Nat.le_trans hb.size hg⟩⟩

theorem Turned.below {base : Nat} {v : Value} {w w' : World} {L0 L : List Int} {v' : Value} (h : Turned base L v v' w w') (h0 : IR base L0 v w) (hb : base ≤ w.heap.size) : Below base w w' :=
  ⟨h.2.1.os, h.2.1.tape, h.2.1.output, h.2.1.size, fun k hk => h.2.1.block k (by omega) fun e => by have := (h0.block_lt e.symm).1; omega⟩

theorem below_drewN (w : World) (q : Nat) : Below w.heap.size w (w.drewN q) := ⟨rfl, rfl, rfl, Nat.le_refl _, fun _ _ => rfl⟩

theorem RepI.yields {w : World} {F : Nat → Prop} {l : List Int} {v : Value} (h : RepI w F l v) : Yields w v l.length 1 (l.map intV) := by
  refine ⟨by simp, one_map l, ?_⟩
  rcases h with ⟨rfl, a, c, rfl, _, ha⟩ | ⟨b, off, c, rfl, _, h1, h2, hc⟩
  · cases a with
    | none => rw [ha rfl]; exact .inl ⟨rfl, rfl⟩
    | some a => exact .inr ⟨a, c, rfl, fun j u hj => by simp at hj⟩
  · refine .inr ⟨_, c, rfl, fun j u hj => ?_⟩
    rw [List.getElem?_map] at hj
    have hj2 : j < l.length := by
      rcases Nat.lt_or_ge j l.length with h3 | h3
      · exact h3
      · rw [List.getElem?_eq_none h3] at hj; simp at hj
    rw [List.getElem?_eq_getElem hj2] at hj
    have := (hc j hj2).1
    simp at hj
    rw [← hj, intV, ← this]
    cases j <;> simp [Addr.add]

/-- An append to a row of ints of the call's own. -/
theorem wpList_ir_append {w : World} {ops : Array Oper} {rest : List Oper} {o : Oper} {a : Act} {Q : Exit → Act → World → Prop} (hgd : o.guard = none) (s y : Operand)
    (ho : o.op = .call { callee := .builtin .append, args := #[s, y], argTypes := #[28, 28] }) (_hty : o.type = 28)
    {base : Nat} {L L2 : List Int} {v x : Value} {F : Nat → Prop} (hs : a.eval s = v) (hown : IR base L v w) (hbase : base ≤ w.heap.size) (hy : a.eval y = x) (hx : RepI w F L2 x) (hl : L.length + L2.length ≤ 17592186044416)
    (h : ∀ v' w', Turned base (L ++ L2) v v' w w' → wpList Try.prog ops Q rest (a.put o.dst v') w') : wpList Try.prog ops Q (o :: rest) a w := by
  obtain ⟨ib, hib, hib0, hib1, hib2⟩ := info_parts infoInt
  exact wpList_append_any w hgd s y 28 ho base 3 ib (.int .i64 0) 1 8 Try.underlying28 hib hib0 hib1 hib2 rfl (by decide) v L.length (L.map intV) hs hown.own x hy L2.length (L2.map intV) hx.yields
    (by unfold maxLen; omega) (by omega) hbase fun v' w' ha => h v' w' ⟨⟨by rw [List.map_append, List.length_append]; exact ha.1, fun z hz => by
      rcases List.mem_append.1 hz with hz | hz
      · exact hown.rng z hz
      · exact hx.rng z hz⟩, ha.2.1, by
      rcases ha.2.2 with h | h
      · exact .inl h
      · exact .inr ⟨_, h, Nat.le_refl _⟩⟩

theorem IR.set {base : Nat} {l : List Int} {v u : Value} {w : World} {g j : Nat} (h : IR base l v w) (hn : v.ownBlock ≠ some g) : IR base l v (w.setCell ⟨g, j, none⟩ u) :=
  h.kept (gb_set j u (gb_refl w (some g))) fun e => absurd e hn

theorem ownBlock_nil : Value.ownBlock (.slice none 0 0) = none := rfl

theorem below_of_none {w w' : World} (h : w.grownBy w' none) : Below w.heap.size w w' := ⟨h.os, h.tape, h.output, h.size, fun k hk => h.block k hk (by simp)⟩

theorem heap_set2 {w : World} {g : Nat} {x y z : Value} {t : TypeId} (h : w.heap[g]? = some (.cells #[x, y] t)) :
    (w.setCell ⟨g, 0, none⟩ z).heap[g]? = some (.cells #[z, y] t) ∧ (w.setCell ⟨g, 1, none⟩ z).heap[g]? = some (.cells #[x, z] t) := by
  constructor <;> simp [World.setCell, Array.getElem?_modify, h]

theorem below_drew1 (w : World) : Below w.heap.size w w.drew := ⟨rfl, rfl, rfl, Nat.le_refl _, fun _ _ => rfl⟩

theorem only_drew (X : Nat → Prop) (w : World) : Only X w w.drew := ⟨rfl, rfl, rfl, Nat.le_refl _, fun _ _ _ => rfl⟩

theorem only_of_grown {X : Nat → Prop} {w w' : World} {row : Option Nat} (h : w.grownBy w' row) (hX : ∀ k, row = some k → X k) : Only X w w' :=
  ⟨h.os, h.tape, h.output, h.size, fun k hk hn => h.block k hk fun e => hn (hX k e.symm)⟩

/-- Since w nothing that was there has turned, and v is a row of ints of the call's own. -/
def OwnI (w : World) (l : List Int) (v : Value) (wr : World) : Prop := Below w.heap.size w wr ∧ IR w.heap.size l v wr

theorem OwnI.start (w : World) : OwnI w [] (.slice none 0 0) w := ⟨Below.refl _ _, IR.bare _ _⟩

theorem OwnI.next {w wr w' : World} {l : List Int} {v : Value} (h : OwnI w l v wr) (hb : Below wr.heap.size wr w') : OwnI w l v w' := ⟨h.1.trans (hb.mono h.1.size), h.2.next hb⟩

theorem OwnI.turned {w wr w' : World} {l l' : List Int} {v v' : Value} (h : OwnI w l v wr) (ht : Turned w.heap.size l' v v' wr w') : OwnI w l' v' w' := ⟨h.1.trans (ht.below h.2 h.1.size), ht.1⟩

theorem one_int {w : World} {z : Int} {g : Nat} (hg : g = w.heap.size) (hz : -9223372036854775808 ≤ z ∧ z ≤ 9223372036854775807) : RepI (w.alloc (.cells #[.int .i64 z] 3)) (fun _ => True) [z] (.slice (some ⟨g, 0, none⟩) 1 1) := by
  subst hg
  refine .inr ⟨w.heap.size, 0, 1, rfl, trivial, by simp, by omega, fun i hi => ?_⟩
  obtain rfl : i = 0 := by simpa using hi
  exact ⟨cell_of_row _ _ 0 _ _ _ (heap_alloc_new w _), hz⟩

theorem below_dr (n : Nat) (w : World) (q : Nat) : Below n w (w.drewN q) := ⟨rfl, rfl, rfl, Nat.le_refl _, fun _ _ => rfl⟩

/-- Ints in a new block. -/
theorem RepI.lit {w : World} {l : List Int} {g : Nat} {cs : Array Value} (hg : g = w.heap.size) (hc : cs = (l.map intV).toArray) (hl : l.length ≤ 1000000) (hr : In64 l) {n : Nat} (hn : n = l.length) :
    RepI (w.alloc (.cells cs 3)) (fun b => b < w.heap.size + 1) l (.slice (some ⟨g, 0, none⟩) n n) := by
  subst hg hc hn
  refine .inr ⟨w.heap.size, 0, l.length, rfl, by omega, Nat.le_refl _, by omega, fun i hi => ⟨?_, hr _ (List.getElem_mem hi)⟩⟩
  have := cell_of_row _ w.heap.size (0 + i) _ _ _ (heap_alloc_new w (.cells (l.map intV).toArray 3))
  rw [this]
  simp [hi, intV]

theorem In64.small {l : List Int} (h : ∀ x ∈ l, 0 ≤ x ∧ x ≤ 1000000) : In64 l := fun x hx => by have := h x hx; omega
/-- A slice that lies in one block. -/
theorem RepI.exact {w : World} {F : Nat → Prop} {l : List Int} {g off n c : Nat} (h : RepI w F l (.slice (some ⟨g, off, none⟩) n c)) {g' : Nat} (hg : g = g') : RepI w (fun b => b = g') l (.slice (some ⟨g, off, none⟩) n c) := by
  rcases h with h | ⟨b, o, c', hv, hb, h1, h2, h3⟩
  · exact .inl h
  · cases hv
    exact .inr ⟨_, _, _, rfl, hg, h1, h2, h3⟩
end Go.Proofs.Ytckankoaiapcoaa.M
