/- Rows of ints that a call makes: what turns them, in place or anew. -/
import Derived.Test.YtdngfbljcmbniaaTM9
import Derived.Sort.OwnSortedInts
import Derived.Laws.IdiomCopy
import Derived.Shelf.Slices.Delete
namespace Go.Proofs.Ytdngfbljcmbniaa.M
open Go.RowKit Go.Sort

def intV (z : Int) : Value := .int .i64 z

def In64 (l : List Int) : Prop := ∀ x ∈ l, -9223372036854775808 ≤ x ∧ x ≤ 9223372036854775807

theorem infoInt : (Try.prog.info? 3).map (fun i => (i.zero, i.size, i.bytes)) = some (some (.int .i64 0), 1, 8) := by kernel_rfl

/-- v is a row of ints of the call's own. -/
structure IR (base : Nat) (l : List Int) (v : Value) (w : World) : Prop where
  own : w.ownsRow base 3 1 v l.length (l.map intV)
  rng : In64 l

theorem IR.bare (base : Nat) (w : World) : IR base [] (.slice none 0 0) w := ⟨World.ownsRow_nil _ _ _ _, fun _ h => by simp at h⟩

theorem IR.slice {base : Nat} {l : List Int} {v : Value} {w : World} (h : IR base l v w) : ∃ a c, v = .slice a l.length c := owned_slice h.own

theorem IR.rep {base : Nat} {l : List Int} {v : Value} {w : World} (h : IR base l v w) : RepI w (fun b => base ≤ b ∧ b < w.heap.size) l v := by
  obtain ⟨ho, hr⟩ := h
  have h' := ho
  obtain ⟨_, ⟨hv, hn⟩ | ⟨g, cap, cur, rfl, hg, hcur, h1, h2, h3, h4⟩⟩ := ho
  · exact .inl ⟨List.length_eq_zero_iff.1 hn, by rw [hv]; exact Bare.nil⟩
  · refine .inr ⟨g, 0, cap, rfl, ⟨hg, lt_of_heap hcur⟩, h1, by unfold maxLen at h2; omega, fun i hi => ⟨?_, hr _ (List.getElem_mem hi)⟩⟩
    have := h'.cells (g := g) rfl i (intV l[i]) (by simp [hi])
    rw [intV] at this
    rw [Nat.zero_add, ← this]
    cases i <;> simp [Addr.add]

theorem RepI.rng {w : World} {F : Nat → Prop} {l : List Int} {v : Value} (h : RepI w F l v) : In64 l := by
  intro x hx
  obtain ⟨i, hi, rfl⟩ := List.mem_iff_getElem.1 hx
  rcases h with ⟨rfl, _⟩ | ⟨b, off, c, rfl, _, _, _, hc⟩
  · simp at hi
  · exact (hc i hi).2

/-- What a row is in: its block, when it has one. -/
theorem IR.split {base : Nat} {l : List Int} {v : Value} {w : World} (h : IR base l v w) :
    (l = [] ∧ v = .slice none 0 0) ∨ ∃ g cap cur, v = .slice (some ⟨g, 0, none⟩) l.length cap ∧ base ≤ g ∧ g < w.heap.size ∧ w.heap[g]? = some (.cells cur 3 (0, 0)) ∧ l.length ≤ cap ∧ cap ≤ 9223372036854775807 ∧ cur.size = cap ∧ cur.toList.take l.length = l.map intV := by
  obtain ⟨_, ⟨hv, hn⟩ | ⟨g, cap, cur, rfl, hg, hcur, h1, h2, h3, h4⟩⟩ := h.own
  · exact .inl ⟨List.length_eq_zero_iff.1 hn, hv⟩
  · exact .inr ⟨g, cap, cur, rfl, hg, lt_of_heap hcur, hcur, h1, by unfold maxLen at h2; omega, by omega, by simpa using h4⟩

/-- .. and how one is made of a block. -/
theorem IR.of_block {base : Nat} {l : List Int} {w : World} {g cap n : Nat} {cur : Array Value} (hn : n = l.length) (hg : base ≤ g) (hcur : w.heap[g]? = some (.cells cur 3 (0, 0))) (h1 : l.length ≤ cap) (h2 : cap ≤ 9223372036854775807) (h3 : cur.size = cap) (h4 : cur.toList.take l.length = l.map intV) (hr : In64 l) :
    IR base l (.slice (some ⟨g, 0, none⟩) n cap) w := by
  subst hn
  exact ⟨⟨by simp, .inr ⟨g, cap, cur, rfl, hg, hcur, h1, by unfold maxLen; omega, by omega, by simpa using h4⟩⟩, hr⟩

theorem IR.kept {base : Nat} {l : List Int} {v : Value} {w w' : World} {row : Option Nat} (h : IR base l v w) (hg : w.grownBy w' row) (hn : v.ownBlock = row → v.ownBlock = none) : IR base l v w' := by
  rcases h.split with ⟨rfl, rfl⟩ | ⟨g, cap, cur, rfl, hb, hlt, hcur, h1, h2, h3, h4⟩
  · exact IR.bare _ _
  · refine IR.of_block rfl hb ?_ h1 h2 h3 h4 h.rng
    rw [hg.block g hlt ?_]
    · exact hcur
    · intro e
      have := hn (by rw [← e]; rfl)
      cases this

theorem IR.next {base : Nat} {l : List Int} {v : Value} {w w' : World} (h : IR base l v w) (hb : Below w.heap.size w w') : IR base l v w' := h.kept (grown_of_below hb) (by intro h; exact h)

theorem IR.lower {base base' : Nat} {l : List Int} {v : Value} {w : World} (h : IR base l v w) (hb : base' ≤ base) : IR base' l v w := by
  rcases h.split with ⟨rfl, rfl⟩ | ⟨g, cap, cur, rfl, hg, hlt, hcur, h1, h2, h3, h4⟩
  · exact IR.bare _ _
  · exact IR.of_block rfl (Nat.le_trans hb hg) hcur h1 h2 h3 h4 h.rng

theorem IR.block_lt {base : Nat} {l : List Int} {v : Value} {w : World} (h : IR base l v w) {g : Nat} (hg : v.ownBlock = some g) : base ≤ g ∧ g < w.heap.size := by
  rcases h.split with ⟨rfl, rfl⟩ | ⟨g', cap, cur, rfl, hb, hlt, _⟩
  · cases hg
  · cases hg; exact ⟨hb, hlt⟩

theorem IR.sub {base : Nat} {l : List Int} {v : Value} {w : World} (h : IR base l v w) {l' : List Int} (hs : ∀ x ∈ l', x ∈ l) : In64 l' := fun x hx => h.rng x (hs x hx)

theorem In64.of_le {l l' : List Int} (h : In64 l) (hs : ∀ x ∈ l', x ∈ l) : In64 l' := fun x hx => h x (hs x hx)

-- Stores side by side, over a list.
theorem set_split {l : List Value} {o : Nat} {v : Value} (h : o < l.length) : l.set o v = l.take o ++ v :: l.drop (o + 1) := by
  rw [List.set_eq_take_append_cons_drop, if_pos h]

/-- What stores side by side make of a block. -/
theorem heap_setCells {g : Nat} {e : TypeId} {fr : Nat × Nat} : ∀ (vs : List Value) (o : Nat) (w : World) (cur : Array Value), w.heap[g]? = some (.cells cur e fr) → o + vs.length ≤ cur.size →
    ∃ cur', (w.setCells g o vs).heap[g]? = some (.cells cur' e fr) ∧ cur'.size = cur.size ∧ cur'.toList = cur.toList.take o ++ vs ++ cur.toList.drop (o + vs.length)
  | [], o, w, cur, h, _ => ⟨cur, h, rfl, by simp⟩
  | v :: r, o, w, cur, h, hb => by
    have hb' : o + (r.length + 1) ≤ cur.size := by simpa using hb
    have h1 : (w.setCell ⟨g, o, none⟩ v).heap[g]? = some (.cells (cur.setIfInBounds o v) e fr) := by
      rw [setCell_eq]
      simp [mapBlock, Array.getElem?_modify, h, onCells]
    obtain ⟨cur', h2, h3, h4⟩ := heap_setCells r (o + 1) _ _ h1 (by simp; omega)
    refine ⟨cur', h2, by rw [h3]; simp, ?_⟩
    rw [h4, Array.toList_setIfInBounds, set_split (by simpa using (by omega : o < cur.size))]
    have hl : (cur.toList.take o).length = o := by simp; omega
    have e1 : (cur.toList.take o ++ v :: cur.toList.drop (o + 1)).take (o + 1) = cur.toList.take o ++ [v] := by
      rw [List.take_append, hl, List.take_of_length_le (by omega), show o + 1 - o = 1 by omega]
      rfl
    have e2 : (cur.toList.take o ++ v :: cur.toList.drop (o + 1)).drop (o + 1 + r.length) = cur.toList.drop (o + (r.length + 1)) := by
      rw [List.drop_append, hl, List.drop_of_length_le (by omega), show o + 1 + r.length - o = r.length + 1 by omega]
      simp only [List.nil_append, List.drop_succ_cons, List.drop_drop]
      congr 1
      omega
    rw [e1, e2]
    simp [List.append_assoc]

theorem grown_setCells {g : Nat} : ∀ (vs : List Value) (o : Nat) (w : World), w.grownBy (w.setCells g o vs) (some g)
  | [], _, w => gb_refl w _
  | v :: r, o, w => by
    have h1 : w.grownBy (w.setCell ⟨g, o, none⟩ v) (some g) := gb_set o v (gb_refl w _)
    exact gb_trans h1 (grown_setCells r (o + 1) _)

theorem size_setCells {g : Nat} : ∀ (vs : List Value) (o : Nat) (w : World), (w.setCells g o vs).heap.size = w.heap.size
  | [], _, _ => rfl
  | v :: r, o, w => by
    show ((w.setCell ⟨g, o, none⟩ v).setCells g (o + 1) r).heap.size = _
    rw [size_setCells r (o + 1) _]
    simp

/-- A row laid over a block. -/
theorem heap_putRow {w : World} {g q : Nat} {cur : Array Value} {e : TypeId} {fr : Nat × Nat} (d : Array Int) (hb : w.heap[g]? = some (.cells cur e fr)) :
    (putRow (Value.int .i64) (Sort.ahead w q) g 0 d).heap[g]? = some (.cells (putCells (Value.int .i64) 0 d cur) e fr) := by
  simp [putRow, mapBlock, Sort.ahead, Array.getElem?_modify, hb, onCells]

theorem grown_putRow {w : World} {g q : Nat} (d : Array Int) : w.grownBy (putRow (Value.int .i64) (Sort.ahead w q) g 0 d) (some g) := by
  refine ⟨rfl, rfl, rfl, by simp [putRow, mapBlock, Sort.ahead], fun k hk hne => ?_⟩
  have : g ≠ k := fun e => hne (by rw [e])
  simp [putRow, mapBlock, Sort.ahead, Array.getElem?_modify, this]

theorem IR.holds {base : Nat} {l : List Int} {w : World} {g n cap : Nat} (h : IR base l (.slice (some ⟨g, 0, none⟩) n cap) w) : Holds (Value.int .i64) w g 0 l.toArray := by
  rcases h.split with ⟨rfl, hx⟩ | ⟨g', cap', cur, hv, hb, hlt, hcur, h1, h2, h3, h4⟩
  · cases hx
  · cases hv
    exact holds_of_blockI hcur h4
end Go.Proofs.Ytdngfbljcmbniaa.M
