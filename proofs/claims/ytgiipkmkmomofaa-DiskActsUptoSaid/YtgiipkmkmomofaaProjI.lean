/- The program's disk: what Append leaves. -/
import Derived.Test.YtgiipkmkmomofaaProjE
import Derived.Test.YtgiipkmkmomofaaProjG
namespace Go.Proofs.Ytgiipkmkmomofaa.M
open Go.RowKit Go.Maps
open D (Fl Dk)

theorem Only.drewN (X : Nat → Prop) (w : World) (n : Nat) : Only X w (w.drewN n) := ⟨rfl, rfl, rfl, Nat.le_refl _, fun _ _ _ => rfl⟩

theorem used_layAt (fs : List Fl) (i : Nat) (l : List UInt8) (hi : i < fs.length) : D.used (D.layAt fs i l) = D.used fs + l.length := by
  have h := D.used_modify fs i (fun f => { f with b := f.b ++ l }) hi
  unfold D.layAt
  simp only [List.length_append] at h
  omega

theorem Only.then {X : Nat → Prop} {w w1 w2 : World} (h : Only X w w1) (g : Only X w1 w2) : Only X w w2 := h.trans (g.mono fun _ hk => .inl hk)

/-- Bytes laid behind a file's, and the disk's free bytes less. -/
theorem lay_done {W W2 W3 : World} {Y : Nat → Prop} {gd gm : Nat} {d : Dk} {fr left : Int} {M : DataW Nat} {E : ByteArray → Nat × Value} {f : Fl} {bs : List (List UInt8)} (h : PDAt W Y gd d fr gm M E) (hY : ∀ k, Y k → k < W.heap.size) (hr : D.Rising d.fs) (hf : f ∈ d.fs)
    (hp : PutAt W (E f.nm).1 (E f.nm).2 f bs bs.length W2) (hw3 : W3 = W2.setCell ⟨gd, 0, none⟩ (.int .i64 left)) :
    (W2.frozen? ⟨gd, 0, none⟩ = false ∧ gd < W2.heap.size ∧ W2.cell? ⟨gd, 0, none⟩ = some (.int .i64 fr)) ∧ Only Y W W3 ∧ ∃ E', PDAt W3 (More Y W W3) gd { d with fs := D.layAt d.fs (D.find d.fs f.nm) bs.flatten } left gm M E' := by
  obtain ⟨-, ho, v, hfa, hno⟩ := hp
  rw [List.take_length] at hfa
  obtain ⟨k1, k2, k3⟩ := h.kinds
  have ht : D.isThere d.fs f.nm = true := D.isThere_mem.2 ⟨f, hf, rfl⟩
  have hgz := hY gd h.foot.1
  have hold : ∀ k, k < W.heap.size → k ≠ (E f.nm).1 → (E f.nm).2.ownBlock ≠ some k → W2.heap[k]? = W.heap[k]? := fun k hk h1 h2 => ho.block k hk fun h3 => by
    rcases h3 with h3 | h3
    · exact h1 h3
    · exact h2 h3
  have hb2 : W2.heap[gd]? = some (.cells #[.int .i64 fr, .int .i64 (restOf d), .map (some gm)] 60) := (hold gd hgz (fun e => (k2 f hf).1 e.symm) fun e => (k3 f hf gd e).1 rfl).trans h.box
  have hY2 : ∀ k, More Y W W2 k → k < W2.heap.size := fun k hk => by
    rcases hk with hk | hk
    · exact Nat.lt_of_lt_of_le (hY k hk) ho.size
    · exact hk.2
  have hnm : (D.layAt d.fs (D.find d.fs f.nm) bs.flatten).map (·.nm) = d.fs.map (·.nm) := D.names_modify _ _ _ fun _ => rfl
  have hturn := h.turned hr ht (d' := { d with fs := D.layAt d.fs (D.find d.fs f.nm) bs.flatten }) (v' := v) (f' := { f with b := f.b ++ bs.flatten }) (w' := W2) (Y := More Y W W2) hY (fun k hk => .inl hk) rfl hnm
    (fun g hg => by
      rcases D.mem_modify hr hg with h1 | ⟨f0, h1, h2, h3⟩
      · exact .inl h1
      · have := hr.uniq h1 hf h2
        subst this
        exact .inr h3)
    rfl hfa (fun k hk => by
      rcases hno with h1 | ⟨g, h1, h2⟩
      · exact .inl (by rw [← h1]; exact hk)
      · rw [h1] at hk; cases hk
        have : k < W2.heap.size := (hfa.2.lt k h1).2
        exact .inr ⟨.inr ⟨h2, this⟩, h2⟩) hold
  have hb3 := heap_setCell_same _ _ 0 _ _ (.int .i64 left) hb2
  subst hw3
  refine ⟨⟨frozen_of_row W2 gd 0 _ _ hb2, lt_of_heap hb2, cell_of_row W2 gd 0 _ _ _ hb2⟩, ?_, (fun t => if t = f.nm then ((E f.nm).1, v) else E t), ?_⟩
  · refine (show Only Y W W2 from ⟨ho.os, ho.tape, ho.output, ho.size, fun k hk hn => ho.block k hk fun h3 => ?_⟩).set (.inl h.foot.1) _
    rcases h3 with h3 | h3
    · exact hn (h3 ▸ (h.foot.2.2 f hf).1)
    · exact hn ((h.foot.2.2 f hf).2 k h3)
  · exact (hturn.ticked (d' := { d with fs := D.layAt d.fs (D.find d.fs f.nm) bs.flatten }) (fr' := left) rfl (by rw [hb3]; simp [restOf]) (fun k hk => Below.heap_setCell _ _ _ _ (by simpa using hk))).same (fun k hk => by
      rcases hk with hk | hk
      · exact .inl hk
      · exact .inr ⟨hk.1, by simpa using hk.2⟩) fun _ _ => rfl

/-- What the closure of Append does. -/
def appendB (e : Dk) (s : ByteArray) (bs : List (List UInt8)) : Int × Dk :=
  if D.okName s = false then (30, e)
  else if (bs.flatten.length : Int) > e.free ∨ (D.isThere e.fs s = false ∧ 4096 ≤ e.fs.length) then (31, e)
  else (0, { e with fs := D.layAt (if D.isThere e.fs s then e.fs else D.add e.fs ⟨s, [], 0⟩) (D.find (if D.isThere e.fs s then e.fs else D.add e.fs ⟨s, [], 0⟩) s) bs.flatten })

theorem append_eq (d : Dk) (s : ByteArray) (bs : List (List UInt8)) : D.append d s bs = if d.stopped then (32, d) else appendB d.tick s bs := rfl

/-- A new file in the map. -/
theorem new_done {W W1 W2 : World} {X : Nat → Prop} {gd gm n : Nat} {d : Dk} {fr : Int} {M : DataW Nat} {E : ByteArray → Nat × Value} {s : ByteArray} (h : PDAt W X gd d fr gm M E) (hX : ∀ k, X k → k < W.heap.size) (hs : D.isThere d.fs s = false)
    (h1 : W1 = W.alloc (.cells #[.slice none 0 0, .int .i64 0] 73)) (hm : W2.ownsMap Try.prog 9 ptrElem gm n (M.put (.string s.data.toList) (.held W.heap.size))) (hg : W1.grownBy W2 (some gm)) (hz : W2.heap.size = W.heap.size + 1) :
    Only X W W2 ∧ PDAt W2 (fun k => X k ∨ k = W.heap.size) gd { d with fs := D.add d.fs ⟨s, [], 0⟩ } fr gm (M.put (.string s.data.toList) (.held W.heap.size)) (fun t => if t = s then (W.heap.size, .slice none 0 0) else E t) ∧ (∀ k, X k ∨ k = W.heap.size → k < W2.heap.size) := by
  subst h1
  obtain ⟨k1, k2, k3⟩ := h.kinds
  have hold : ∀ k, k < W.heap.size → k ≠ gm → W2.heap[k]? = W.heap[k]? := fun k hk hne => (hg.block k (by simp; omega) (by simpa using hne)).trans (Below.heap_alloc _ _ _ hk)
  have hgmlt := hX gm h.foot.2.1
  have hnew : W2.heap[W.heap.size]? = some (.cells #[.slice none 0 0, .int .i64 0] 73) := (hg.block W.heap.size (by simp) (by simp; omega)).trans (heap_alloc_new _ _)
  refine ⟨⟨hg.os, hg.tape, hg.output, by omega, fun k hk hne => hold k hk fun e => hne (e ▸ h.foot.2.1)⟩, ?_, fun k hk => by
    rcases hk with hk | hk
    · have := hX k hk; omega
    · omega⟩
  have hfl : ∀ f ∈ d.fs, (E f.nm).1 < W.heap.size := fun f hf => hX _ (h.foot.2.2 f hf).1
  exact h.added (x := ⟨s, [], 0⟩) (Y := fun k => X k ∨ k = W.heap.size) hs rfl (fun _ hk => .inl hk) hm ((hold gd (hX gd h.foot.1) k1.symm).trans h.box) ⟨hnew, World.ownsRow_nil _ _ _ _⟩ ⟨.inr rfl, fun k hk => by cases hk⟩
    (fun f hf => ⟨by have := hfl f hf; omega, fun k hk => by cases hk⟩) fun k hk h1 h2 => hold k (hX k hk) h2
end Go.Proofs.Ytgiipkmkmomofaa.M
