/- The document's disk: one file turned; Sync. -/
import Derived.Test.YtgiipkmkmomofaaDiskRef6
import Derived.Test.YtgiipkmkmomofaaDiskIn
namespace Go.Proofs.Ytgiipkmkmomofaa.M
open Go.RowKit
open D (Fl Dk)

theorem flCells_set : ∀ (fv : List (Fl × Value)) (i j : Nat) (h : i < fv.length) (p : Fl × Value) (x : Value), j < 3 → flV p = (flV fv[i]).set j x → (flCells fv).set (i * 3 + j) x = flCells (fv.set i p)
  | q :: r, 0, j, _, p, x, hj, hs => by
    simp only [flCells, List.flatMap_cons, List.set_cons_zero, List.getElem_cons_zero] at hs ⊢
    rw [hs, List.set_append_left _ _ (by simp [flV]; omega)]
    simp
  | q :: r, i + 1, j, h, p, x, hj, hs => by
    have ih := flCells_set r i j (by simpa using h) p x hj (by simpa using hs)
    simp only [flCells, List.flatMap_cons, List.set_cons_succ] at ih ⊢
    rw [List.set_append_right _ _ (by simp [flV]; omega), ← ih]
    congr 2
    simp [flV]; omega

/-- A disk, one file of which has turned: its bytes' block may have turned ahead of it. -/
theorem DkAt.put {w w1 : World} {X Y : Nat → Prop} {gd ga c i j : Nat} {d : Dk} {fv : List (Fl × Value)} {p : Fl × Value} {x : Value} (hat : DkAt w X gd d (.slice (some ⟨ga, 0, none⟩) fv.length c) fv) (hi : i < fv.length) (hXY : ∀ k, X k → Y k)
    (hX : ∀ k, X k → k < w.heap.size) (hw1 : ∀ k, k < w.heap.size → fv[i].2.ownBlock ≠ some k → w1.heap[k]? = w.heap[k]?) (hj : j < 3) (hs : flV p = (flV fv[i]).set j x)
    (hrow : w1.ownsRow 0 5 1 p.2 p.1.b.length (p.1.b.map byteV)) (hob : ∀ k, p.2.ownBlock = some k → fv[i].2.ownBlock = some k ∨ (Y k ∧ w.heap.size ≤ k)) :
    DkAt (w1.setCell ⟨ga, i * 3 + j, none⟩ x) Y gd { d with fs := d.fs.set i p.1 } (.slice (some ⟨ga, 0, none⟩) fv.length c) (fv.set i p) := by
  have hap := hat.apart
  rw [blocksOf, List.cons_append, List.nodup_cons] at hap
  obtain ⟨hgd, hap⟩ := hap
  obtain ⟨hv1, hf1, hvf⟩ := List.nodup_append.1 hap
  have hgam : ga ∈ (Value.slice (some ⟨ga, 0, none⟩) fv.length c).ownBlock.toList := by simp [Value.ownBlock]
  have hgagd : ga ≠ gd := fun e => hgd (List.mem_append.2 (.inl (e ▸ hgam)))
  have hgX : ga < w.heap.size := hX ga (hat.foot ga (mem_blocks_vl rfl))
  have hgdX : gd < w.heap.size := hX gd hat.own
  have hin : ∀ (q : Fl × Value), q ∈ fv → ∀ k, q.2.ownBlock = some k → k ∈ fv.flatMap fun p : Fl × Value => p.2.ownBlock.toList := fun q hq k hk => List.mem_flatMap.2 ⟨q, hq, by simp [hk]⟩
  have hfb : ∀ (q : Fl × Value), q ∈ fv → ∀ k, q.2.ownBlock = some k → k < w.heap.size ∧ k ≠ ga ∧ k ≠ gd := fun q hq k hk =>
    ⟨hX k (hat.foot k (mem_blocks_file hq hk)), fun e => hvf ga hgam k (hin q hq k hk) e.symm, fun e => hgd (List.mem_append.2 (.inr (e ▸ hin q hq k hk)))⟩
  have hia : fv[i].2.ownBlock ≠ some ga := fun h => (hfb _ (List.getElem_mem hi) ga h).2.1 rfl
  have hig : fv[i].2.ownBlock ≠ some gd := fun h => (hfb _ (List.getElem_mem hi) gd h).2.2 rfl
  -- the list of blocks behind the turn
  have hsplit : fv = fv.take i ++ fv[i] :: fv.drop (i + 1) := parts_of_list fv i hi
  have hset : fv.set i p = fv.take i ++ p :: fv.drop (i + 1) := List.set_eq_take_append_cons_drop.trans (by rw [if_pos hi])
  have hnd : ((fv.set i p).flatMap fun p : Fl × Value => p.2.ownBlock.toList).Nodup := by
    rw [hsplit, List.flatMap_append, List.flatMap_cons] at hf1
    rw [hset, List.flatMap_append, List.flatMap_cons]
    obtain ⟨a1, a2, a3⟩ := List.nodup_append.1 hf1
    obtain ⟨b1, b2, b3⟩ := List.nodup_append.1 a2
    have hold : ∀ q : Fl × Value, q ∈ fv → ∀ k, k ∈ q.2.ownBlock.toList → k < w.heap.size := fun q hq k hk => (hfb q hq k (by simpa using hk)).1
    refine List.nodup_append.2 ⟨a1, List.nodup_append.2 ⟨by cases p.2.ownBlock <;> simp, b2, fun y hy z hz e => ?_⟩, fun y hy z hz e => ?_⟩
    · subst e
      rcases hob y (by simpa using hy) with h | ⟨-, h⟩
      · exact b3 y (by simp [h]) y hz rfl
      · obtain ⟨q, hq, hk⟩ := List.mem_flatMap.1 hz
        have := hold q (List.mem_of_mem_drop hq) y hk
        omega
    · subst e
      rcases List.mem_append.1 hz with hz | hz
      · rcases hob y (by simpa using hz) with h | ⟨-, h⟩
        · exact a3 y hy y (List.mem_append.2 (.inl (by simp [h]))) rfl
        · obtain ⟨q, hq, hk⟩ := List.mem_flatMap.1 hy
          have := hold q (List.mem_of_mem_take hq) y hk
          omega
      · exact a3 y hy y (List.mem_append.2 (.inr hz)) rfl
  have hmem : ∀ q ∈ fv.set i p, (q ∈ fv ∧ ∀ k, q.2.ownBlock = some k → fv[i].2.ownBlock ≠ some k) ∨ q = p := fun q hq => by
    rw [hset] at hq
    have hf2 := hf1
    rw [hsplit, List.flatMap_append, List.flatMap_cons] at hf2
    obtain ⟨a1, a2, a3⟩ := List.nodup_append.1 hf2
    obtain ⟨b1, b2, b3⟩ := List.nodup_append.1 a2
    rcases List.mem_append.1 hq with h | h
    · exact .inl ⟨List.mem_of_mem_take h, fun k hk h2 => a3 k (List.mem_flatMap.2 ⟨q, h, by simp [hk]⟩) k (List.mem_append.2 (.inl (by simp [h2]))) rfl⟩
    · rcases List.mem_cons.1 h with h | h
      · exact .inr h
      · exact .inl ⟨List.mem_of_mem_drop h, fun k hk h2 => b3 k (by simp [h2]) k (List.mem_flatMap.2 ⟨q, h, by simp [hk]⟩) rfl⟩
  have hfoot : ∀ k, (∃ q ∈ fv.set i p, q.2.ownBlock = some k) → Y k ∧ k ≠ ga ∧ k ≠ gd := fun k ⟨q, hq, hk⟩ => by
    rcases hmem q hq with ⟨h, -⟩ | rfl
    · exact ⟨hXY k (hat.foot k (mem_blocks_file h hk)), (hfb q h k hk).2⟩
    · rcases hob k hk with h | ⟨h1, h2⟩
      · exact ⟨hXY k (hat.foot k (mem_blocks_file (List.getElem_mem hi) h)), (hfb _ (List.getElem_mem hi) k h).2⟩
      · exact ⟨h1, by omega, by omega⟩
  have hrow1 : w1.ownsRow 0 68 3 (.slice (some ⟨ga, 0, none⟩) fv.length c) fv.length (flCells fv) := ownsRow_same hat.row fun k hk => by
    have e : ga = k := by simpa [Value.ownBlock] using hk
    subst e
    exact hw1 ga hgX hia
  obtain ⟨cc, hb, hcc⟩ := hat.box
  refine ⟨⟨cc, ?_, hcc⟩, ?_, ?_, fun q hq => ?_, ?_, fun k hk => ?_⟩
  · rw [Below.heap_setCell _ _ _ _ (by simpa using hgagd.symm), hw1 gd hgdX hig]
    exact hb
  · show (fv.set i p).map (·.1) = d.fs.set i p.1
    rw [List.map_set, hat.fs]
  · have := (hrow1.stored (i * 3 + j) x).1
    rw [flCells_set fv i j hi p x hj hs] at this
    rw [List.length_set]
    exact this
  · refine ownsRow_same (w := w1) ?_ fun k hk => ?_
    · rcases hmem q hq with ⟨h, hne⟩ | rfl
      · exact ownsRow_same (hat.each q h) fun k hk => hw1 k (hfb q h k hk).1 (hne k hk)
      · exact hrow
    · have := (hfoot k ⟨q, hq, hk⟩).2.1
      rw [Below.heap_setCell _ _ _ _ (by simpa using this)]
  · rw [blocksOf, List.cons_append, List.nodup_cons]
    refine ⟨fun hm => ?_, List.nodup_append.2 ⟨hv1, hnd, fun y hy z hz e => ?_⟩⟩
    · rcases List.mem_append.1 hm with hm | hm
      · exact hgd (List.mem_append.2 (.inl hm))
      · obtain ⟨q, hq, hk⟩ := List.mem_flatMap.1 hm
        exact (hfoot gd ⟨q, hq, by simpa using hk⟩).2.2 rfl
    · have e2 : ga = y := (show y = ga by simpa [Value.ownBlock] using hy).symm
      subst e2
      obtain ⟨q, hq, hk⟩ := List.mem_flatMap.1 hz
      exact (hfoot z ⟨q, hq, by simpa using hk⟩).2.1 e.symm
  · rw [blocksOf, List.cons_append, List.mem_cons, List.mem_append, List.mem_flatMap] at hk
    rcases hk with rfl | hk | ⟨q, hq, hk⟩
    · exact hXY _ hat.own
    · exact hXY k (hat.foot k (by rw [blocksOf, List.cons_append, List.mem_cons, List.mem_append]; exact .inr (.inl hk)))
    · exact (hfoot k ⟨q, hq, by simpa using hk⟩).1

theorem modify_set {α : Type} (l : List α) (f : α → α) (i : Nat) (h : i < l.length) : l.modify i f = l.set i (f l[i]) := by
  apply List.ext_getElem?
  intro j
  rw [List.getElem?_modify, List.getElem?_set]
  by_cases e : i = j
  · subst e
    simp [h]
  · simp [e]

theorem find_names {fs gs : List Fl} (h : fs.map (·.nm) = gs.map (·.nm)) (s : ByteArray) : D.find fs s = D.find gs s := by
  have e : ∀ l : List Fl, D.find l s = (l.map (·.nm)).findIdx fun n => n.toList == s.toList := fun l => by
    unfold D.find
    induction l with
    | nil => rfl
    | cons a l ih => simp [List.findIdx_cons, ih]
  rw [e, e, h]

theorem syncAt_names (fs : List Fl) (i : Nat) : (D.syncAt fs i).map (·.nm) = fs.map (·.nm) := by
  unfold D.syncAt
  apply List.ext_getElem?
  intro j
  simp only [List.getElem?_map, List.getElem?_modify]
  by_cases e : i = j
  · subst e
    cases fs[i]? <;> simp
  · simp [e]

theorem syncs_names : ∀ (names : List ByteArray) (fs : List Fl), (names.foldl (fun fs s => D.syncAt fs (D.find fs s)) fs).map (·.nm) = fs.map (·.nm)
  | [], _ => rfl
  | _ :: r, fs => (syncs_names r _).trans (syncAt_names fs _)

theorem sync_32 {d : Dk} {names : List ByteArray} (h : d.stopped = true) : D.sync d names = (32, d) := by unfold D.sync; rw [if_pos h]

theorem sync_30 {d : Dk} {names : List ByteArray} (h : d.stopped = false) (hn : names.all (D.isThere d.fs) = false) : D.sync d names = (30, d.tick) := by
  unfold D.sync
  rw [if_neg (by rw [h]; simp)]
  simp only [tick_fs]
  rw [if_pos hn]

theorem sync_0 {d : Dk} {names : List ByteArray} (h : d.stopped = false) (hn : names.all (D.isThere d.fs) = true) : D.sync d names = (0, { d.tick with fs := names.foldl (fun fs s => D.syncAt fs (D.find fs s)) d.fs }) := by
  unfold D.sync
  rw [if_neg (by rw [h]; simp)]
  simp only [tick_fs]
  rw [if_neg (by rw [hn]; simp)]
end Go.Proofs.Ytgiipkmkmomofaa.M
