/- How the program's disk lies in memory: a map of files by their names. The program's disk in memory: a file less, a file more. -/
import Derived.Test.YtamgjlegcegmeaaGreatDoorSD11
import Derived.Test.YtamgjlegcegmeaaGreatDoorSD12
import Derived.Maps.RangeWalk
import Derived.Maps.OwnOps
/- Part: DiskMap. -/
namespace Go.Proofs.YtamgjlegcegmeaaGreatDoor.M
open Go.RowKit Go.Maps
open D (Fl Dk)

/-- How a file's pointer reads: by its block's number. -/
def ptrElem (v : Value) : Option (DataW Nat × List MemPlace) :=
  match v with
  | .pointer none => some (.nil, [])
  | .pointer (some ⟨b, 0, none⟩) => some (.held b, [])
  | _ => none

theorem ptrElem_inv {v : Value} {y : DataW Nat × List MemPlace} (h : ptrElem v = some y) : (v = .pointer none ∧ y = (.nil, [])) ∨ ∃ b, v = .pointer (some ⟨b, 0, none⟩) ∧ y = (.held b, []) := by
  unfold ptrElem at h
  split at h
  · cases h; exact .inl ⟨rfl, rfl⟩
  · rename_i b
    cases h; exact .inr ⟨b, rfl, rfl⟩
  · cases h

theorem law9 : Keyed Tryz.prog 9 := string_keyed Tryz.underlying9

theorem zeroPtr (w : World) : (zeroValue 79).run Tryz.prog w = .ok (.pointer none) w := by kernel_rfl

theorem key_of {s : ByteArray} (h : s.size ≤ 9223372036854775807) : keyOf Tryz.prog 9 (.string s) = some (.string s.data.toList) := by
  simp only [keyOf, Tryz.underlying9, mapKey]
  rw [if_pos (by unfold maxLen; exact h)]

/-- How many calls more are done. -/
def restOf (d : Dk) : Int := if d.ends then (d.calls : Int) else -1

/-- A file in memory. -/
def FileAt (w : World) (b : Nat) (v : Value) (f : Fl) : Prop :=
  w.heap[b]? = some (.cells #[v, .int .i64 (f.safe : Int)] 107) ∧ w.ownsRow 0 5 1 v f.b.length (f.b.map byteV)

theorem FileAt.same {w w' : World} {b : Nat} {v : Value} {f : Fl} (h : FileAt w b v f) (hb : w'.heap[b]? = w.heap[b]?) (hv : ∀ k, v.ownBlock = some k → w'.heap[k]? = w.heap[k]?) : FileAt w' b v f :=
  ⟨hb.trans h.1, ownsRow_same h.2 hv⟩

/-- The program's disk in memory, part by part: its free bytes, its map's block, what the map reads as, where each file lies. -/
structure PDAt (w : World) (X : Nat → Prop) (gd : Nat) (d : Dk) (fr : Int) (gm : Nat) (M : DataW Nat) (E : ByteArray → Nat × Value) : Prop where
  box : w.heap[gd]? = some (.cells #[.int .i64 fr, .int .i64 (restOf d), .map (some gm)] 55)
  map : w.ownsMap Tryz.prog 9 ptrElem gm d.fs.length M
  keys : ∀ (s : ByteArray) (z : DataW Nat), M.atKey (.string s.data.toList) z = if D.isThere d.fs s then .held (E s).1 else z
  size : Maps.size M = d.fs.length
  each : ∀ f ∈ d.fs, FileAt w (E f.nm).1 (E f.nm).2 f
  apart : ∀ f ∈ d.fs, ∀ g ∈ d.fs, f.nm ≠ g.nm → (E f.nm).1 ≠ (E g.nm).1 ∧ ∀ k, (E f.nm).2.ownBlock = some k → (E g.nm).2.ownBlock ≠ some k
  foot : X gd ∧ X gm ∧ ∀ f ∈ d.fs, X (E f.nm).1 ∧ ∀ k, (E f.nm).2.ownBlock = some k → X k

/-- What the program's disk in memory is good for. -/
def PDsk (w : World) (X : Nat → Prop) (gd : Nat) (d : Dk) : Prop := ∃ gm M E, PDAt w X gd d d.free gm M E

def PDskIn (w : World) (X : Nat → Prop) (gd : Nat) (d : Dk) : Prop := PDsk w X gd d ∧ ∀ k, X k → k < w.heap.size

/-- Where a file lies, as a value. -/
def ptrOf (d : Dk) (E : ByteArray → Nat × Value) (s : ByteArray) : Value := if D.isThere d.fs s then .pointer (some ⟨(E s).1, 0, none⟩) else .pointer none

theorem ownsMap_same {w w' : World} {gm n : Nat} {M : DataW Nat} (h : w.ownsMap Tryz.prog 9 ptrElem gm n M) (hg : w'.heap[gm]? = w.heap[gm]?) : w'.ownsMap Tryz.prog 9 ptrElem gm n M := by
  obtain ⟨es, clock, hb, F, hs, hD⟩ := h
  exact ⟨es, clock, hg.trans hb, F, hs, hD⟩

theorem PDAt.same {w w' : World} {X Y : Nat → Prop} {gd gm : Nat} {d : Dk} {fr : Int} {M : DataW Nat} {E : ByteArray → Nat × Value} (h : PDAt w X gd d fr gm M E) (hX : ∀ k, X k → Y k) (hs : ∀ k, X k → w'.heap[k]? = w.heap[k]?) : PDAt w' Y gd d fr gm M E :=
  ⟨(hs gd h.foot.1).trans h.box, ownsMap_same h.map (hs gm h.foot.2.1), h.keys, h.size, fun f hf => (h.each f hf).same (hs _ (h.foot.2.2 f hf).1) fun k hk => hs k ((h.foot.2.2 f hf).2 k hk), h.apart,
    hX _ h.foot.1, hX _ h.foot.2.1, fun f hf => ⟨hX _ (h.foot.2.2 f hf).1, fun k hk => hX k ((h.foot.2.2 f hf).2 k hk)⟩⟩

theorem PDsk.same {w w' : World} {X Y : Nat → Prop} {gd : Nat} {d : Dk} (h : PDsk w X gd d) (hX : ∀ k, X k → Y k) (hs : ∀ k, X k → w'.heap[k]? = w.heap[k]?) : PDsk w' Y gd d := by
  obtain ⟨gm, M, E, h⟩ := h
  exact ⟨gm, M, E, h.same hX hs⟩

theorem PDsk.up {w w' : World} {X : Nat → Prop} {gd : Nat} {d : Dk} (h : PDsk w' X gd d) : PDsk w' (More X w w') gd d := h.same (fun _ hk => .inl hk) fun _ _ => rfl

section
variable {w : World} {X : Nat → Prop} {gd gm : Nat} {d : Dk} {fr : Int} {M : DataW Nat} {E : ByteArray → Nat × Value}

theorem PDAt.cells (h : PDAt w X gd d fr gm M E) :
    (w.cell? ⟨gd, 0, none⟩ = some (.int .i64 fr) ∧ w.cell? ⟨gd, 1, none⟩ = some (.int .i64 (restOf d)) ∧ w.cell? ⟨gd, 2, none⟩ = some (.map (some gm))) ∧
    (w.frozen? ⟨gd, 0, none⟩ = false ∧ w.frozen? ⟨gd, 1, none⟩ = false ∧ w.frozen? ⟨gd, 2, none⟩ = false) ∧ gd < w.heap.size :=
  ⟨⟨cell_of_row w gd 0 _ _ _ h.box, cell_of_row w gd 1 _ _ _ h.box, cell_of_row w gd 2 _ _ _ h.box⟩, ⟨frozen_of_row w gd 0 _ _ h.box, frozen_of_row w gd 1 _ _ h.box, frozen_of_row w gd 2 _ _ h.box⟩, lt_of_heap h.box⟩

/-- A look-up. -/
theorem PDAt.look (h : PDAt w X gd d fr gm M E) {s : ByteArray} (hs : s.size ≤ 9223372036854775807) {w' : World} (hw : w'.heap[gm]? = w.heap[gm]?) :
    (Instr.lookup 53 (.map (some gm)) (.string s) false).run Tryz.prog w' = .ok (ptrOf d E s) w' := by
  obtain ⟨v, ps, hrun, hv⟩ := (ownsMap_same h.map hw).lookup law9 Tryz.underlying53 (zeroPtr w') (zd := .nil) (zp := []) rfl (key_of hs)
  rw [hrun]
  rw [h.keys] at hv
  unfold ptrOf
  cases ht : D.isThere d.fs s with
  | true =>
    rw [ht] at hv
    simp only [if_true] at hv ⊢
    rcases ptrElem_inv hv with ⟨rfl, e⟩ | ⟨b, rfl, e⟩
    · cases e
    · cases e; rfl
  | false =>
    rw [ht] at hv
    simp only [Bool.false_eq_true, if_false] at hv ⊢
    rcases ptrElem_inv hv with ⟨rfl, e⟩ | ⟨b, rfl, e⟩
    · rfl
    · cases e

theorem PDAt.len (h : PDAt w X gd d fr gm M E) {w' : World} (hw : w'.heap[gm]? = w.heap[gm]?) (ty : TypeId) :
    (Builtin.len_ #[53] ty #[.map (some gm)]).run Tryz.prog w' = .ok (.int .i64 (d.fs.length : Int)) w' := by
  rw [← h.size]
  exact (ownsMap_same h.map hw).len Tryz.underlying53 ty

/-- No two kinds of blocks are one. -/
theorem PDAt.kinds (h : PDAt w X gd d fr gm M E) : gm ≠ gd ∧ (∀ f ∈ d.fs, (E f.nm).1 ≠ gd ∧ (E f.nm).1 ≠ gm) ∧ ∀ f ∈ d.fs, ∀ k, (E f.nm).2.ownBlock = some k → k ≠ gd ∧ k ≠ gm ∧ ∀ g ∈ d.fs, k ≠ (E g.nm).1 := by
  have hm : ∃ es c, w.heap[gm]? = some (.map es c) := by
    obtain ⟨es, clock, hb, _⟩ := h.map
    exact ⟨es, clock, hb⟩
  obtain ⟨es, c, hm⟩ := hm
  have hf : ∀ f ∈ d.fs, ∃ cs, w.heap[(E f.nm).1]? = some (.cells cs 107) := fun f hf => ⟨_, (h.each f hf).1⟩
  have hr : ∀ f ∈ d.fs, ∀ k, (E f.nm).2.ownBlock = some k → ∃ cs, w.heap[k]? = some (.cells cs 5 (0, 0)) := fun f hf k hk => by
    rcases (h.each f hf).2.2 with ⟨h1, _⟩ | ⟨g, cap, cur, hv, _, hcur, _⟩
    · rw [h1] at hk; cases hk
    · rw [hv] at hk; cases hk; exact ⟨_, hcur⟩
  have hb := h.box
  refine ⟨fun e => ?_, fun f hf1 => ?_, fun f hf1 k hk => ?_⟩
  · rw [e, hb] at hm; cases hm
  · obtain ⟨cs, h1⟩ := hf f hf1
    refine ⟨fun e => ?_, fun e => ?_⟩
    · rw [e, hb] at h1; simp at h1
    · rw [e, hm] at h1; cases h1
  · obtain ⟨cs, h1⟩ := hr f hf1 k hk
    refine ⟨fun e => ?_, fun e => ?_, fun g hg e => ?_⟩
    · rw [e, hb] at h1; simp at h1
    · rw [e, hm] at h1; cases h1
    · obtain ⟨cs2, h2⟩ := hf g hg
      rw [e, h2] at h1; simp at h1

/-- A file's cells. -/
theorem FileAt.cells {b : Nat} {v : Value} {f : Fl} (h : FileAt w b v f) :
    w.cell? ⟨b, 0, none⟩ = some v ∧ w.cell? ⟨b, 1, none⟩ = some (.int .i64 (f.safe : Int)) ∧ w.frozen? ⟨b, 0, none⟩ = false ∧ w.frozen? ⟨b, 1, none⟩ = false ∧ b < w.heap.size ∧ ∃ a c, v = .slice a f.b.length c ∧ f.b.length ≤ c ∧ c ≤ 9223372036854775807 := by
  refine ⟨cell_of_row w b 0 _ _ _ h.1, cell_of_row w b 1 _ _ _ h.1, frozen_of_row w b 0 _ _ h.1, frozen_of_row w b 1 _ _ h.1, lt_of_heap h.1, ?_⟩
  rcases h.2.2 with ⟨h1, h2⟩ | ⟨g, cap, cur, hv, hg, hcur, hn, hm, hs, ht⟩
  · exact ⟨none, 0, by rw [h1, h2], by omega, by omega⟩
  · exact ⟨_, cap, hv, hn, by unfold maxLen at hm; exact hm⟩

/-- Another rest. -/
theorem PDAt.ticked (h : PDAt w X gd d fr gm M E) {d' : Dk} {fr' : Int} {w' : World} (hfs : d'.fs = d.fs) (hb : w'.heap[gd]? = some (.cells #[.int .i64 fr', .int .i64 (restOf d'), .map (some gm)] 55)) (hs : ∀ k, k ≠ gd → w'.heap[k]? = w.heap[k]?) : PDAt w' X gd d' fr' gm M E := by
  obtain ⟨k1, k2, k3⟩ := h.kinds
  exact ⟨hb, by rw [hfs]; exact ownsMap_same h.map (hs gm k1), by rw [hfs]; exact h.keys, by rw [hfs]; exact h.size, by
    rw [hfs]; exact fun f hf => (h.each f hf).same (hs _ (k2 f hf).1) fun k hk => hs k (k3 f hf k hk).1, by rw [hfs]; exact h.apart, by rw [hfs]; exact h.foot⟩

/-- One file turned. -/
theorem PDAt.turned (h : PDAt w X gd d fr gm M E) (_hr : D.Rising d.fs) {s : ByteArray} (hs : D.isThere d.fs s = true) {d' : Dk} {v' : Value} {f' : Fl} {w' : World} {Y : Nat → Prop} (hX : ∀ k, X k → k < w.heap.size) (hXY : ∀ k, X k → Y k)
    (hrest : restOf d' = restOf d) (hn : d'.fs.map (·.nm) = d.fs.map (·.nm)) (hmem : ∀ f ∈ d'.fs, (f ∈ d.fs ∧ f.nm ≠ s) ∨ f = f') (hf' : f'.nm = s)
    (hat : FileAt w' (E s).1 v' f') (hno : ∀ k, v'.ownBlock = some k → (E s).2.ownBlock = some k ∨ (Y k ∧ w.heap.size ≤ k))
    (hw : ∀ k, k < w.heap.size → k ≠ (E s).1 → (E s).2.ownBlock ≠ some k → w'.heap[k]? = w.heap[k]?) :
    PDAt w' Y gd d' fr gm M (fun t => if t = s then ((E s).1, v') else E t) := by
  obtain ⟨k1, k2, k3⟩ := h.kinds
  obtain ⟨fs, hfs, hfn⟩ := D.isThere_mem.1 hs
  subst hfn
  have hlen : d'.fs.length = d.fs.length := by simpa using congrArg List.length hn
  have hth : ∀ t, D.isThere d'.fs t = D.isThere d.fs t := fun t => by
    have hm : ∀ (a b : List Fl), a.map (·.nm) = b.map (·.nm) → D.isThere a t = true → D.isThere b t = true := fun a b e hh => by
      obtain ⟨f, hf, hft⟩ := D.isThere_mem.1 hh
      have : t ∈ b.map (·.nm) := by rw [← e]; exact List.mem_map.2 ⟨f, hf, hft⟩
      obtain ⟨g, hg, hgt⟩ := List.mem_map.1 this
      exact D.isThere_mem.2 ⟨g, hg, hgt⟩
    rw [Bool.eq_iff_iff]
    exact ⟨hm _ _ hn, hm _ _ hn.symm⟩
  have hgdlt := hX gd h.foot.1
  have hgmlt := hX gm h.foot.2.1
  have hfilelt : ∀ f ∈ d.fs, (E f.nm).1 < w.heap.size ∧ ∀ k, (E f.nm).2.ownBlock = some k → k < w.heap.size := fun f hf => ⟨hX _ (h.foot.2.2 f hf).1, fun k hk => hX k ((h.foot.2.2 f hf).2 k hk)⟩
  have hother : ∀ f ∈ d.fs, f.nm ≠ fs.nm → FileAt w' (E f.nm).1 (E f.nm).2 f := fun f hf hne =>
    (h.each f hf).same (hw _ (hfilelt f hf).1 ((h.apart f hf fs hfs hne).1) fun hk => (k3 fs hfs _ hk).2.2 f hf rfl) fun k hk =>
      hw k ((hfilelt f hf).2 k hk) (fun e => (k3 f hf k hk).2.2 fs hfs e) ((h.apart f hf fs hfs hne).2 k hk)
  have hmem2 : ∀ f ∈ d'.fs, f.nm ≠ fs.nm → f ∈ d.fs := fun f hf hne => by
    rcases hmem f hf with ⟨h1, _⟩ | h1
    · exact h1
    · exact absurd (h1 ▸ hf') hne
  have hmem3 : ∀ f ∈ d'.fs, f.nm = fs.nm → f = f' := fun f hf he => by
    rcases hmem f hf with ⟨_, h1⟩ | h1
    · exact absurd he h1
    · exact h1
  refine ⟨?_, ?_, ?_, by rw [hlen]; exact h.size, ?_, ?_, ?_⟩
  · rw [hrest]
    exact (hw gd hgdlt (fun e => (k2 fs hfs).1 e.symm) fun hk => (k3 fs hfs gd hk).1 rfl).trans h.box
  · rw [hlen]
    exact ownsMap_same h.map (hw gm hgmlt (fun e => (k2 fs hfs).2 e.symm) fun hk => (k3 fs hfs gm hk).2.1 rfl)
  · intro t z
    rw [h.keys, hth]
    by_cases e : t = fs.nm
    · rw [if_pos e, e]
    · rw [if_neg e]
  · intro f hf
    by_cases e : f.nm = fs.nm
    · simp only [e, if_true]
      rw [hmem3 f hf e]
      exact hat
    · simp only [if_neg e]
      exact hother f (hmem2 f hf e) e
  · have hnew : ∀ f ∈ d'.fs, f.nm ≠ fs.nm → (E fs.nm).1 ≠ (E f.nm).1 ∧ ∀ k, v'.ownBlock = some k → (E f.nm).2.ownBlock ≠ some k := fun f hf hne => by
      have hf2 := hmem2 f hf hne
      refine ⟨(h.apart fs hfs f hf2 (fun e => hne e.symm)).1, fun k hk hk2 => ?_⟩
      rcases hno k hk with h1 | ⟨_, h1⟩
      · exact (h.apart fs hfs f hf2 (fun e => hne e.symm)).2 k h1 hk2
      · have := (hfilelt f hf2).2 k hk2
        omega
    intro f hf g hg hne
    by_cases e : f.nm = fs.nm
    · have e2 : g.nm ≠ fs.nm := fun e2 => hne (e.trans e2.symm)
      simp only [e, if_true, if_neg e2]
      exact hnew g hg e2
    · by_cases e2 : g.nm = fs.nm
      · simp only [e2, if_true, if_neg e]
        obtain ⟨a1, a2⟩ := hnew f hf e
        exact ⟨a1.symm, fun k hk hk2 => a2 k hk2 hk⟩
      · simp only [if_neg e, if_neg e2]
        exact h.apart f (hmem2 f hf e) g (hmem2 g hg e2) hne
  · refine ⟨hXY _ h.foot.1, hXY _ h.foot.2.1, fun f hf => ?_⟩
    by_cases e : f.nm = fs.nm
    · simp only [e, if_true]
      refine ⟨hXY _ (h.foot.2.2 fs hfs).1, fun k hk => ?_⟩
      rcases hno k hk with h1 | ⟨h1, _⟩
      · exact hXY k ((h.foot.2.2 fs hfs).2 k h1)
      · exact h1
    · simp only [if_neg e]
      exact ⟨hXY _ (h.foot.2.2 f (hmem2 f hf e)).1, fun k hk => hXY k ((h.foot.2.2 f (hmem2 f hf e)).2 k hk)⟩
end
end Go.Proofs.YtamgjlegcegmeaaGreatDoor.M

/- Part: DiskMap2. -/
namespace Go.Proofs.YtamgjlegcegmeaaGreatDoor.M
open Go.RowKit Go.Maps
open D (Fl Dk)

theorem ownsMap_exact {w : World} {gm n : Nat} {M : DataW Nat} (h : w.ownsMap Tryz.prog 9 ptrElem gm n M) : w.ownsMap Tryz.prog 9 ptrElem gm (Maps.size M) M := by
  obtain ⟨es, clock, hb, F, hs, hD⟩ := h
  exact ⟨es, clock, hb, F, by rw [hD]; simp [Maps.size, length_sorted], hD⟩

theorem key_ne {s t : ByteArray} (h : t ≠ s) : Lit.string t.data.toList ≠ Lit.string s.data.toList := fun e => h (D.nm_ext (by rw [D.toList_data, D.toList_data]; exact Lit.string.inj e))

section
variable {w : World} {X : Nat → Prop} {gd gm : Nat} {d : Dk} {fr : Int} {M : DataW Nat} {E : ByteArray → Nat × Value}

theorem PDAt.isMap (h : PDAt w X gd d fr gm M E) : Maps.Tidy M := h.map.tidy law9

theorem PDAt.has (h : PDAt w X gd d fr gm M E) (s : ByteArray) : Maps.has M (.string s.data.toList) = D.isThere d.fs s := by
  cases ht : D.isThere d.fs s with
  | true => exact has_true_of_atKey (y := .held (E s).1) fun z => by rw [h.keys, ht]; rfl
  | false => exact has_false_of_atKey fun z => by rw [h.keys, ht]; rfl

/-- A file less. -/
theorem PDAt.dropped (h : PDAt w X gd d fr gm M E) (hr : D.Rising d.fs) {s : ByteArray} (hs : D.isThere d.fs s = true) {d' : Dk} {fr' : Int} {n : Nat} {w' : World} (hfs : d'.fs = d.fs.eraseIdx (D.find d.fs s))
    (hm : w'.ownsMap Tryz.prog 9 ptrElem gm n (M.del (.string s.data.toList))) (hb : w'.heap[gd]? = some (.cells #[.int .i64 fr', .int .i64 (restOf d'), .map (some gm)] 55))
    (hw : ∀ k, k ≠ gd → k ≠ gm → w'.heap[k]? = w.heap[k]?) : PDAt w' X gd d' fr' gm (M.del (.string s.data.toList)) E := by
  obtain ⟨k1, k2, k3⟩ := h.kinds
  have hmem : ∀ f, f ∈ d'.fs ↔ f ∈ d.fs ∧ f.nm ≠ s := fun f => by rw [hfs]; exact D.mem_erase hr
  have hsz : Maps.size (M.del (.string s.data.toList)) = d'.fs.length := by
    have h1 := size_del (k := .string s.data.toList) h.isMap
    rw [h.has, hs, h.size] at h1
    have h2 := D.find_lt hs
    rw [hfs, List.length_eraseIdx, if_pos h2]
    simp at h1
    omega
  refine ⟨hb, by rw [← hsz]; exact ownsMap_exact hm, fun t z => ?_, hsz, fun f hf => ?_, fun f hf g hg => h.apart f ((hmem f).1 hf).1 g ((hmem g).1 hg).1, h.foot.1, h.foot.2.1, fun f hf => h.foot.2.2 f ((hmem f).1 hf).1⟩
  · by_cases e : t = s
    · subst e
      rw [atKey_del_same]
      rw [D.isThere_not.2 fun f hf => ((hmem f).1 hf).2]
      rfl
    · rw [atKey_del_other (key_ne e), h.keys]
      have : D.isThere d'.fs t = D.isThere d.fs t := by
        rw [Bool.eq_iff_iff, D.isThere_mem, D.isThere_mem]
        constructor
        · rintro ⟨f, hf, hft⟩; exact ⟨f, ((hmem f).1 hf).1, hft⟩
        · rintro ⟨f, hf, hft⟩; exact ⟨f, (hmem f).2 ⟨hf, by rw [hft]; exact e⟩, hft⟩
      rw [this]
  · have hf2 := ((hmem f).1 hf).1
    exact (h.each f hf2).same (hw _ (k2 f hf2).1 (k2 f hf2).2) fun k hk => hw k (k3 f hf2 k hk).1 (k3 f hf2 k hk).2.1

/-- A file more. -/
theorem PDAt.added (h : PDAt w X gd d fr gm M E) {x : Fl} (hs : D.isThere d.fs x.nm = false) {d' : Dk} {fr' : Int} {n b : Nat} {v : Value} {w' : World} {Y : Nat → Prop} (hfs : d'.fs = D.add d.fs x) (hXY : ∀ k, X k → Y k)
    (hm : w'.ownsMap Tryz.prog 9 ptrElem gm n (M.put (.string x.nm.data.toList) (.held b))) (hb : w'.heap[gd]? = some (.cells #[.int .i64 fr', .int .i64 (restOf d'), .map (some gm)] 55))
    (hat : FileAt w' b v x) (hY : Y b ∧ ∀ k, v.ownBlock = some k → Y k) (hnew : ∀ f ∈ d.fs, b ≠ (E f.nm).1 ∧ ∀ k, v.ownBlock = some k → (E f.nm).2.ownBlock ≠ some k)
    (hw : ∀ k, X k → k ≠ gd → k ≠ gm → w'.heap[k]? = w.heap[k]?) : PDAt w' Y gd d' fr' gm (M.put (.string x.nm.data.toList) (.held b)) (fun t => if t = x.nm then (b, v) else E t) := by
  obtain ⟨k1, k2, k3⟩ := h.kinds
  have hmem : ∀ f, f ∈ d'.fs ↔ f = x ∨ f ∈ d.fs := fun f => by rw [hfs]; exact D.mem_add
  have hne : ∀ f ∈ d.fs, f.nm ≠ x.nm := D.isThere_not.1 hs
  have hsz : Maps.size (M.put (.string x.nm.data.toList) (.held b)) = d'.fs.length := by
    rw [size_put h.isMap, h.has, hs, h.size, hfs, D.length_add]; rfl
  have hE : ∀ f ∈ d.fs, (if f.nm = x.nm then (b, v) else E f.nm) = E f.nm := fun f hf => if_neg (hne f hf)
  have hold : ∀ f ∈ d.fs, FileAt w' (E f.nm).1 (E f.nm).2 f := fun f hf => (h.each f hf).same (hw _ (h.foot.2.2 f hf).1 (k2 f hf).1 (k2 f hf).2) fun k hk => hw k ((h.foot.2.2 f hf).2 k hk) (k3 f hf k hk).1 (k3 f hf k hk).2.1
  refine ⟨hb, by rw [← hsz]; exact ownsMap_exact hm, fun t z => ?_, hsz, fun f hf => ?_, fun f hf g hg hfg => ?_, hXY _ h.foot.1, hXY _ h.foot.2.1, fun f hf => ?_⟩
  · by_cases e : t = x.nm
    · subst e
      rw [atKey_put_same h.isMap.isMap (show WideAt.IsKeyLit (.string x.nm.data.toList) from trivial), D.isThere_mem.2 ⟨x, (hmem x).2 (.inl rfl), rfl⟩]
      simp
    · rw [atKey_put_other (key_ne e), h.keys]
      have : D.isThere d'.fs t = D.isThere d.fs t := by
        rw [Bool.eq_iff_iff, D.isThere_mem, D.isThere_mem]
        constructor
        · rintro ⟨f, hf, hft⟩
          rcases (hmem f).1 hf with rfl | h1
          · exact absurd hft.symm e
          · exact ⟨f, h1, hft⟩
        · rintro ⟨f, hf, hft⟩; exact ⟨f, (hmem f).2 (.inr hf), hft⟩
      rw [this, if_neg e]
  · rcases (hmem f).1 hf with rfl | h1
    · simp only [if_true]; exact hat
    · simp only [hE f h1]; exact hold f h1
  · rcases (hmem f).1 hf with rfl | h1
    · rcases (hmem g).1 hg with rfl | h2
      · exact absurd rfl hfg
      · simp only [if_true, hE g h2]
        exact hnew g h2
    · rcases (hmem g).1 hg with rfl | h2
      · simp only [if_true, hE f h1]
        obtain ⟨a1, a2⟩ := hnew f h1
        exact ⟨a1.symm, fun k hk hk2 => a2 k hk2 hk⟩
      · simp only [hE f h1, hE g h2]
        exact h.apart f h1 g h2 hfg
  · rcases (hmem f).1 hf with rfl | h1
    · simp only [if_true]; exact hY
    · simp only [hE f h1]
      exact ⟨hXY _ (h.foot.2.2 f h1).1, fun k hk => hXY k ((h.foot.2.2 f h1).2 k hk)⟩
end

/-- What a call of the program's disk leaves. -/
def PPost (w : World) (X : Nat → Prop) (gd : Nat) (r : Int × Dk) (e : Ending) (w' : World) : Prop :=
  e = .returned (.int .i64 r.1) ∧ Only X w w' ∧ PDsk w' (More X w w') gd r.2

/-- What a disk is good for, ahead of a call. -/
def Good (d : Dk) : Prop := Fine d ∧ D.Rising d.fs ∧ ∀ f ∈ d.fs, f.safe ≤ f.b.length
end Go.Proofs.YtamgjlegcegmeaaGreatDoor.M
