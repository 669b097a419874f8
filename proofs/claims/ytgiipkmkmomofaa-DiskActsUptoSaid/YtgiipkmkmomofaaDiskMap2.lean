/- The program's disk in memory: a file less, a file more. -/
import Derived.Test.YtgiipkmkmomofaaDiskMap
namespace Go.Proofs.Ytgiipkmkmomofaa.M
open Go.RowKit Go.Maps
open D (Fl Dk)

theorem ownsMap_exact {w : World} {gm n : Nat} {M : DataW Nat} (h : w.ownsMap Try.prog 9 ptrElem gm n M) : w.ownsMap Try.prog 9 ptrElem gm (Maps.size M) M := by
  obtain ⟨es, clock, hb, F, hs, hD⟩ := h
  exact ⟨es, clock, hb, F, by rw [hD]; simp [Maps.size, length_sorted], hD⟩

theorem key_ne {s t : ByteArray} (h : t ≠ s) : Lit.string t.data.toList ≠ Lit.string s.data.toList := fun e => h (D.nm_ext (by rw [D.toList_data, D.toList_data]; exact Lit.string.inj e))

section
variable {w : World} {X : Nat → Prop} {gd gm : Nat} {d : Dk} {fr : Int} {M : DataW Nat} {E : ByteArray → Nat × Value}

theorem PDAt.isMap (h : PDAt w X gd d fr gm M E) : Maps.Tidy M := h.map.tidy law9

theorem PDAt.has (h : PDAt w X gd d fr gm M E) (s : ByteArray) : Maps.has M (.string s.data.toList) = D.isThere d.fs s := by
  cases ht : D.isThere d.fs s with
  | true => exact has_true_of_atKey (y := .held (E s).1) fun z => by rw [h.keys, ht]; rfl
  | false => exact has_false_of_atKey fun z => by rw [h.keys, ht]; rfl

/-- A file less. -/
theorem PDAt.dropped (h : PDAt w X gd d fr gm M E) (hr : D.Rising d.fs) {s : ByteArray} (hs : D.isThere d.fs s = true) {d' : Dk} {fr' : Int} {n : Nat} {w' : World} (hfs : d'.fs = d.fs.eraseIdx (D.find d.fs s))
    (hm : w'.ownsMap Try.prog 9 ptrElem gm n (M.del (.string s.data.toList))) (hb : w'.heap[gd]? = some (.cells #[.int .i64 fr', .int .i64 (restOf d'), .map (some gm)] 60))
    (hw : ∀ k, k ≠ gd → k ≠ gm → w'.heap[k]? = w.heap[k]?) : PDAt w' X gd d' fr' gm (M.del (.string s.data.toList)) E := by
  obtain ⟨k1, k2, k3⟩ := h.kinds
  have hmem : ∀ f, f ∈ d'.fs ↔ f ∈ d.fs ∧ f.nm ≠ s := fun f => by rw [hfs]; exact D.mem_erase hr
  have hsz : Maps.size (M.del (.string s.data.toList)) = d'.fs.length := by
    have h1 := size_del (k := .string s.data.toList) h.isMap
    rw [h.has, hs, h.size] at h1
    have h2 := D.find_lt hs
    rw [hfs, List.length_eraseIdx, if_pos h2]
    simp at h1
    omega
  refine ⟨hb, by rw [← hsz]; exact ownsMap_exact hm, fun t z => ?_, hsz, fun f hf => ?_, fun f hf g hg => h.apart f ((hmem f).1 hf).1 g ((hmem g).1 hg).1, h.foot.1, h.foot.2.1, fun f hf => h.foot.2.2 f ((hmem f).1 hf).1⟩
  · by_cases e : t = s
    · subst e
      rw [atKey_del_same]
      rw [D.isThere_not.2 fun f hf => ((hmem f).1 hf).2]
      rfl
    · rw [atKey_del_other (key_ne e), h.keys]
      have : D.isThere d'.fs t = D.isThere d.fs t := by
        rw [Bool.eq_iff_iff, D.isThere_mem, D.isThere_mem]
        constructor
        · rintro ⟨f, hf, hft⟩; exact ⟨f, ((hmem f).1 hf).1, hft⟩
        · rintro ⟨f, hf, hft⟩; exact ⟨f, (hmem f).2 ⟨hf, by rw [hft]; exact e⟩, hft⟩
      rw [this]
  · have hf2 := ((hmem f).1 hf).1
    exact (h.each f hf2).same (hw _ (k2 f hf2).1 (k2 f hf2).2) fun k hk => hw k (k3 f hf2 k hk).1 (k3 f hf2 k hk).2.1

/-- A file more. -/
theorem PDAt.added (h : PDAt w X gd d fr gm M E) {x : Fl} (hs : D.isThere d.fs x.nm = false) {d' : Dk} {fr' : Int} {n b : Nat} {v : Value} {w' : World} {Y : Nat → Prop} (hfs : d'.fs = D.add d.fs x) (hXY : ∀ k, X k → Y k)
    (hm : w'.ownsMap Try.prog 9 ptrElem gm n (M.put (.string x.nm.data.toList) (.held b))) (hb : w'.heap[gd]? = some (.cells #[.int .i64 fr', .int .i64 (restOf d'), .map (some gm)] 60))
    (hat : FileAt w' b v x) (hY : Y b ∧ ∀ k, v.ownBlock = some k → Y k) (hnew : ∀ f ∈ d.fs, b ≠ (E f.nm).1 ∧ ∀ k, v.ownBlock = some k → (E f.nm).2.ownBlock ≠ some k)
    (hw : ∀ k, X k → k ≠ gd → k ≠ gm → w'.heap[k]? = w.heap[k]?) : PDAt w' Y gd d' fr' gm (M.put (.string x.nm.data.toList) (.held b)) (fun t => if t = x.nm then (b, v) else E t) := by
  obtain ⟨k1, k2, k3⟩ := h.kinds
  have hmem : ∀ f, f ∈ d'.fs ↔ f = x ∨ f ∈ d.fs := fun f => by rw [hfs]; exact D.mem_add
  have hne : ∀ f ∈ d.fs, f.nm ≠ x.nm := D.isThere_not.1 hs
  have hsz : Maps.size (M.put (.string x.nm.data.toList) (.held b)) = d'.fs.length := by
    rw [size_put h.isMap, h.has, hs, h.size, hfs, D.length_add]; rfl
  have hE : ∀ f ∈ d.fs, (if f.nm = x.nm then (b, v) else E f.nm) = E f.nm := fun f hf => if_neg (hne f hf)
  have hold : ∀ f ∈ d.fs, FileAt w' (E f.nm).1 (E f.nm).2 f := fun f hf => (h.each f hf).same (hw _ (h.foot.2.2 f hf).1 (k2 f hf).1 (k2 f hf).2) fun k hk => hw k ((h.foot.2.2 f hf).2 k hk) (k3 f hf k hk).1 (k3 f hf k hk).2.1
  refine ⟨hb, by rw [← hsz]; exact ownsMap_exact hm, fun t z => ?_, hsz, fun f hf => ?_, fun f hf g hg hfg => ?_, hXY _ h.foot.1, hXY _ h.foot.2.1, fun f hf => ?_⟩
  · by_cases e : t = x.nm
    · subst e
      rw [atKey_put_same h.isMap.isMap (show WideAt.IsKeyLit (.string x.nm.data.toList) from trivial), D.isThere_mem.2 ⟨x, (hmem x).2 (.inl rfl), rfl⟩]
      simp
    · rw [atKey_put_other (key_ne e), h.keys]
      have : D.isThere d'.fs t = D.isThere d.fs t := by
        rw [Bool.eq_iff_iff, D.isThere_mem, D.isThere_mem]
        constructor
        · rintro ⟨f, hf, hft⟩
          rcases (hmem f).1 hf with rfl | h1
          · exact absurd hft.symm e
          · exact ⟨f, h1, hft⟩
        · rintro ⟨f, hf, hft⟩; exact ⟨f, (hmem f).2 (.inr hf), hft⟩
      rw [this, if_neg e]
  · rcases (hmem f).1 hf with rfl | h1
    · simp only [if_true]; exact hat
    · simp only [hE f h1]; exact hold f h1
  · rcases (hmem f).1 hf with rfl | h1
    · rcases (hmem g).1 hg with rfl | h2
      · exact absurd rfl hfg
      · simp only [if_true, hE g h2]
        exact hnew g h2
    · rcases (hmem g).1 hg with rfl | h2
      · simp only [if_true, hE f h1]
        obtain ⟨a1, a2⟩ := hnew f h1
        exact ⟨a1.symm, fun k hk hk2 => a2 k hk2 hk⟩
      · simp only [hE f h1, hE g h2]
        exact h.apart f h1 g h2 hfg
  · rcases (hmem f).1 hf with rfl | h1
    · simp only [if_true]; exact hY
    · simp only [hE f h1]
      exact ⟨hXY _ (h.foot.2.2 f h1).1, fun k hk => hXY k ((h.foot.2.2 f h1).2 k hk)⟩
end

/-- What a call of the program's disk leaves. -/
def PPost (w : World) (X : Nat → Prop) (gd : Nat) (r : Int × Dk) (e : Ending) (w' : World) : Prop :=
  e = .returned (.int .i64 r.1) ∧ Only X w w' ∧ PDsk w' (More X w w') gd r.2

/-- What a disk is good for, ahead of a call. -/
def Good (d : Dk) : Prop := Fine d ∧ D.Rising d.fs ∧ ∀ f ∈ d.fs, f.safe ≤ f.b.length
end Go.Proofs.Ytgiipkmkmomofaa.M
