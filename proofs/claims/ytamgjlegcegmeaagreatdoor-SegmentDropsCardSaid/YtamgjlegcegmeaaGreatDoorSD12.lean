/- The files of a disk, as a set by names: what the plain operations do to it. No program is named here. -/
import Derived.Test.YtamgjlegcegmeaaGreatDoorSD1
import Derived.Sort.Walk0
namespace Go.Proofs.YtamgjlegcegmeaaGreatDoor.D

theorem toList_data (s : ByteArray) : s.toList = s.data.toList := ByteArray.toList_eq s

theorem nm_ext {a b : ByteArray} (h : a.toList = b.toList) : a = b := by
  rw [toList_data, toList_data] at h
  cases a; cases b
  simp only [ByteArray.mk.injEq]
  exact Array.toList_inj.1 h

theorem beq_nm (a b : ByteArray) : (a.toList == b.toList) = decide (a = b) := by
  rw [Bool.eq_iff_iff, beq_iff_eq, decide_eq_true_eq]
  exact ⟨nm_ext, fun h => by rw [h]⟩

/-- The names rise. -/
def Rising (fs : List Fl) : Prop := fs.Pairwise fun a b => a.nm.toList < b.nm.toList

theorem lt_irrefl' (l : List UInt8) : ¬ l < l := List.lt_irrefl l

theorem Rising.ne {fs : List Fl} (h : Rising fs) : fs.Pairwise fun a b => a.nm ≠ b.nm := List.Pairwise.imp (R := fun a b : Fl => a.nm.toList < b.nm.toList) (S := fun a b : Fl => a.nm ≠ b.nm) (fun {a b} hab e => lt_irrefl' _ (by rw [e] at hab; exact hab)) h

theorem Rising.uniq {fs : List Fl} (h : Rising fs) {f g : Fl} (hf : f ∈ fs) (hg : g ∈ fs) (e : f.nm = g.nm) : f = g := by
  have hp := h.ne
  clear h
  induction fs with
  | nil => cases hf
  | cons x r ih =>
    obtain ⟨h1, h2⟩ := List.pairwise_cons.1 hp
    rcases List.mem_cons.1 hf with ef | hf'
    · rcases List.mem_cons.1 hg with eg | hg'
      · rw [ef, eg]
      · exact absurd (ef ▸ e) (h1 g hg')
    · rcases List.mem_cons.1 hg with eg | hg'
      · exact absurd (eg ▸ e).symm (h1 f hf')
      · exact ih hf' hg' h2

theorem isThere_mem {fs : List Fl} {s : ByteArray} : isThere fs s = true ↔ ∃ f ∈ fs, f.nm = s := by
  rw [isThere_iff]
  constructor
  · rintro ⟨j, hj, h⟩
    exact ⟨fs[j], List.getElem_mem hj, by rw [beq_nm] at h; simpa using h⟩
  · rintro ⟨f, hf, rfl⟩
    obtain ⟨j, hj, rfl⟩ := List.mem_iff_getElem.1 hf
    exact ⟨j, hj, by simp⟩

theorem isThere_not {fs : List Fl} {s : ByteArray} : isThere fs s = false ↔ ∀ f ∈ fs, f.nm ≠ s := by
  rw [← Bool.not_eq_true, isThere_mem]
  simp

theorem find_lt {fs : List Fl} {s : ByteArray} (h : isThere fs s = true) : find fs s < fs.length := by simpa [isThere] using h

theorem find_ge {fs : List Fl} {s : ByteArray} (h : isThere fs s = false) : fs.length ≤ find fs s := by simpa [isThere] using h

theorem find_nm {fs : List Fl} {s : ByteArray} (h : find fs s < fs.length) : fs[find fs s].nm = s := by
  have := find_at fs s h
  rw [beq_nm] at this
  simpa using this

theorem Rising.find_eq {fs : List Fl} (h : Rising fs) {i : Nat} (hi : i < fs.length) {s : ByteArray} (e : fs[i].nm = s) : find fs s = i := by
  have hl : find fs s < fs.length := find_lt (isThere_mem.2 ⟨_, List.getElem_mem hi, e⟩)
  have hn := find_nm hl
  have hp := List.pairwise_iff_getElem.1 h.ne
  rcases Nat.lt_trichotomy (find fs s) i with h1 | h1 | h1
  · exact absurd (hn.trans e.symm) (hp _ _ hl hi h1)
  · exact h1
  · exact absurd (e.trans hn.symm) (hp _ _ hi hl h1)

theorem erase_beyond {fs : List Fl} {s : ByteArray} (h : isThere fs s = false) : fs.eraseIdx (find fs s) = fs := List.eraseIdx_of_length_le (find_ge h)

theorem Rising.erase {fs : List Fl} (h : Rising fs) (i : Nat) : Rising (fs.eraseIdx i) := List.Pairwise.sublist (List.eraseIdx_sublist ..) h

theorem mem_erase {fs : List Fl} (h : Rising fs) {s : ByteArray} {f : Fl} : f ∈ fs.eraseIdx (find fs s) ↔ f ∈ fs ∧ f.nm ≠ s := by
  cases ht : isThere fs s with
  | false =>
    rw [erase_beyond ht]
    exact ⟨fun hf => ⟨hf, isThere_not.1 ht f hf⟩, fun hf => hf.1⟩
  | true =>
    have hl := find_lt ht
    have hn := find_nm hl
    constructor
    · intro hf
      obtain ⟨j, hj, hji, rfl⟩ := List.mem_eraseIdx_iff_getElem.1 hf
      exact ⟨List.getElem_mem _, fun e => hji (h.find_eq hj e).symm⟩
    · rintro ⟨hf, hne⟩
      obtain ⟨j, hj, rfl⟩ := List.mem_iff_getElem.1 hf
      exact List.mem_eraseIdx_iff_getElem.2 ⟨j, hj, fun e => hne (by subst e; exact hn), rfl⟩

theorem mem_add {fs : List Fl} {x f : Fl} : f ∈ add fs x ↔ f = x ∨ f ∈ fs := by
  unfold add
  rw [List.mem_append, List.mem_cons]
  constructor
  · rintro (h | h | h)
    · exact .inr (List.mem_of_mem_take h)
    · exact .inl h
    · exact .inr (List.mem_of_mem_drop h)
  · rintro (h | h)
    · exact .inr (.inl h)
    · rw [← List.take_append_drop (place fs x.nm) fs, List.mem_append] at h
      rcases h with h | h
      · exact .inl h
      · exact .inr (.inr h)

theorem length_add (fs : List Fl) (x : Fl) : (add fs x).length = fs.length + 1 := by
  unfold add
  simp only [List.length_append, List.length_cons, List.length_take, List.length_drop]
  omega

theorem Rising.add {fs : List Fl} (h : Rising fs) {x : Fl} (hx : ∀ f ∈ fs, f.nm ≠ x.nm) : Rising (add fs x) := by
  unfold D.add
  have hb : ∀ (i : Nat) (hi : i < fs.length), i < place fs x.nm → fs[i].nm.toList < x.nm.toList := fun i hi hlt => by
    have := List.not_of_lt_findIdx (p := fun f : Fl => !Op.bytesLess f.nm.toList x.nm.toList) (xs := fs) hlt
    rw [bytesLess_eq] at this
    simpa using this
  have ha : ∀ (i : Nat) (hi : i < fs.length), place fs x.nm ≤ i → x.nm.toList < fs[i].nm.toList := fun i hi hle => by
    have hp : place fs x.nm < fs.length := Nat.lt_of_le_of_lt hle hi
    have h1 := List.findIdx_getElem (p := fun f : Fl => !Op.bytesLess f.nm.toList x.nm.toList) (xs := fs) (w := hp)
    rw [bytesLess_eq] at h1
    have h2 : x.nm.toList ≤ fs[place fs x.nm].nm.toList := List.not_lt.1 fun hlt => by
      have h1' : (!decide (fs[place fs x.nm].nm.toList < x.nm.toList)) = true := h1
      rw [decide_eq_true hlt] at h1'
      cases h1'
    have h3 : x.nm.toList < fs[place fs x.nm].nm.toList := by
      rcases List.le_iff_lt_or_eq.1 h2 with h3 | h3
      · exact h3
      · exact absurd (nm_ext h3.symm) (hx _ (List.getElem_mem hp))
    rcases Nat.lt_or_ge (place fs x.nm) i with h4 | h4
    · exact List.lt_trans h3 (List.pairwise_iff_getElem.1 h _ _ hp hi h4)
    · have : i = place fs x.nm := by omega
      subst this; exact h3
  refine List.pairwise_append.2 ⟨h.sublist (List.take_sublist ..), List.pairwise_cons.2 ⟨fun f hf => ?_, h.sublist (List.drop_sublist ..)⟩, fun a haa b hb' => ?_⟩
  · obtain ⟨j, hj, rfl⟩ := List.mem_iff_getElem.1 hf
    rw [List.getElem_drop]
    exact ha _ _ (by omega)
  · obtain ⟨i, hi, rfl⟩ := List.mem_iff_getElem.1 haa
    have hi' : i < place fs x.nm ∧ i < fs.length := by simp at hi; omega
    rw [List.getElem_take]
    rcases List.mem_cons.1 hb' with rfl | hb'
    · exact hb i hi'.2 hi'.1
    · obtain ⟨j, hj, rfl⟩ := List.mem_iff_getElem.1 hb'
      rw [List.getElem_drop]
      exact List.lt_trans (hb i hi'.2 hi'.1) (ha _ _ (by omega))

/-- One file turned, its name the same. -/
theorem names_modify (fs : List Fl) (i : Nat) (g : Fl → Fl) (hg : ∀ f, (g f).nm = f.nm) : (fs.modify i g).map (·.nm) = fs.map (·.nm) := by
  apply List.ext_getElem?
  intro j
  rw [List.getElem?_map, List.getElem?_map, List.getElem?_modify]
  cases fs[j]? with
  | none => rfl
  | some f => by_cases hj : i = j <;> simp [hj, hg]

theorem Rising.of_names {fs fs' : List Fl} (h : Rising fs) (e : fs'.map (·.nm) = fs.map (·.nm)) : Rising fs' := by
  have h1 : (fs.map (·.nm)).Pairwise fun a b => a.toList < b.toList := List.pairwise_map.2 h
  rw [← e] at h1
  exact (List.pairwise_map (f := fun f : Fl => f.nm) (R := fun a b => a.toList < b.toList)).1 h1

theorem mem_modify {fs : List Fl} (h : Rising fs) {s : ByteArray} {g : Fl → Fl} {f : Fl} (hf : f ∈ fs.modify (find fs s) g) : (f ∈ fs ∧ f.nm ≠ s) ∨ ∃ f0 ∈ fs, f0.nm = s ∧ f = g f0 := by
  obtain ⟨j, hj, rfl⟩ := List.mem_iff_getElem.1 hf
  have hj' : j < fs.length := by simpa using hj
  rw [List.getElem_modify]
  by_cases e : find fs s = j
  · rw [if_pos e]
    exact .inr ⟨_, List.getElem_mem hj', by subst e; exact find_nm hj', rfl⟩
  · rw [if_neg e]
    exact .inl ⟨List.getElem_mem _, fun e' => e (h.find_eq hj' e')⟩

theorem used_append (a b : List Fl) : used (a ++ b) = used a + used b := by
  unfold used
  rw [List.map_append, List.sum_append]

theorem used_cons (f : Fl) (l : List Fl) : used (f :: l) = f.b.length + used l := rfl

theorem used_at (l : List Fl) (j : Nat) (hj : j < l.length) : used l = used (l.take j) + (l[j].b.length + used (l.drop (j + 1))) := by
  rw [← used_cons, ← List.drop_eq_getElem_cons hj, ← used_append, List.take_append_drop]

theorem used_modify (fs : List Fl) (i : Nat) (g : Fl → Fl) (hi : i < fs.length) : used (fs.modify i g) + fs[i].b.length = used fs + (g fs[i]).b.length := by
  have hl : i < (fs.modify i g).length := by simpa using hi
  rw [used_at fs i hi, used_at _ i hl]
  have e1 : (fs.modify i g).take i = fs.take i := by
    apply List.ext_getElem?
    intro j
    by_cases hj : j < i
    · rw [List.getElem?_take_of_lt hj, List.getElem?_take_of_lt hj, List.getElem?_modify]
      simp only [show i ≠ j by omega, if_false]
      simp
    · rw [List.getElem?_take_eq_none (by omega), List.getElem?_take_eq_none (by omega)]
  have e2 : (fs.modify i g).drop (i + 1) = fs.drop (i + 1) := by
    apply List.ext_getElem?
    intro j
    rw [List.getElem?_drop, List.getElem?_drop, List.getElem?_modify]
    simp only [show i ≠ i + 1 + j by omega, if_false]
    simp
  rw [e1, e2]
  simp
  omega

theorem used_erase (fs : List Fl) (i : Nat) (hi : i < fs.length) : used (fs.eraseIdx i) + fs[i].b.length = used fs := by
  rw [List.eraseIdx_eq_take_drop_succ, used_append, used_at fs i hi]
  omega

theorem used_mem {fs : List Fl} {f : Fl} (h : f ∈ fs) : f.b.length ≤ used fs := by
  obtain ⟨j, hj, rfl⟩ := List.mem_iff_getElem.1 h
  have := used_erase fs j hj
  omega
end Go.Proofs.YtamgjlegcegmeaaGreatDoor.D
