/- What stays true of a disk, whatever is done to it. -/
import Derived.Test.YtgiipkmkmomofaaProjQ
import Derived.Test.YtgiipkmkmomofaaProjP
namespace Go.Proofs.Ytgiipkmkmomofaa.M
open D (Fl Dk)

/-- What is true of a disk from its start. -/
def Well (d : Dk) : Prop := Good d ∧ ∀ f ∈ d.fs, D.okName f.nm = true

theorem ok_size {s : ByteArray} (h : D.okName s = true) : s.size ≤ 32 := by
  unfold D.okName at h
  simp only [Bool.and_eq_true, decide_eq_true_eq] at h
  exact h.2.2

theorem Well.names {d : Dk} (h : Well d) : ∀ f ∈ d.fs, f.nm.size ≤ 9223372036854775807 := fun f hf => by
  have := ok_size (h.2 f hf)
  omega

theorem Well.of {d d' : Dk} (h : Well d) (hr : d'.room = d.room) (hc : d'.calls ≤ 9223372036854775807) (hl : d'.fs.length ≤ 4096) (hu : (D.used d'.fs : Int) ≤ d.room) (hs : D.Rising d'.fs) (he : ∀ f ∈ d'.fs, f.safe ≤ f.b.length ∧ D.okName f.nm = true) : Well d' := by
  obtain ⟨⟨⟨h1, h2, h3, h4, h5⟩, h6, h7⟩, h8⟩ := h
  refine ⟨⟨⟨hl, hc, ?_, by rw [hr]; exact h4, by rw [hr]; exact h5⟩, hs, fun f hf => (he f hf).1⟩, fun f hf => (he f hf).2⟩
  unfold D.Dk.free
  rw [hr]
  omega

theorem Well.used {d : Dk} (h : Well d) : (D.used d.fs : Int) ≤ d.room := by
  have := h.1.1.2.2.1
  unfold D.Dk.free at this
  omega

theorem Well.tick {d : Dk} (h : Well d) : Well d.tick := ⟨h.1.tick, by rw [tick_fs]; exact h.2⟩

theorem fresh_well {n : Int} (h0 : 0 ≤ n) (h1 : n ≤ 9223372036854775807) : Well (fresh n) := by
  refine ⟨⟨⟨by simp [fresh], by simp [fresh], ?_, h0, h1⟩, by simp [fresh, D.Rising], fun f hf => by simp [fresh] at hf⟩, fun f hf => by simp [fresh] at hf⟩
  simp [fresh, D.Dk.free, D.used]; exact h0

theorem stop_well {d : Dk} (h : Well d) {n : Int} (hn : n ≤ 9223372036854775807) : Well (D.stop d n) :=
  h.of rfl (by simp [D.stop]; omega) h.1.1.1 h.used h.1.2.1 fun f hf => ⟨h.1.2.2 f hf, h.2 f hf⟩

theorem append_well {d : Dk} (h : Well d) (s : ByteArray) (bs : List (List UInt8)) : Well (D.append d s bs).2 ∧ D.used (D.append d s bs).2.fs ≤ D.used d.fs + bs.flatten.length := by
  rw [append_eq]
  split
  · exact ⟨h, Nat.le_add_right _ _⟩
  · have ht := h.tick
    rw [show D.used d.fs = D.used d.tick.fs by rw [tick_fs]]
    generalize d.tick = e at ht
    unfold appendB
    split
    · exact ⟨ht, by simp⟩
    · rename_i hok
      have hok : D.okName s = true := by simpa using hok
      split
      · exact ⟨ht, by simp⟩
      · rename_i hf
        have hf1 : (bs.flatten.length : Int) ≤ e.free := by omega
        have hf2 : D.isThere e.fs s = false → e.fs.length < 4096 := fun h1 => by
          rcases Nat.lt_or_ge e.fs.length 4096 with h2 | h2
          · exact h2
          · exact absurd (.inr ⟨h1, h2⟩) hf
        simp only
        obtain ⟨fs, hfs⟩ : ∃ fs, fs = (if D.isThere e.fs s = true then e.fs else D.add e.fs ⟨s, [], 0⟩) := ⟨_, rfl⟩
        have key : D.Rising fs ∧ D.isThere fs s = true ∧ D.used fs = D.used e.fs ∧ fs.length ≤ 4096 ∧ ∀ f ∈ fs, f.safe ≤ f.b.length ∧ D.okName f.nm = true := by
          rw [hfs]
          split
          · rename_i h1
            exact ⟨ht.1.2.1, h1, rfl, ht.1.1.1, fun f hf => ⟨ht.1.2.2 f hf, ht.2 f hf⟩⟩
          · rename_i h1
            have h1 : D.isThere e.fs s = false := by simpa using h1
            refine ⟨ht.1.2.1.add (x := ⟨s, [], 0⟩) (D.isThere_not.1 h1), D.isThere_mem.2 ⟨⟨s, [], 0⟩, D.mem_add.2 (.inl rfl), rfl⟩, by rw [D.used_add]; simp, by rw [D.length_add]; exact hf2 h1, fun f hf => ?_⟩
            rcases D.mem_add.1 hf with rfl | h2
            · exact ⟨Nat.le_refl _, hok⟩
            · exact ⟨ht.1.2.2 f h2, ht.2 f h2⟩
        rw [← hfs]
        obtain ⟨k1, k2, k3, k4, k5⟩ := key
        have hu := used_layAt fs (D.find fs s) bs.flatten (D.find_lt k2)
        refine ⟨ht.of rfl ht.1.1.2.1 ?_ ?_ ?_ fun f hf => ?_, by omega⟩
        · show (D.layAt fs (D.find fs s) bs.flatten).length ≤ 4096
          unfold D.layAt
          simpa using k4
        · show (D.used (D.layAt fs (D.find fs s) bs.flatten) : Int) ≤ e.room
          have := ht.used
          unfold D.Dk.free at hf1
          omega
        · exact k1.of_names (D.names_modify _ _ _ fun _ => rfl)
        · rcases D.mem_modify k1 hf with ⟨h1, _⟩ | ⟨f0, h1, _, rfl⟩
          · exact k5 f h1
          · have := k5 f0 h1
            exact ⟨by simp; omega, this.2⟩

theorem syncF_each (l : List ByteArray) : ∀ fs : List Fl, (∀ f ∈ fs, f.safe ≤ f.b.length ∧ D.okName f.nm = true) → ∀ f ∈ syncF fs l, f.safe ≤ f.b.length ∧ D.okName f.nm = true := by
  induction l with
  | nil => intro fs h; exact h
  | cons s r ih =>
    intro fs h
    refine ih _ fun f hf => ?_
    have hf2 : f ∈ fs.modify (D.find fs s) (fun f => { f with safe := f.b.length }) := hf
    clear hf
    obtain ⟨j, hj, rfl⟩ := List.mem_iff_getElem.1 hf2
    have hj' : j < fs.length := by simpa using hj
    have := h _ (List.getElem_mem hj')
    rw [List.getElem_modify]
    split
    · exact ⟨Nat.le_refl _, this.2⟩
    · exact this

theorem sync_well {d : Dk} (h : Well d) (names : List ByteArray) : Well (D.sync d names).2 ∧ D.used (D.sync d names).2.fs ≤ D.used d.fs := by
  rw [sync_eq]
  split
  · exact ⟨h, Nat.le_refl _⟩
  · have ht := h.tick
    rw [show D.used d.fs = D.used d.tick.fs by rw [tick_fs]]
    generalize d.tick = e at ht
    unfold syncB
    split
    · exact ⟨ht, Nat.le_refl _⟩
    · have hl : (syncF e.fs names).length = e.fs.length := by simpa using congrArg List.length (syncF_names names e.fs)
      have hu := syncF_used names e.fs
      exact ⟨ht.of rfl ht.1.1.2.1 (by show (syncF e.fs names).length ≤ 4096; rw [hl]; exact ht.1.1.1) (by show (D.used (syncF e.fs names) : Int) ≤ _; rw [hu]; exact ht.used) (ht.1.2.1.of_names (syncF_names _ _)) (syncF_each names e.fs fun f hf => ⟨ht.1.2.2 f hf, ht.2 f hf⟩), Nat.le_of_eq hu⟩

theorem removeF_sub (l : List ByteArray) : ∀ fs : List Fl, (removeF fs l).Sublist fs := by
  induction l with
  | nil => intro fs; exact List.Sublist.refl _
  | cons s r ih => intro fs; exact (ih _).trans (List.eraseIdx_sublist ..)

theorem remove_well {d : Dk} (h : Well d) (names : List ByteArray) : Well (D.remove d names).2 ∧ D.used (D.remove d names).2.fs ≤ D.used d.fs := by
  rw [remove_eq]
  split
  · exact ⟨h, Nat.le_refl _⟩
  · have ht := h.tick
    rw [show D.used d.fs = D.used d.tick.fs by rw [tick_fs]]
    generalize d.tick = e at ht
    unfold removeB
    split
    · exact ⟨ht, Nat.le_refl _⟩
    · have hu := removeF_used names e.fs ht.1.2.1
      have hsub := removeF_sub names e.fs
      refine ⟨ht.of rfl ht.1.1.2.1 (Nat.le_trans hsub.length_le ht.1.1.1) ?_ (removeF_rising names e.fs ht.1.2.1) (fun f hf => ⟨ht.1.2.2 f (hsub.mem hf), ht.2 f (hsub.mem hf)⟩), hu⟩
      have := ht.used
      show (D.used (removeF e.fs names) : Int) ≤ _
      omega

theorem cut_well {d : Dk} (h : Well d) (s : ByteArray) (n : Int) : Well (D.cut d s n).2 ∧ D.used (D.cut d s n).2.fs ≤ D.used d.fs := by
  rw [cut_eq]
  split
  · exact ⟨h, Nat.le_refl _⟩
  · have ht := h.tick
    rw [show D.used d.fs = D.used d.tick.fs by rw [tick_fs]]
    generalize d.tick = e at ht
    unfold cutB
    cases hf : e.fs[D.find e.fs s]? with
    | none => exact ⟨ht, Nat.le_refl _⟩
    | some f =>
      simp only
      split
      · exact ⟨ht, Nat.le_refl _⟩
      · rename_i hn
        have hl : D.find e.fs s < e.fs.length := by
          rcases Nat.lt_or_ge (D.find e.fs s) e.fs.length with h1 | h1
          · exact h1
          · rw [List.getElem?_eq_none h1] at hf; cases hf
        have hu := D.used_modify e.fs (D.find e.fs s) (fun f => { f with b := f.b.take n.toNat, safe := min f.safe n.toNat }) hl
        simp only [List.length_take] at hu
        refine ⟨ht.of rfl ht.1.1.2.1 (by simpa using ht.1.1.1) ?_ (ht.1.2.1.of_names (D.names_modify _ _ _ fun _ => rfl)) fun f2 hf2 => ?_, by simp only; omega⟩
        · have := ht.used
          simp only
          omega
        · rcases D.mem_modify ht.1.2.1 hf2 with ⟨h1, _⟩ | ⟨f0, h1, _, rfl⟩
          · exact ⟨ht.1.2.2 f2 h1, ht.2 f2 h1⟩
          · have := ht.1.2.2 f0 h1
            exact ⟨by simp; omega, ht.2 f0 h1⟩

theorem rename_well {d : Dk} (h : Well d) (a b : ByteArray) : Well (D.rename d a b).2 ∧ D.used (D.rename d a b).2.fs ≤ D.used d.fs := by
  rw [rename_eq]
  split
  · exact ⟨h, Nat.le_refl _⟩
  · have ht := h.tick
    rw [show D.used d.fs = D.used d.tick.fs by rw [tick_fs]]
    generalize d.tick = e at ht
    unfold renameB
    split
    · exact ⟨ht, Nat.le_refl _⟩
    · rename_i hn
      have hok : D.okName b = true := by
        cases hb : D.okName b with
        | true => rfl
        | false => exact absurd (.inr hb) hn
      cases hf : e.fs[D.find e.fs a]? with
      | none => exact ⟨ht, Nat.le_refl _⟩
      | some f =>
        simp only
        have hl : D.find e.fs a < e.fs.length := by
          rcases Nat.lt_or_ge (D.find e.fs a) e.fs.length with h1 | h1
          · exact h1
          · rw [List.getElem?_eq_none h1] at hf; cases hf
        have hfe : e.fs[D.find e.fs a] = f := by rw [List.getElem?_eq_getElem hl] at hf; simpa using hf
        have hfm : f ∈ e.fs := by rw [← hfe]; exact List.getElem_mem _
        have hr1 := ht.1.2.1.erase (D.find e.fs a)
        have hr2 := hr1.erase (D.find (e.fs.eraseIdx (D.find e.fs a)) b)
        have hu1 := D.used_erase e.fs _ hl
        rw [hfe] at hu1
        have hu2 := bytesOf_erase hr1 b
        have hlen1 : (e.fs.eraseIdx (D.find e.fs a)).length + 1 = e.fs.length := by rw [List.length_eraseIdx, if_pos hl]; omega
        have hlen2 := List.length_eraseIdx_le (e.fs.eraseIdx (D.find e.fs a)) (D.find (e.fs.eraseIdx (D.find e.fs a)) b)
        have hu : D.used (D.add ((e.fs.eraseIdx (D.find e.fs a)).eraseIdx (D.find (e.fs.eraseIdx (D.find e.fs a)) b)) { f with nm := b }) ≤ D.used e.fs := by
          rw [D.used_add]
          simp only
          omega
        refine ⟨ht.of rfl ht.1.1.2.1 ?_ ?_ (hr2.add (x := { f with nm := b }) fun g hg => ((D.mem_erase hr1).1 hg).2) fun g hg => ?_, hu⟩
        · rw [D.length_add]
          have := ht.1.1.1
          omega
        · have := ht.used
          simp only
          omega
        · rcases D.mem_add.1 hg with rfl | h1
          · exact ⟨ht.1.2.2 f hfm, hok⟩
          · have h2 := List.mem_of_mem_eraseIdx (List.mem_of_mem_eraseIdx h1)
            exact ⟨ht.1.2.2 g h2, ht.2 g h2⟩

theorem crash_well {d : Dk} (h : Well d) (ks : List Int) : Well (D.crash d ks).2 ∧ D.used (D.crash d ks).2.fs ≤ D.used d.fs := by
  have hn := crashTo_names d.fs ks d.fs.length
  rw [crashTo_all] at hn
  have hu : ∀ n, n ≤ d.fs.length → D.used (crashTo d.fs ks n) ≤ D.used d.fs := fun n => by
    induction n with
    | zero => intro _; exact Nat.le_refl _
    | succ n ih =>
      intro hn
      have h1 := crashTo_used d.fs ks h.1.2.2 n (by omega)
      have h2 := ih (by omega)
      omega
  have hu2 := hu d.fs.length (Nat.le_refl _)
  rw [crashTo_all] at hu2
  have hl : (D.crashFs d.fs ks).length = d.fs.length := by simpa using congrArg List.length hn
  refine ⟨h.of rfl h.1.1.2.1 (by show (D.crashFs d.fs ks).length ≤ 4096; rw [hl]; exact h.1.1.1) ?_ (h.1.2.1.of_names hn) fun f hf => ?_, hu2⟩
  · have := h.used
    show (D.used (D.crashFs d.fs ks) : Int) ≤ _
    omega
  · obtain ⟨j, hj, rfl⟩ := List.mem_iff_getElem.1 hf
    have hg := crashFs_getq d.fs ks j
    have hj2 : j < d.fs.length := by rw [← hl]; exact hj
    have hj' : j < (D.crashFs d.fs ks).length := hj
    rw [List.getElem?_eq_getElem hj', List.getElem?_eq_getElem hj2] at hg
    simp only [Option.map_some, Option.some.injEq] at hg
    have hm := List.getElem_mem (l := d.fs) hj2
    have hst := stays_le (h.1.2.2 _ hm) ks[j]?
    show ((D.crashFs d.fs ks)[j]).safe ≤ ((D.crashFs d.fs ks)[j]).b.length ∧ D.okName ((D.crashFs d.fs ks)[j]).nm = true
    rw [hg]
    refine ⟨?_, show D.okName (d.fs[j]).nm = true from h.2 _ hm⟩
    unfold crashG
    simp
    omega
end Go.Proofs.Ytgiipkmkmomofaa.M
