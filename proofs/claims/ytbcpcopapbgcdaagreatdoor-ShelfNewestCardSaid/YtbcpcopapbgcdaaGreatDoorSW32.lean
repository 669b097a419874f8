/- What stays true of a disk with snapshots, through puts, cleanings, stops and crashes. What a put and a cleaning leave, where no machine stops: over plain lists. -/
import Derived.Test.YtbcpcopapbgcdaaGreatDoorSW25
/- Part: ShelfInv. -/
namespace Go.Proofs.YtbcpcopapbgcdaaGreatDoor.M
open Go.RowKit
open D (Fl Dk)

/-- How many files are aside. -/
def asideN (fs : List Fl) : Nat := if D.isThere fs nmNew then 1 else 0

theorem asideN_le (fs : List Fl) : asideN fs ≤ 1 := by unfold asideN; split <;> omega

theorem asideN_congr {fs gs : List Fl} (h : (∃ f ∈ fs, f.nm = nmNew) ↔ ∃ f ∈ gs, f.nm = nmNew) : asideN fs = asideN gs := by
  unfold asideN
  rw [← D.isThere_mem, ← D.isThere_mem] at h
  cases h1 : D.isThere fs nmNew with
  | true => rw [h.1 h1]
  | false =>
    cases h2 : D.isThere gs nmNew with
    | true => rw [h.2 h2] at h1; cases h1
    | false => rfl

/-- What a disk's dropping of what is aside does. -/
theorem dropNew_mem {d : Dk} (hr : D.Rising d.fs) : ∃ r d', dropNew d = (r, d') ∧ d'.room = d.room ∧ d'.ends = d.ends ∧
    ((r = 0 ∧ (∀ f, f ∈ d'.fs ↔ f ∈ d.fs ∧ f.nm ≠ nmNew) ∧ d'.fs.length + asideN d.fs = d.fs.length) ∨ (r = 32 ∧ d' = d ∧ d.stopped = true)) := by
  unfold dropNew asideN
  cases h : D.isThere d.fs nmNew with
  | false =>
    refine ⟨0, d, by simp, rfl, rfl, .inl ⟨rfl, fun f => ⟨fun hf => ⟨hf, D.isThere_not.1 h f hf⟩, fun hf => hf.1⟩, by simp⟩⟩
  | true =>
    simp only [if_true]
    rcases remove1 hr h with ⟨hs, h1⟩ | ⟨hs, d', h1, h2, h3, h4, h5⟩
    · exact ⟨32, d, h1, rfl, rfl, .inr ⟨rfl, rfl, hs⟩⟩
    · exact ⟨0, d', h1, h2, h3, .inl ⟨rfl, h4, h5⟩⟩

theorem rising_of {d : Dk} (h : Well d) : D.Rising d.fs := h.1.2.1

/-- What the writing of a file does. -/
theorem writeF_mem {d : Dk} (hw : Well d) {nm : ByteArray} {B : List UInt8} (hn : nm ≠ nmNew) (ho : D.okName nm = true) (hf : ((D.used d.fs + B.length : Nat) : Int) ≤ d.room) {n : Nat} (hl : d.fs.length ≤ n + asideN d.fs) (hn4 : n < 4096) :
    ∃ r d', writeF d nm B = (r, d') ∧ Well d' ∧ d'.room = d.room ∧ (d.ends = false → r = 0 ∧ d'.ends = false) ∧
      ((r = 0 ∧ (∀ f, f ∈ d'.fs ↔ (f ∈ d.fs ∧ f.nm ≠ nmNew ∧ f.nm ≠ nm) ∨ f = ⟨nm, B, B.length⟩) ∧ d'.fs.length ≤ n + 1) ∨
       (r = 32 ∧ (∀ f, f.nm ≠ nmNew → (f ∈ d'.fs ↔ f ∈ d.fs)) ∧ (∀ f ∈ d'.fs, f.nm = nmNew → f.b = B ∨ f ∈ d.fs) ∧ d'.fs.length ≤ n + asideN d'.fs)) := by
  have hwell := (saveF_well hw nmNew B)
  unfold writeF
  obtain ⟨r1, d1, e1, m1, n1, c1⟩ := dropNew_mem (rising_of hw)
  have hsv : saveF d nmNew B = if r1 ≠ 0 then (r1, d1) else if (D.append d1 nmNew [B]).1 ≠ 0 then D.append d1 nmNew [B] else D.sync (D.append d1 nmNew [B]).2 [nmNew] := by
    have : saveF d nmNew B = (let r := dropNew d; if r.1 ≠ 0 then r else if (D.append r.2 nmNew [B]).1 ≠ 0 then D.append r.2 nmNew [B] else D.sync (D.append r.2 nmNew [B]).2 [nmNew]) := rfl
    rw [this, e1]
  rcases c1 with ⟨rfl, c1, l1⟩ | ⟨rfl, rfl, s1⟩
  · rw [if_neg (by simp)] at hsv
    have hw1 : Well d1 := by
      have := dropNew_well' hw
      rw [e1] at this
      exact this.1
    have hu1 : D.used d1.fs ≤ D.used d.fs := by
      have := dropNew_well' hw
      rw [e1] at this
      exact this.2
    have hno : D.isThere d1.fs nmNew = false := D.isThere_not.2 fun f hf' => ((c1 f).1 hf').2
    rcases append1 (rising_of hw1) (b := B) hno nmNew_ok (by rw [m1]; omega) (by omega) with ⟨s2, e2⟩ | ⟨s2, d2, e2, m2, n2, c2, l2⟩
    · rw [e2] at hsv
      rw [if_pos (by simp)] at hsv
      rw [hsv]
      refine ⟨32, d1, rfl, hw1, m1, fun he => ?_, .inr ⟨rfl, fun f hf' => ?_, fun f hf' hfn => absurd hfn ((c1 f).1 hf').2, by omega⟩⟩
      · rw [free_stopped (n1.trans he)] at s2; cases s2
      · exact ⟨fun h => ((c1 f).1 h).1, fun h => (c1 f).2 ⟨h, hf'⟩⟩
    · rw [e2] at hsv
      rw [if_neg (by simp)] at hsv
      have hw2 : Well d2 := by
        have := (append_well hw1 nmNew [B]).1
        rw [e2] at this
        exact this
      have hth : D.isThere d2.fs nmNew = true := D.isThere_mem.2 ⟨⟨nmNew, B, 0⟩, (c2 _).2 (.inr rfl), rfl⟩
      have others2 : ∀ f, f.nm ≠ nmNew → (f ∈ d2.fs ↔ f ∈ d.fs) := fun f hf' => by
        rw [c2 f, c1 f]
        constructor
        · rintro (h | rfl)
          · exact h.1
          · exact absurd rfl hf'
        · exact fun h => .inl ⟨h, hf'⟩
      rcases sync1 (rising_of hw2) hth with ⟨s3, e3⟩ | ⟨s3, d3, e3, m3, n3, c3, l3⟩
      · rw [e3] at hsv
        rw [hsv]
        refine ⟨32, d2, rfl, hw2, m2.trans m1, fun he => ?_, .inr ⟨rfl, others2, fun f hf' hfn => ?_, ?_⟩⟩
        · rw [free_stopped (n2.trans (n1.trans he))] at s3; cases s3
        · rcases (c2 f).1 hf' with h | rfl
          · exact absurd hfn ((c1 f).1 h).2
          · exact .inl rfl
        · unfold asideN
          rw [hth]
          simp only [if_true]
          omega
      · rw [e3] at hsv
        rw [hsv]
        simp only [ne_eq, not_true_eq_false, if_false]
        have hw3 : Well d3 := by
          have := (sync_well hw2 [nmNew]).1
          rw [e3] at this
          exact this
        have new3 : ∀ f, f.nm = nmNew → (f ∈ d3.fs ↔ f = ⟨nmNew, B, B.length⟩) := fun f hfn => by
          rw [c3 f]
          constructor
          · rintro (⟨-, h⟩ | ⟨g, h1, h2, rfl⟩)
            · exact absurd hfn h
            · rcases (c2 g).1 h1 with h | rfl
              · exact absurd h2 ((c1 g).1 h).2
              · rfl
          · rintro rfl
            exact .inr ⟨⟨nmNew, B, 0⟩, (c2 _).2 (.inr rfl), rfl, rfl⟩
        have others3 : ∀ f, f.nm ≠ nmNew → (f ∈ d3.fs ↔ f ∈ d.fs) := fun f hf' => by
          rw [c3 f]
          constructor
          · rintro (⟨h, -⟩ | ⟨g, -, h2, rfl⟩)
            · exact (others2 f hf').1 h
            · exact absurd h2 hf'
          · exact fun h => .inl ⟨(others2 f hf').2 h, hf'⟩
        have hth3 : D.isThere d3.fs nmNew = true := D.isThere_mem.2 ⟨_, (new3 ⟨nmNew, B, B.length⟩ rfl).2 rfl, rfl⟩
        have hrw := rename_well hw3 nmNew nm
        rcases rename1 (rising_of hw3) hth3 ho (fun h => hn h.symm) with ⟨s4, e4⟩ | ⟨s4, d4, e4, m4, n4, c4, l4⟩
        · rw [e4]
          refine ⟨32, d3, rfl, hw3, m3.trans (m2.trans m1), fun he => ?_, .inr ⟨rfl, others3, fun f hf' hfn => .inl (by rw [(new3 f hfn).1 hf']), ?_⟩⟩
          · rw [free_stopped (n3.trans (n2.trans (n1.trans he)))] at s4; cases s4
          · unfold asideN
            rw [hth3]
            simp only [if_true]
            omega
        · rw [e4] at hrw ⊢
          refine ⟨0, d4, rfl, hrw.1, m4.trans (m3.trans (m2.trans m1)), fun he => ⟨rfl, n4.trans (n3.trans (n2.trans (n1.trans he)))⟩, .inl ⟨rfl, fun f => ?_, by omega⟩⟩
          rw [c4 f]
          constructor
          · rintro (⟨h1, h2, h3⟩ | ⟨g, h1, h2, rfl⟩)
            · exact .inl ⟨(others3 f h2).1 h1, h2, h3⟩
            · rw [(new3 g h2).1 h1]
              exact .inr rfl
          · rintro (⟨h1, h2, h3⟩ | rfl)
            · exact .inl ⟨(others3 f h2).2 h1, h2, h3⟩
            · exact .inr ⟨⟨nmNew, B, B.length⟩, (new3 _ rfl).2 rfl, rfl, rfl⟩
  · rw [if_pos (by simp)] at hsv
    rw [hsv]
    exact ⟨32, d1, rfl, hw, rfl, fun he => (by rw [free_stopped he] at s1; cases s1), .inr ⟨rfl, fun f _ => Iff.rfl, fun f hf' _ => .inr hf', hl⟩⟩

/-- What a row of removals does. -/
theorem removeEach_mem : ∀ (l : List ByteArray) {d : Dk}, Well d → (∀ s ∈ l, D.isThere d.fs s = true ∧ s ≠ nmNew) → l.Nodup →
    ∃ r d', removeEach d l = (r, d') ∧ Well d' ∧ d'.room = d.room ∧ (d.ends = false → r = 0 ∧ d'.ends = false) ∧ (r = 0 ∨ r = 32) ∧ (∀ f ∈ d'.fs, f ∈ d.fs) ∧ (∀ f ∈ d.fs, f.nm ∉ l → f ∈ d'.fs) ∧ (r = 0 → ∀ f ∈ d'.fs, f.nm ∉ l) ∧ d'.fs.length ≤ d.fs.length ∧ D.used d'.fs ≤ D.used d.fs
  | [], d, hw, _, _ => ⟨0, d, rfl, hw, rfl, fun h => ⟨rfl, h⟩, .inl rfl, fun _ h => h, fun _ h _ => h, fun _ _ _ => (by simp), Nat.le_refl _, Nat.le_refl _⟩
  | s :: l, d, hw, hs, hd => by
    have hs0 := hs s (by simp)
    rw [List.nodup_cons] at hd
    have hrm := remove_well hw [s]
    rcases remove1 (rising_of hw) hs0.1 with ⟨s1, e1⟩ | ⟨s1, d1, e1, m1, n1, c1, l1⟩
    · refine ⟨32, d, by rw [removeEach, e1]; simp, hw, rfl, fun he => (by rw [free_stopped he] at s1; cases s1), .inr rfl, fun _ h => h, fun _ h _ => h, fun h => (by cases h), Nat.le_refl _, Nat.le_refl _⟩
    · rw [e1] at hrm
      obtain ⟨r, d', e2, w2, m2, n2, z2, a2, b2, k2, l2, u2⟩ := removeEach_mem l (d := d1) hrm.1 (fun t ht => by
        obtain ⟨h1, h2⟩ := hs t (by simp [ht])
        refine ⟨?_, h2⟩
        obtain ⟨f, hf, hfn⟩ := D.isThere_mem.1 h1
        refine D.isThere_mem.2 ⟨f, (c1 f).2 ⟨hf, fun e => ?_⟩, hfn⟩
        have : t = s := hfn.symm.trans e
        exact hd.1 (this ▸ ht)) hd.2
      refine ⟨r, d', ?_, w2, m2.trans m1, fun he => n2 (n1.trans he), z2, fun f hf => ((c1 f).1 (a2 f hf)).1, fun f hf hfn => b2 f ((c1 f).2 ⟨hf, fun e => hfn (by simp [e])⟩) fun h => hfn (by simp [h]), fun h0 f hf => ?_, by omega, Nat.le_trans u2 hrm.2⟩
      · rw [removeEach, e1]
        simp only [ne_eq, not_true_eq_false, if_false]
        exact e2
      · have h3 := k2 h0 f hf
        have h4 := ((c1 f).1 (a2 f hf)).2
        simp only [List.mem_cons, not_or]
        exact ⟨h4, h3⟩

theorem elder_new (t : Int) : elder t nmNew = false := by unfold elder; rw [snIdx_new]

/-- What a cleaning does. -/
theorem cleanS_mem {d : Dk} (hw : Well d) (t : Int) : ∃ r d', cleanS d t = (r, d') ∧ Well d' ∧ d'.room = d.room ∧ (d.ends = false → r = 0 ∧ d'.ends = false) ∧ (r = 0 ∨ r = 32) ∧ (∀ f ∈ d'.fs, f ∈ d.fs) ∧ (∀ f ∈ d.fs, elder t f.nm = false → f.nm ≠ nmNew → f ∈ d'.fs) ∧ (r = 0 → ∀ f ∈ d'.fs, elder t f.nm = false ∧ f.nm ≠ nmNew) ∧
    (∀ n, d.fs.length ≤ n + asideN d.fs → d'.fs.length ≤ n + asideN d'.fs) := by
  obtain ⟨l, hl⟩ : ∃ l, l = (d.fs.map (·.nm)).filter (elder t) := ⟨_, rfl⟩
  have hmem : ∀ s, s ∈ l ↔ (∃ f ∈ d.fs, f.nm = s) ∧ elder t s = true := fun s => by rw [hl, List.mem_filter, List.mem_map]
  have hnd : l.Nodup := by
    rw [hl]
    refine List.Nodup.sublist List.filter_sublist ?_
    rw [List.nodup_iff_pairwise_ne, List.pairwise_map]
    exact (rising_of hw).ne
  have hin : ∀ s ∈ l, D.isThere d.fs s = true ∧ s ≠ nmNew := fun s hs => by
    obtain ⟨h1, h2⟩ := (hmem s).1 hs
    exact ⟨D.isThere_mem.2 h1, fun e => by rw [e, elder_new] at h2; cases h2⟩
  obtain ⟨r1, d1, e1, w1, m1, n1, z1, a1, b1, k1, l1, u1⟩ := removeEach_mem l hw hin hnd
  have hcs : cleanS d t = if r1 ≠ 0 then (r1, d1) else dropNew d1 := by
    have : cleanS d t = (let r := removeEach d ((d.fs.map (·.nm)).filter (elder t)); if r.1 ≠ 0 then r else dropNew r.2) := rfl
    rw [this, ← hl, e1]
  have keep : ∀ f ∈ d.fs, elder t f.nm = false → f ∈ d1.fs := fun f hf he => b1 f hf fun h => by
    have := ((hmem _).1 h).2
    rw [he] at this; cases this
  have has1 : asideN d1.fs = asideN d.fs := asideN_congr ⟨fun ⟨f, hf, hn⟩ => ⟨f, a1 f hf, hn⟩, fun ⟨f, hf, hn⟩ => ⟨f, keep f hf (by rw [hn]; exact elder_new t), hn⟩⟩
  by_cases h0 : r1 = 0
  · subst h0
    rw [if_neg (by simp)] at hcs
    obtain ⟨r2, d2, e2, m2, n2, c2⟩ := dropNew_mem (rising_of w1)
    have hw2 := dropNew_well' w1
    rw [e2] at hw2 hcs
    rcases c2 with ⟨rfl, c2, l2⟩ | ⟨rfl, rfl, s2⟩
    · refine ⟨0, d2, hcs, hw2.1, m2.trans m1, fun he => ⟨rfl, n2.trans (n1 he).2⟩, .inl rfl, fun f hf => a1 f ((c2 f).1 hf).1, fun f hf he hn => (c2 f).2 ⟨keep f hf he, hn⟩, fun _ f hf => ?_, fun n hn => ?_⟩
      · obtain ⟨h1, h2⟩ := (c2 f).1 hf
        refine ⟨?_, h2⟩
        cases he : elder t f.nm with
        | false => rfl
        | true => exact absurd ((hmem _).2 ⟨⟨f, a1 f h1, rfl⟩, he⟩) (k1 rfl f h1)
      · have h9 := asideN_le d.fs
        omega
    · refine ⟨32, d2, hcs, w1, m1, fun he => (by rw [free_stopped (n1 he).2] at s2; cases s2), .inr rfl, a1, fun f hf he _ => keep f hf he, fun h => (by cases h), fun n hn => ?_⟩
      rw [has1]; omega
  · rw [if_pos h0] at hcs
    refine ⟨r1, d1, hcs, w1, m1, n1, z1, a1, fun f hf he _ => keep f hf he, fun h => absurd h h0, fun n hn => ?_⟩
    rw [has1]; omega

/-- A disk whose files are snapshots, all of them whole, and perhaps one aside; the newest is this one. -/
structure Inv6 (d : Dk) (top : Sn) (n : Nat) : Prop where
  whole : ∀ f ∈ d.fs, f.nm ≠ nmNew → readF f ≠ none ∧ f.safe = f.b.length
  short : ∀ f ∈ d.fs, f.b.length ≤ 1100
  len : d.fs.length ≤ n + asideN d.fs
  new : newestS d.fs = top
  room : d.room = 100000

theorem Inv6.mono {d : Dk} {top : Sn} {n m : Nat} (h : Inv6 d top n) (hm : n ≤ m) : Inv6 d top m := ⟨h.whole, h.short, Nat.le_trans h.len (by omega), h.new, h.room⟩

theorem Inv6.used {d : Dk} {top : Sn} {n : Nat} (h : Inv6 d top n) : D.used d.fs ≤ 1100 * (n + 1) := by
  have h1 := used_bound h.short
  have h2 := asideN_le d.fs
  have h3 := h.len
  exact Nat.le_trans h1 (Nat.mul_le_mul_left _ (by omega))

theorem Inv6.fresh : Inv6 (fresh 100000) Sn.zero 0 :=
  ⟨fun f hf => (by cases hf), fun f hf => (by cases hf), by decide, rfl, rfl⟩

theorem Inv6.stop {d : Dk} {top : Sn} {n : Nat} (h : Inv6 d top n) (k : Int) : Inv6 (D.stop d k) top n := ⟨h.whole, h.short, h.len, h.new, h.room⟩

theorem newestS_congr {fs gs : List Fl} (hf : D.Rising fs) (hg : D.Rising gs) (h : ∀ f, readF f ≠ none → (f ∈ fs ↔ f ∈ gs)) : newestS fs = newestS gs := by
  unfold newestS
  rw [newest_congr hf hg h]

theorem Inv6.crash {d : Dk} {top : Sn} {n : Nat} (h : Inv6 d top n) (hw : Well d) (ks : List Int) : Inv6 (D.crash d ks).2 top n := by
  have hcw := (crash_well hw ks).1
  have hfs : (D.crash d ks).2.fs = D.crashFs d.fs ks := rfl
  have hmem : ∀ f, f.nm ≠ nmNew → (f ∈ D.crashFs d.fs ks ↔ f ∈ d.fs) := fun f hn => by
    constructor
    · intro hf
      obtain ⟨g, hg, k, rfl⟩ := crashFs_mem hf
      have h1 := (h.whole g hg hn).2
      rw [stays_safe h1 k]
      exact hg
    · intro hf
      exact mem_crashFs hf (h.whole f hf hn).2
  refine ⟨fun f hf hn => ?_, fun f hf => ?_, ?_, ?_, h.room⟩
  · rw [hfs] at hf
    exact h.whole f ((hmem f hn).1 hf) hn
  · rw [hfs] at hf
    obtain ⟨g, hg, k, rfl⟩ := crashFs_mem hf
    have h1 := h.short g hg
    simp only [List.length_take]
    omega
  · rw [hfs, crashFsS_length]
    have : asideN (D.crashFs d.fs ks) = asideN d.fs := asideN_congr ⟨fun ⟨f, hf, hn⟩ => by
      obtain ⟨g, hg, k, rfl⟩ := crashFs_mem hf
      exact ⟨g, hg, hn⟩, fun ⟨f, hf, hn⟩ => by
      obtain ⟨i, hi, rfl⟩ := List.mem_iff_getElem.1 hf
      have hi2 : i < (D.crashFs d.fs ks).length := by rw [crashFsS_length]; exact hi
      refine ⟨_, List.getElem_mem hi2, ?_⟩
      rw [crashFs_names _ _ i hi hi2]
      exact hn⟩
    rw [this]
    exact h.len
  · rw [hfs, ← h.new]
    refine newestS_congr (by rw [← hfs]; exact rising_of hcw) (rising_of hw) fun f hf => hmem f fun e => ?_
    exact hf (readF_new e)

/-- What is behind a cleaning. -/
theorem Inv6.clean {d : Dk} {top : Sn} {n : Nat} (h : Inv6 d top n) (hw : Well d) : ∃ r d', cleanS d top.idx = (r, d') ∧ (r = 0 ∨ r = 32) ∧ Inv6 d' top n := by
  obtain ⟨r, d', e, w', m, -, z, a, b, k, l⟩ := cleanS_mem hw top.idx
  refine ⟨r, d', e, z, ⟨fun f hf hn => h.whole f (a f hf) hn, fun f hf => h.short f (a f hf), l n h.len, ?_, m.trans h.room⟩⟩
  have hn := h.new
  cases ht : newestF d.fs with
  | none =>
    have h1 : newestF d'.fs = none := by
      rw [newest_none] at ht ⊢
      exact fun f hf => ht f (a f hf)
    unfold newestS at hn ⊢
    rw [ht] at hn
    rw [h1]
    exact hn
  | some x =>
    have hx : x = top := by unfold newestS at hn; rw [ht] at hn; exact hn
    subst hx
    have h1 : newestF d'.fs = some x := by
      rw [newest_iff (rising_of hw)] at ht
      rw [newest_iff (rising_of w')]
      obtain ⟨⟨f, hf, h2⟩, h3⟩ := ht
      refine ⟨⟨f, b f hf ?_ fun e => ?_, h2⟩, fun g hg y hy => h3 g (a g hg) y hy⟩
      · obtain ⟨i, h4, h5, -⟩ := readF_some h2
        unfold elder
        rw [h4]
        exact decide_eq_false (by omega)
      · rw [readF_new e] at h2; cases h2
    unfold newestS
    rw [h1]
    rfl

theorem newestS_max {fs : List Fl} (hr : D.Rising fs) {f : Fl} (hf : f ∈ fs) {y : Sn} (hy : readF f = some y) : y.idx ≤ (newestS fs).idx := by
  unfold newestS
  cases h : newestF fs with
  | none =>
    rw [newest_none] at h
    rw [h f hf] at hy; cases hy
  | some x => exact ((newest_iff hr x).1 h).2 f hf y hy

theorem readF_form {x : Sn} (hx : okSn (x.idx, x.term) = true) (hc : x.conf.length < 18446744073709551616) (hb : x.body.length < 18446744073709551616) (s : Nat) : readF ⟨snName x.idx, snBytes x, s⟩ = some x := by
  have h := okSn_iff.1 hx
  simp only at h
  exact readF_of (n := x.idx.toNat) (snIdx_name (by omega) (by omega)) (by omega) (snParse_back hx hc hb)

/-- A put above the newest: what is there behind it. -/
theorem newest_put {d d' : Dk} (hr : D.Rising d.fs) (hr' : D.Rising d'.fs) {x : Sn} (hx : okSn (x.idx, x.term) = true) (hc : x.conf.length < 18446744073709551616) (hb : x.body.length < 18446744073709551616) (ht : (newestS d.fs).idx < x.idx)
    (hm : ∀ f, f ∈ d'.fs ↔ (f ∈ d.fs ∧ f.nm ≠ nmNew ∧ f.nm ≠ snName x.idx) ∨ f = ⟨snName x.idx, snBytes x, (snBytes x).length⟩) : newestF d'.fs = some x := by
  rw [newest_iff hr']
  refine ⟨⟨_, (hm _).2 (.inr rfl), readF_form hx hc hb _⟩, fun f hf y hy => ?_⟩
  rcases (hm f).1 hf with ⟨h1, -, -⟩ | rfl
  · have := newestS_max hr h1 hy
    omega
  · rw [readF_form hx hc hb] at hy
    cases hy
    exact Int.le_refl _

/-- What is behind a put. -/
theorem Inv6.put {d : Dk} {top x : Sn} {n : Nat} (h : Inv6 d top n) (hw : Well d) (hn : n ≤ 60) (hx : okSn (x.idx, x.term) = true) (ht : top.idx < x.idx) (hc : x.conf.length + x.body.length ≤ 1010) :
    ∃ r d', putS d top x = (r, d') ∧ ((r = 0 ∧ Inv6 d' x (n + 1)) ∨ (r = 32 ∧ Inv6 d' top (n + 1))) := by
  have hbl := snBytes_le x
  have hu := h.used
  have hno : hasS top x.idx = false := by unfold hasS; exact decide_eq_false (by omega)
  have hps : putS d top x = writeF d (snName x.idx) (snBytes x) := by
    unfold putS
    rw [if_neg]
    rintro (h | h)
    · rw [hx] at h; cases h
    · rw [hno] at h; cases h
  have hxi := okSn_iff.1 hx
  simp only at hxi
  have hne : snName x.idx ≠ nmNew := new_ne (snIdx_name (by omega) (by omega))
  obtain ⟨r, d', e, w', m, -, c⟩ := writeF_mem hw (nm := snName x.idx) (B := snBytes x) hne (snName_ok _) (by rw [h.room]; omega) h.len (by omega)
  refine ⟨r, d', hps.trans e, ?_⟩
  rcases c with ⟨rfl, c, l⟩ | ⟨rfl, c, c2, l⟩
  · refine .inl ⟨rfl, ⟨fun f hf hn' => ?_, fun f hf => ?_, by omega, ?_, m.trans h.room⟩⟩
    · rcases (c f).1 hf with ⟨h1, h2, -⟩ | rfl
      · exact h.whole f h1 h2
      · exact ⟨by rw [readF_form hx (by omega) (by omega)]; simp, rfl⟩
    · rcases (c f).1 hf with ⟨h1, -, -⟩ | rfl
      · exact h.short f h1
      · simp only; omega
    · unfold newestS
      rw [newest_put (rising_of hw) (rising_of w') hx (by omega) (by omega) (by rw [h.new]; exact ht) c]
      rfl
  · refine .inr ⟨rfl, ⟨fun f hf hn' => h.whole f ((c f hn').1 hf) hn', fun f hf => ?_, by omega, ?_, m.trans h.room⟩⟩
    · by_cases hfn : f.nm = nmNew
      · rcases c2 f hf hfn with h1 | h1
        · rw [h1]; omega
        · exact h.short f h1
      · exact h.short f ((c f hfn).1 hf)
    · rw [← h.new]
      exact newestS_congr (rising_of w') (rising_of hw) fun f hf => c f fun e => hf (readF_new e)
end Go.Proofs.YtbcpcopapbgcdaaGreatDoor.M

/- Part: ShNewPure. -/
namespace Go.Proofs.YtbcpcopapbgcdaaGreatDoor.M
open Go.RowKit
open D (Fl Dk)

/-- Is a file a snapshot's, whole and under its own name? -/
def keptF (f : Fl) : Bool := match snParse f.b with
  | .error _ => false
  | .ok x => f.nm.toList == (snName x.idx).toList

theorem one_of {α : Type} {l : List α} {a : α} (hn : l.Nodup) (h : ∀ x, x ∈ l ↔ x = a) : l.length = 1 := by
  match l, hn, h with
  | [], _, h => exact absurd ((h a).2 rfl) (by simp)
  | [_], _, _ => rfl
  | x :: z :: l, hn, h =>
    have h1 := (h x).1 (by simp)
    have h2 := (h z).1 (by simp)
    rw [h1, h2] at hn
    simp at hn

theorem toList_inj {a b : ByteArray} (h : a.toList = b.toList) : a = b := by
  rw [toList_data1, toList_data1] at h
  exact ByteArray.ext (Array.toList_inj.1 h)

theorem rising_nodup {fs : List Fl} (h : D.Rising fs) : fs.Nodup := by
  refine h.imp fun {a b} hab e => ?_
  rw [e] at hab
  exact D.lt_irrefl' _ hab

/-- What an append leaves as it is, and how much it may add. -/
theorem append_keeps (d : Dk) (s : ByteArray) (bs : List (List UInt8)) : (D.append d s bs).2.room = d.room ∧ (D.append d s bs).2.ends = d.ends ∧ (D.append d s bs).2.fs.length ≤ d.fs.length + 1 := by
  unfold D.append
  split
  · exact ⟨rfl, rfl, Nat.le_succ _⟩
  · simp only
    split
    · exact ⟨tickS_room d, tickS_ends d, by rw [tickS_fs]; exact Nat.le_succ _⟩
    · split
      · exact ⟨tickS_room d, tickS_ends d, by rw [tickS_fs]; exact Nat.le_succ _⟩
      · refine ⟨tickS_room d, tickS_ends d, ?_⟩
        simp only
        unfold D.layAt
        rw [List.length_modify, tickS_fs]
        split
        · exact Nat.le_succ _
        · rw [D.length_add]
          exact Nat.le_refl _

theorem newest_law {d : Dk} (hw : Well d) (he : d.ends = false) (hr : d.room = 100000) (hu : D.used d.fs ≤ 8000) (hl : d.fs.length ≤ 8) {y : Sn} (hy : okSn (y.idx, y.term) = true) (ht : (newestS d.fs).idx < y.idx) (hc : y.conf.length + y.body.length ≤ 1010) :
    ∃ d1 d2, putS d (newestS d.fs) y = (0, d1) ∧ Well d1 ∧ newestS d1.fs = y ∧ cleanS d1 y.idx = (0, d2) ∧ Well d2 ∧ d1.room = 100000 ∧ d2.room = 100000 ∧ (d2.fs.filter keptF).length = 1 := by
  have hbl := snBytes_le y
  have hno : hasS (newestS d.fs) y.idx = false := by unfold hasS; exact decide_eq_false (by omega)
  have hps : putS d (newestS d.fs) y = writeF d (snName y.idx) (snBytes y) := by
    unfold putS
    rw [if_neg]
    rintro (h | h)
    · rw [hy] at h; cases h
    · rw [hno] at h; cases h
  have hyi := okSn_iff.1 hy
  simp only at hyi
  have hix := snIdx_name (i := y.idx) (by omega) (by omega)
  have hne : snName y.idx ≠ nmNew := new_ne hix
  obtain ⟨r, d1, e1, w1, m1, s1, c1⟩ := writeF_mem hw (nm := snName y.idx) (B := snBytes y) hne (snName_ok _) (by rw [hr]; omega) (n := 8) (by omega) (by omega)
  obtain ⟨rfl, t1⟩ := s1 he
  rcases c1 with ⟨-, c1, -⟩ | ⟨h, -⟩
  case inr => omega
  obtain ⟨r2, d2, e2, w2, m2, s2, -, a2, b2, k2, -⟩ := cleanS_mem w1 y.idx
  obtain ⟨rfl, t2⟩ := s2 t1
  refine ⟨d1, d2, hps.trans e1, w1, ?_, e2, w2, m1.trans hr, (m2.trans m1).trans hr, ?_⟩
  · unfold newestS
    rw [newest_put (rising_of hw) (rising_of w1) hy (by omega) (by omega) ht c1]
    rfl
  · refine one_of (a := ⟨snName y.idx, snBytes y, (snBytes y).length⟩) ((rising_nodup (rising_of w2)).filter _) fun f => ?_
    rw [List.mem_filter]
    constructor
    · rintro ⟨h1, h2⟩
      rcases (c1 f).1 (a2 f h1) with ⟨g1, g2, g3⟩ | g
      · exfalso
        unfold keptF at h2
        cases hp : snParse f.b with
        | error c => rw [hp] at h2; cases h2
        | ok x =>
          rw [hp] at h2
          simp only at h2
          have hnm : f.nm = snName x.idx := toList_inj (by simpa using h2)
          have hx := (snParse_inv hp).2
          have hxi := okSn_iff.1 hx
          simp only at hxi
          have hi := snIdx_name (i := x.idx) (by omega) (by omega)
          rw [← hnm] at hi
          have hread := readF_of hi (by omega) hp
          have hmax := newestS_max (rising_of hw) g1 hread
          have hel := (k2 rfl f h1).1
          unfold elder at hel
          rw [hi] at hel
          simp only [decide_eq_false_iff_not] at hel
          omega
      · exact g
    · rintro rfl
      refine ⟨b2 _ ((c1 _).2 (.inr rfl)) ?_ hne, ?_⟩
      · unfold elder
        simp only [hix]
        exact decide_eq_false (by omega)
      · unfold keptF
        simp only [snParse_back hy (by omega) (by omega)]
        simp
end Go.Proofs.YtbcpcopapbgcdaaGreatDoor.M
