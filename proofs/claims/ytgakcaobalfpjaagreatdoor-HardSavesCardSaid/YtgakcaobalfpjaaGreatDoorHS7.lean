/- What stays true of a disk, whatever is done to it. A server's hard state as plain lists: slots as bytes, what is newest, a save. step, back: one bit's step of the register, and one back. feed: a register led on by bytes, half a byte at a time, by the table. More, Of, Fits: sums of pieces. The document's Step and Of. The document's forms read: a number at a place. The document's own reading of shapes: its parts' ends are where pShape leaves off. The document's examples, as law 1's statements begin with them. The document's Right, and the law MouldShapes. Texts of shapes, cut into their parts' texts. The document's parts of a row, and whether forms have a byte. -/
import Derived.Test.YtgakcaobalfpjaaGreatDoorHS6
import Derived.Test.YtgakcaobalfpjaaGreatDoorHS3
import Derived.Test.YtgakcaobalfpjaaGreatDoorHS1
import Derived.IntWalk
import Derived.Laws.BitsAllLaws
import Derived.OwnWalk
import Derived.Test.YtgakcaobalfpjaaGreatDoorHS2
/- Part: DiskWell. -/
namespace Go.Proofs.YtgakcaobalfpjaaGreatDoor.M
open D (Fl Dk)

/-- What is true of a disk from its start. -/
def Well (d : Dk) : Prop := Good d ∧ ∀ f ∈ d.fs, D.okName f.nm = true

theorem ok_size {s : ByteArray} (h : D.okName s = true) : s.size ≤ 32 := by
  unfold D.okName at h
  simp only [Bool.and_eq_true, decide_eq_true_eq] at h
  exact h.2.2

theorem Well.names {d : Dk} (h : Well d) : ∀ f ∈ d.fs, f.nm.size ≤ 9223372036854775807 := fun f hf => by
  have := ok_size (h.2 f hf)
  omega

theorem Well.of {d d' : Dk} (h : Well d) (hr : d'.room = d.room) (hc : d'.calls ≤ 9223372036854775807) (hl : d'.fs.length ≤ 4096) (hu : (D.used d'.fs : Int) ≤ d.room) (hs : D.Rising d'.fs) (he : ∀ f ∈ d'.fs, f.safe ≤ f.b.length ∧ D.okName f.nm = true) : Well d' := by
  obtain ⟨⟨⟨h1, h2, h3, h4, h5⟩, h6, h7⟩, h8⟩ := h
  refine ⟨⟨⟨hl, hc, ?_, by rw [hr]; exact h4, by rw [hr]; exact h5⟩, hs, fun f hf => (he f hf).1⟩, fun f hf => (he f hf).2⟩
  unfold D.Dk.free
  rw [hr]
  omega

theorem Well.used {d : Dk} (h : Well d) : (D.used d.fs : Int) ≤ d.room := by
  have := h.1.1.2.2.1
  unfold D.Dk.free at this
  omega

theorem Well.tick {d : Dk} (h : Well d) : Well d.tick := ⟨h.1.tick, by rw [tick_fs]; exact h.2⟩

theorem fresh_well {n : Int} (h0 : 0 ≤ n) (h1 : n ≤ 9223372036854775807) : Well (fresh n) := by
  refine ⟨⟨⟨by simp [fresh], by simp [fresh], ?_, h0, h1⟩, by simp [fresh, D.Rising], fun f hf => by simp [fresh] at hf⟩, fun f hf => by simp [fresh] at hf⟩
  simp [fresh, D.Dk.free, D.used]; exact h0

theorem stop_well {d : Dk} (h : Well d) {n : Int} (hn : n ≤ 9223372036854775807) : Well (D.stop d n) :=
  h.of rfl (by simp [D.stop]; omega) h.1.1.1 h.used h.1.2.1 fun f hf => ⟨h.1.2.2 f hf, h.2 f hf⟩

theorem append_well {d : Dk} (h : Well d) (s : ByteArray) (bs : List (List UInt8)) : Well (D.append d s bs).2 ∧ D.used (D.append d s bs).2.fs ≤ D.used d.fs + bs.flatten.length := by
  rw [append_eq]
  split
  · exact ⟨h, Nat.le_add_right _ _⟩
  · have ht := h.tick
    rw [show D.used d.fs = D.used d.tick.fs by rw [tick_fs]]
    generalize d.tick = e at ht
    unfold appendB
    split
    · exact ⟨ht, by simp⟩
    · rename_i hok
      have hok : D.okName s = true := by simpa using hok
      split
      · exact ⟨ht, by simp⟩
      · rename_i hf
        have hf1 : (bs.flatten.length : Int) ≤ e.free := by omega
        have hf2 : D.isThere e.fs s = false → e.fs.length < 4096 := fun h1 => by
          rcases Nat.lt_or_ge e.fs.length 4096 with h2 | h2
          · exact h2
          · exact absurd (.inr ⟨h1, h2⟩) hf
        simp only
        obtain ⟨fs, hfs⟩ : ∃ fs, fs = (if D.isThere e.fs s = true then e.fs else D.add e.fs ⟨s, [], 0⟩) := ⟨_, rfl⟩
        have key : D.Rising fs ∧ D.isThere fs s = true ∧ D.used fs = D.used e.fs ∧ fs.length ≤ 4096 ∧ ∀ f ∈ fs, f.safe ≤ f.b.length ∧ D.okName f.nm = true := by
          rw [hfs]
          split
          · rename_i h1
            exact ⟨ht.1.2.1, h1, rfl, ht.1.1.1, fun f hf => ⟨ht.1.2.2 f hf, ht.2 f hf⟩⟩
          · rename_i h1
            have h1 : D.isThere e.fs s = false := by simpa using h1
            refine ⟨ht.1.2.1.add (x := ⟨s, [], 0⟩) (D.isThere_not.1 h1), D.isThere_mem.2 ⟨⟨s, [], 0⟩, D.mem_add.2 (.inl rfl), rfl⟩, by rw [D.used_add]; simp, by rw [D.length_add]; exact hf2 h1, fun f hf => ?_⟩
            rcases D.mem_add.1 hf with rfl | h2
            · exact ⟨Nat.le_refl _, hok⟩
            · exact ⟨ht.1.2.2 f h2, ht.2 f h2⟩
        rw [← hfs]
        obtain ⟨k1, k2, k3, k4, k5⟩ := key
        have hu := used_layAt fs (D.find fs s) bs.flatten (D.find_lt k2)
        refine ⟨ht.of rfl ht.1.1.2.1 ?_ ?_ ?_ fun f hf => ?_, by omega⟩
        · show (D.layAt fs (D.find fs s) bs.flatten).length ≤ 4096
          unfold D.layAt
          simpa using k4
        · show (D.used (D.layAt fs (D.find fs s) bs.flatten) : Int) ≤ e.room
          have := ht.used
          unfold D.Dk.free at hf1
          omega
        · exact k1.of_names (D.names_modify _ _ _ fun _ => rfl)
        · rcases D.mem_modify k1 hf with ⟨h1, _⟩ | ⟨f0, h1, _, rfl⟩
          · exact k5 f h1
          · have := k5 f0 h1
            exact ⟨by simp; omega, this.2⟩

theorem syncF_each (l : List ByteArray) : ∀ fs : List Fl, (∀ f ∈ fs, f.safe ≤ f.b.length ∧ D.okName f.nm = true) → ∀ f ∈ syncF fs l, f.safe ≤ f.b.length ∧ D.okName f.nm = true := by
  induction l with
  | nil => intro fs h; exact h
  | cons s r ih =>
    intro fs h
    refine ih _ fun f hf => ?_
    have hf2 : f ∈ fs.modify (D.find fs s) (fun f => { f with safe := f.b.length }) := hf
    clear hf
    obtain ⟨j, hj, rfl⟩ := List.mem_iff_getElem.1 hf2
    have hj' : j < fs.length := by simpa using hj
    have := h _ (List.getElem_mem hj')
    rw [List.getElem_modify]
    split
    · exact ⟨Nat.le_refl _, this.2⟩
    · exact this

theorem sync_well {d : Dk} (h : Well d) (names : List ByteArray) : Well (D.sync d names).2 ∧ D.used (D.sync d names).2.fs ≤ D.used d.fs := by
  rw [sync_eq]
  split
  · exact ⟨h, Nat.le_refl _⟩
  · have ht := h.tick
    rw [show D.used d.fs = D.used d.tick.fs by rw [tick_fs]]
    generalize d.tick = e at ht
    unfold syncB
    split
    · exact ⟨ht, Nat.le_refl _⟩
    · have hl : (syncF e.fs names).length = e.fs.length := by simpa using congrArg List.length (syncF_names names e.fs)
      have hu := syncF_used names e.fs
      exact ⟨ht.of rfl ht.1.1.2.1 (by show (syncF e.fs names).length ≤ 4096; rw [hl]; exact ht.1.1.1) (by show (D.used (syncF e.fs names) : Int) ≤ _; rw [hu]; exact ht.used) (ht.1.2.1.of_names (syncF_names _ _)) (syncF_each names e.fs fun f hf => ⟨ht.1.2.2 f hf, ht.2 f hf⟩), Nat.le_of_eq hu⟩

theorem removeF_sub (l : List ByteArray) : ∀ fs : List Fl, (removeF fs l).Sublist fs := by
  induction l with
  | nil => intro fs; exact List.Sublist.refl _
  | cons s r ih => intro fs; exact (ih _).trans (List.eraseIdx_sublist ..)

theorem remove_well {d : Dk} (h : Well d) (names : List ByteArray) : Well (D.remove d names).2 ∧ D.used (D.remove d names).2.fs ≤ D.used d.fs := by
  rw [remove_eq]
  split
  · exact ⟨h, Nat.le_refl _⟩
  · have ht := h.tick
    rw [show D.used d.fs = D.used d.tick.fs by rw [tick_fs]]
    generalize d.tick = e at ht
    unfold removeB
    split
    · exact ⟨ht, Nat.le_refl _⟩
    · have hu := removeF_used names e.fs ht.1.2.1
      have hsub := removeF_sub names e.fs
      refine ⟨ht.of rfl ht.1.1.2.1 (Nat.le_trans hsub.length_le ht.1.1.1) ?_ (removeF_rising names e.fs ht.1.2.1) (fun f hf => ⟨ht.1.2.2 f (hsub.mem hf), ht.2 f (hsub.mem hf)⟩), hu⟩
      have := ht.used
      show (D.used (removeF e.fs names) : Int) ≤ _
      omega

theorem cut_well {d : Dk} (h : Well d) (s : ByteArray) (n : Int) : Well (D.cut d s n).2 ∧ D.used (D.cut d s n).2.fs ≤ D.used d.fs := by
  rw [cut_eq]
  split
  · exact ⟨h, Nat.le_refl _⟩
  · have ht := h.tick
    rw [show D.used d.fs = D.used d.tick.fs by rw [tick_fs]]
    generalize d.tick = e at ht
    unfold cutB
    cases hf : e.fs[D.find e.fs s]? with
    | none => exact ⟨ht, Nat.le_refl _⟩
    | some f =>
      simp only
      split
      · exact ⟨ht, Nat.le_refl _⟩
      · rename_i hn
        have hl : D.find e.fs s < e.fs.length := by
          rcases Nat.lt_or_ge (D.find e.fs s) e.fs.length with h1 | h1
          · exact h1
          · rw [List.getElem?_eq_none h1] at hf; cases hf
        have hu := D.used_modify e.fs (D.find e.fs s) (fun f => { f with b := f.b.take n.toNat, safe := min f.safe n.toNat }) hl
        simp only [List.length_take] at hu
        refine ⟨ht.of rfl ht.1.1.2.1 (by simpa using ht.1.1.1) ?_ (ht.1.2.1.of_names (D.names_modify _ _ _ fun _ => rfl)) fun f2 hf2 => ?_, by simp only; omega⟩
        · have := ht.used
          simp only
          omega
        · rcases D.mem_modify ht.1.2.1 hf2 with ⟨h1, _⟩ | ⟨f0, h1, _, rfl⟩
          · exact ⟨ht.1.2.2 f2 h1, ht.2 f2 h1⟩
          · have := ht.1.2.2 f0 h1
            exact ⟨by simp; omega, ht.2 f0 h1⟩

theorem rename_well {d : Dk} (h : Well d) (a b : ByteArray) : Well (D.rename d a b).2 ∧ D.used (D.rename d a b).2.fs ≤ D.used d.fs := by
  rw [rename_eq]
  split
  · exact ⟨h, Nat.le_refl _⟩
  · have ht := h.tick
    rw [show D.used d.fs = D.used d.tick.fs by rw [tick_fs]]
    generalize d.tick = e at ht
    unfold renameB
    split
    · exact ⟨ht, Nat.le_refl _⟩
    · rename_i hn
      have hok : D.okName b = true := by
        cases hb : D.okName b with
        | true => rfl
        | false => exact absurd (.inr hb) hn
      cases hf : e.fs[D.find e.fs a]? with
      | none => exact ⟨ht, Nat.le_refl _⟩
      | some f =>
        simp only
        have hl : D.find e.fs a < e.fs.length := by
          rcases Nat.lt_or_ge (D.find e.fs a) e.fs.length with h1 | h1
          · exact h1
          · rw [List.getElem?_eq_none h1] at hf; cases hf
        have hfe : e.fs[D.find e.fs a] = f := by rw [List.getElem?_eq_getElem hl] at hf; simpa using hf
        have hfm : f ∈ e.fs := by rw [← hfe]; exact List.getElem_mem _
        have hr1 := ht.1.2.1.erase (D.find e.fs a)
        have hr2 := hr1.erase (D.find (e.fs.eraseIdx (D.find e.fs a)) b)
        have hu1 := D.used_erase e.fs _ hl
        rw [hfe] at hu1
        have hu2 := bytesOf_erase hr1 b
        have hlen1 : (e.fs.eraseIdx (D.find e.fs a)).length + 1 = e.fs.length := by rw [List.length_eraseIdx, if_pos hl]; omega
        have hlen2 := List.length_eraseIdx_le (e.fs.eraseIdx (D.find e.fs a)) (D.find (e.fs.eraseIdx (D.find e.fs a)) b)
        have hu : D.used (D.add ((e.fs.eraseIdx (D.find e.fs a)).eraseIdx (D.find (e.fs.eraseIdx (D.find e.fs a)) b)) { f with nm := b }) ≤ D.used e.fs := by
          rw [D.used_add]
          simp only
          omega
        refine ⟨ht.of rfl ht.1.1.2.1 ?_ ?_ (hr2.add (x := { f with nm := b }) fun g hg => ((D.mem_erase hr1).1 hg).2) fun g hg => ?_, hu⟩
        · rw [D.length_add]
          have := ht.1.1.1
          omega
        · have := ht.used
          simp only
          omega
        · rcases D.mem_add.1 hg with rfl | h1
          · exact ⟨ht.1.2.2 f hfm, hok⟩
          · have h2 := List.mem_of_mem_eraseIdx (List.mem_of_mem_eraseIdx h1)
            exact ⟨ht.1.2.2 g h2, ht.2 g h2⟩

theorem crash_well {d : Dk} (h : Well d) (ks : List Int) : Well (D.crash d ks).2 ∧ D.used (D.crash d ks).2.fs ≤ D.used d.fs := by
  have hn := crashTo_names d.fs ks d.fs.length
  rw [crashTo_all] at hn
  have hu : ∀ n, n ≤ d.fs.length → D.used (crashTo d.fs ks n) ≤ D.used d.fs := fun n => by
    induction n with
    | zero => intro _; exact Nat.le_refl _
    | succ n ih =>
      intro hn
      have h1 := crashTo_used d.fs ks h.1.2.2 n (by omega)
      have h2 := ih (by omega)
      omega
  have hu2 := hu d.fs.length (Nat.le_refl _)
  rw [crashTo_all] at hu2
  have hl : (D.crashFs d.fs ks).length = d.fs.length := by simpa using congrArg List.length hn
  refine ⟨h.of rfl h.1.1.2.1 (by show (D.crashFs d.fs ks).length ≤ 4096; rw [hl]; exact h.1.1.1) ?_ (h.1.2.1.of_names hn) fun f hf => ?_, hu2⟩
  · have := h.used
    show (D.used (D.crashFs d.fs ks) : Int) ≤ _
    omega
  · obtain ⟨j, hj, rfl⟩ := List.mem_iff_getElem.1 hf
    have hg := crashFs_getq d.fs ks j
    have hj2 : j < d.fs.length := by rw [← hl]; exact hj
    have hj' : j < (D.crashFs d.fs ks).length := hj
    rw [List.getElem?_eq_getElem hj', List.getElem?_eq_getElem hj2] at hg
    simp only [Option.map_some, Option.some.injEq] at hg
    have hm := List.getElem_mem (l := d.fs) hj2
    have hst := stays_le (h.1.2.2 _ hm) ks[j]?
    show ((D.crashFs d.fs ks)[j]).safe ≤ ((D.crashFs d.fs ks)[j]).b.length ∧ D.okName ((D.crashFs d.fs ks)[j]).nm = true
    rw [hg]
    refine ⟨?_, show D.okName (d.fs[j]).nm = true from h.2 _ hm⟩
    unfold crashG
    simp
    omega
end Go.Proofs.YtgakcaobalfpjaaGreatDoor.M

/- Part: HardPure. -/
namespace Go.Proofs.YtgakcaobalfpjaaGreatDoor.M
open Go.RowKit
open D (Fl Dk)

/-- The bound of numbers in a slot. -/
def top : Nat := 4611686018427387904

/-- May a state follow another one? (A state: its term, its vote.) -/
def follows (s e : Int × Int) : Bool := decide (0 ≤ s.1 ∧ -1 ≤ s.2 ∧ (e.1 < s.1 ∨ (s.1 = e.1 ∧ (s.2 = e.2 ∨ e.2 = -1))))

/-- A count's and a state's form. -/
def stForm (c : Nat) (s : Int × Int) : List UInt8 := num c ++ (num s.1.toNat ++ num (s.2 + 1).toNat)

def four (c : Nat) : List UInt8 := [UInt8.ofNat (c / 16777216), UInt8.ofNat (c / 65536), UInt8.ofNat (c / 256), UInt8.ofNat c]

/-- A slot's bytes. -/
def slotForm (c : Nat) (s : Int × Int) : List UInt8 := four (C.sumOf (stForm c s)) ++ stForm c s

/-- Three numbers at the front. -/
def three (b : List UInt8) : Except Int ((Nat × Nat × Nat) × List UInt8) :=
  match takeNum b with
  | .error e => .error e
  | .ok (x, b1) => match takeNum b1 with
    | .error e => .error e
    | .ok (y, b2) => match takeNum b2 with
      | .error e => .error e
      | .ok (z, b3) => .ok ((x, y, z), b3)

/-- What a slot's bytes say: the count (0: they aren't whole), the state. -/
def slot (b : List UInt8) : Nat × (Int × Int) :=
  if b.length < 4 then (0, (0, 0))
  else if b.take 4 ≠ four (C.sumOf (b.drop 4)) then (0, (0, 0))
  else match three (b.drop 4) with
    | .ok ((x, y, z), []) => if x < top ∧ y < top ∧ z ≤ top then (x, ((y : Int), (z : Int) - 1)) else (0, (0, 0))
    | _ => (0, (0, 0))

def nmH0 : ByteArray := ⟨#[104, 97, 114, 100, 45, 48]⟩
def nmH1 : ByteArray := ⟨#[104, 97, 114, 100, 45, 49]⟩

/-- Which slot is the newest (2: none), its count, the state on a disk. -/
def newest (fs : List Fl) : Nat × Nat × (Int × Int) :=
  if (slot (bytesOf fs nmH0)).1 = 0 ∧ (slot (bytesOf fs nmH1)).1 = 0 then (2, 0, (0, -1))
  else if (slot (bytesOf fs nmH0)).1 < (slot (bytesOf fs nmH1)).1 then (1, (slot (bytesOf fs nmH1)).1, (slot (bytesOf fs nmH1)).2)
  else (0, (slot (bytesOf fs nmH0)).1, (slot (bytesOf fs nmH0)).2)

/-- The slot that is written next. -/
def other (at' : Nat) : ByteArray := if at' = 0 then nmH1 else nmH0

/-- A file anew: away with the old one, the bytes, safe. -/
def saveF (d : Dk) (nm : ByteArray) (b : List UInt8) : Int × Dk :=
  let r := if D.isThere d.fs nm then D.remove d [nm] else (0, d)
  if r.1 ≠ 0 then r
  else
    let a := D.append r.2 nm [b]
    if a.1 ≠ 0 then a else D.sync a.2 [nm]

def save (d : Dk) (has s : Int × Int) : Int × Dk :=
  if follows s has = false ∨ (top : Int) ≤ s.1 ∨ (top : Int) ≤ s.2 then (2, d)
  else if s = has then (0, d)
  else saveF d (other (newest d.fs).1) (slotForm ((newest d.fs).2.1 + 1) s)

theorem takeNum_more {b q : List UInt8} {n : Nat} (h : takeNum b = .ok (n, q)) (r : List UInt8) : takeNum (b ++ r) = .ok (n, q ++ r) := by
  cases b with
  | nil => simp [takeNum] at h
  | cons c b =>
    rw [takeNum] at h
    rw [List.cons_append, takeNum]
    split at h
    · cases h
    · rename_i h1
      split at h
      · cases h
      · rename_i h2
        split at h
        · cases h
        · rename_i h3
          rw [if_neg h1]
          cases h
          have hl : c.toNat ≤ b.length := by omega
          rw [if_neg, if_neg (by rw [List.length_append]; omega), List.take_append_of_le_length hl, List.drop_append_of_le_length hl]
          rintro ⟨h4, h5⟩
          apply h2
          refine ⟨h4, ?_⟩
          cases b with
          | nil => simp at hl; omega
          | cons x b => simpa using h5

theorem three_more {b q : List UInt8} {t : Nat × Nat × Nat} (h : three b = .ok (t, q)) (r : List UInt8) : three (b ++ r) = .ok (t, q ++ r) := by
  unfold three at h ⊢
  cases h1 : takeNum b with
  | error e => rw [h1] at h; cases h
  | ok p =>
    obtain ⟨x, b1⟩ := p
    rw [h1] at h
    simp only at h
    rw [takeNum_more h1 r]
    simp only
    cases h2 : takeNum b1 with
    | error e => rw [h2] at h; cases h
    | ok p =>
      obtain ⟨y, b2⟩ := p
      rw [h2] at h
      simp only at h
      rw [takeNum_more h2 r]
      simp only
      cases h3 : takeNum b2 with
      | error e => rw [h3] at h; cases h
      | ok p =>
        obtain ⟨z, b3⟩ := p
        rw [h3] at h
        simp only at h
        rw [takeNum_more h3 r]
        cases h
        rfl

theorem three_form (x y z : Nat) (r : List UInt8) (hx : x < 18446744073709551616) (hy : y < 18446744073709551616) (hz : z < 18446744073709551616) : three (num x ++ (num y ++ (num z ++ r))) = .ok ((x, y, z), r) := by
  unfold three
  rw [take_num x _ hx]
  simp only
  rw [take_num y _ hy]
  simp only
  rw [take_num z _ hz]

/-- What may stand in a slot. -/
def InSlot (c : Nat) (s : Int × Int) : Prop := c < top ∧ 0 ≤ s.1 ∧ s.1 < (top : Int) ∧ -1 ≤ s.2 ∧ s.2 < (top : Int)

theorem four_length (c : Nat) : (four c).length = 4 := rfl

theorem slotForm_length (c : Nat) (s : Int × Int) : (slotForm c s).length = (stForm c s).length + 4 := by
  unfold slotForm
  rw [List.length_append, four_length]; omega

theorem stForm_le (c : Nat) (s : Int × Int) : (stForm c s).length ≤ 27 := by
  unfold stForm
  have h1 := num_le c
  have h2 := num_le s.1.toNat
  have h3 := num_le (s.2 + 1).toNat
  simp only [List.length_append]
  omega

theorem slotForm_le (c : Nat) (s : Int × Int) : (slotForm c s).length ≤ 31 := by
  have := stForm_le c s
  rw [slotForm_length]; omega

theorem three_st {c : Nat} {s : Int × Int} (h : InSlot c s) : three (stForm c s) = .ok ((c, s.1.toNat, (s.2 + 1).toNat), []) := by
  unfold InSlot top at h
  have := three_form c s.1.toNat (s.2 + 1).toNat [] (by omega) (by omega) (by omega)
  rw [List.append_nil] at this
  exact this

theorem slot_back {c : Nat} {s : Int × Int} (h : InSlot c s) : slot (slotForm c s) = (c, s) := by
  have ht := three_st h
  unfold InSlot at h
  have e4 : (slotForm c s).drop 4 = stForm c s := by
    unfold slotForm
    exact List.drop_left' rfl
  have e5 : (slotForm c s).take 4 = four (C.sumOf (stForm c s)) := by
    unfold slotForm
    exact List.take_left' rfl
  have hl := slotForm_length c s
  unfold slot
  rw [if_neg (by omega), e4, e5, if_neg (by simp), ht]
  simp only
  rw [if_pos (by unfold top at *; omega)]
  obtain ⟨t, v⟩ := s
  simp only at h ⊢
  congr 2
  · omega
  · omega

/-- A beginning of a slot's bytes is not whole. -/
theorem slot_cut {c : Nat} {s : Int × Int} (h : InSlot c s) {m : Nat} (hm : m < (slotForm c s).length) : (slot ((slotForm c s).take m)).1 = 0 := by
  have hl := slotForm_length c s
  have e0 : ((slotForm c s).take m).length = m := by rw [List.length_take]; omega
  unfold slot
  by_cases h4 : m < 4
  · rw [if_pos (by rw [e0]; exact h4)]
  · rw [if_neg (by rw [e0]; exact h4)]
    split
    · rfl
    · have e4 : ((slotForm c s).take m).drop 4 = (stForm c s).take (m - 4) := by
        unfold slotForm
        rw [List.take_append, four_length, List.take_of_length_le (by rw [four_length]; omega)]
        exact List.drop_left' rfl
      rw [e4]
      cases h3 : three ((stForm c s).take (m - 4)) with
      | error e => rfl
      | ok p =>
        obtain ⟨⟨x, y, z⟩, q⟩ := p
        cases q with
        | cons a q => rfl
        | nil =>
          exfalso
          have h5 := three_more h3 ((stForm c s).drop (m - 4))
          rw [List.take_append_drop, three_st h] at h5
          simp only [Except.ok.injEq, Prod.mk.injEq, List.nil_append] at h5
          have := congrArg List.length h5.2
          rw [List.length_drop] at this
          simp at this
          omega
end Go.Proofs.YtgakcaobalfpjaaGreatDoor.M

/- Part: SumStep. -/
namespace Go.Proofs.YtgakcaobalfpjaaGreatDoor.M
open Go.RowKit

theorem and_one (r : Nat) : r &&& 1 = r % 2 := Nat.and_one_is_mod r

theorem u32_and1 (r : Nat) (hr : r < 4294967296) : bits .and .u32 (r : Int) 1 = ((r % 2 : Nat) : Int) := by
  have := u32_and_nat r 1 hr (by decide)
  rw [and_one] at this
  exact this

theorem u32_x (a b : Nat) (ha : a < 4294967296) (hb : b < 4294967296) : bits .xor .u32 (a : Int) (b : Int) = ((a ^^^ b : Nat) : Int) := u32_xor_nat a b ha hb

theorem or_one {x : Nat} (h : x % 2 = 0) : x ||| 1 = x + 1 := by
  have := Nat.two_pow_add_eq_or_of_lt (i := 1) (b := 1) (by decide) (x / 2)
  rw [show 2 ^ 1 * (x / 2) = x from by omega] at this
  exact this.symm

/-- A step back. -/
def bnd (r : Nat) : Nat := if r / 2147483648 = 1 then (2 * (r ^^^ C.poly)) % 4294967296 + 1 else 2 * r

theorem bnd_lt {r : Nat} (h : r < 4294967296) : bnd r < 4294967296 := by
  unfold bnd; split <;> omega

theorem rnd_bnd {r : Nat} (h : r < 4294967296) : C.rnd (bnd r) = r := by
  unfold bnd
  split
  · rename_i h1
    have h2 : (r ^^^ C.poly) < 2147483648 := by
      have e : r ^^^ C.poly = (r - 2147483648) ^^^ (C.poly - 2147483648) := by
        have a1 : r = (r - 2147483648) ^^^ 2147483648 := by
          have := Nat.two_pow_add_eq_or_of_lt (i := 31) (b := r - 2147483648) (by omega) 1
          have h3 : (r - 2147483648) ^^^ 2147483648 = 2 ^ 31 * 1 ||| (r - 2147483648) := by
            apply Nat.eq_of_testBit_eq
            intro i
            rw [Nat.testBit_or, Nat.testBit_xor, show (2147483648 : Nat) = 2 ^ 31 from rfl, Nat.mul_one, Nat.testBit_two_pow]
            by_cases hi : i = 31
            · subst hi
              rw [Nat.testBit_lt_two_pow (by omega)]
              simp
            · simp [show ¬ 31 = i from fun e => hi e.symm]
          rw [h3, ← this]; omega
        have a2 : C.poly = (C.poly - 2147483648) ^^^ 2147483648 := by decide
        rw [show r ^^^ C.poly = ((r - 2147483648) ^^^ 2147483648) ^^^ ((C.poly - 2147483648) ^^^ 2147483648) from by rw [← a1, ← a2], C.xor_swap, Nat.xor_self, Nat.xor_zero]
      rw [e]
      exact Nat.xor_lt_two_pow (n := 31) (by omega) (by decide)
    unfold C.rnd
    rw [if_pos (by omega), show ((2 * (r ^^^ C.poly)) % 4294967296 + 1) / 2 = r ^^^ C.poly from by omega, Nat.xor_assoc, Nat.xor_self, Nat.xor_zero]
  · unfold C.rnd
    rw [if_neg (by omega)]
    omega

end Go.Proofs.YtgakcaobalfpjaaGreatDoor.M

/- Part: SumFeed. -/
namespace Go.Proofs.YtgakcaobalfpjaaGreatDoor.M
open Go.RowKit

def nibT : List Nat := [0, 274646895, 549293790, 820201905, 1098587580, 1361435347, 1640403810, 1905808397, 2197175160, 2460548119, 2722870694, 2987750089, 3280807620, 3553878443, 3811616794, 4084100981]

/-- The table lies in the program's variable. -/
def Tab (w : World) : Prop := 0 < w.heap.size ∧ ∀ k, k < 16 → w.cell? ⟨0, k, none⟩ = some (.int .u32 (nibT.getD k 0 : Nat))

theorem Tab.next {w w' : World} (h : Tab w) (hb : Below w.heap.size w w') : Tab w' :=
  ⟨Nat.lt_of_lt_of_le h.1 hb.size, fun k hk => (hb.cell (p := ⟨0, k, none⟩) h.1).trans (h.2 k hk)⟩

theorem nib_eq : ∀ k : Fin 16, nibT.getD k.1 0 = C.rnds 4 k.1 := by decide

theorem nib_step {x : Nat} (h : x < 4294967296) : x / 16 ^^^ nibT.getD (x % 16) 0 = C.rnds 4 x := by
  rw [nib_eq ⟨x % 16, by omega⟩]
  have e : x = (2 ^ 4 * (x / 16)) ^^^ (x % 16) := by
    have h1 := C.low_high' (x % 16) (x / 16) (by omega)
    rw [Nat.xor_comm, ← h1]; omega
  conv => rhs; rw [e]
  rw [C.rnds_xor, C.rnds_shift]

theorem lead_snoc (r : Nat) (l : List UInt8) (k : Nat) (h : k < l.length) : C.lead r (l.take (k + 1)) = C.step (C.lead r (l.take k)) l[k] := by
  rw [List.take_succ_eq_append_getElem h, C.lead_append]
  rfl

theorem and15 (x : Nat) (h : x < 4294967296) : bits .and .u32 (x : Int) 15 = ((x % 16 : Nat) : Int) := by
  have := u32_and_nat x 15 h (by decide)
  rw [show x &&& 15 = x % 16 from Nat.and_two_pow_sub_one_eq_mod x 4] at this
  exact this

set_option maxRecDepth 20000 in
set_option maxHeartbeats 800000 in
theorem feed_any (r : Nat) (L : List UInt8) (F : Nat → Prop) (v : Value) (w : World) (hr : Hid (r < 4294967296)) (hv : RepB w F L v) (ht : Hid (Tab w)) :
    Calls Tryz.prog 154 #[.int .u32 (r : Int), v] w fun e w' => e = .returned (.int .u32 (C.lead r L : Int)) ∧ w = w' := by
  obtain ⟨a, c, rfl, hl⟩ := hv.slice
  have HV := Lib.hid hv
  clear hv
  go_enter Tryz.func154, Tryz.ntmps154
  go_wp2_with fail
  go_loop [0, 9] (fun x i => ∃ (k : Nat), k ≤ L.length ∧ x = .int .u32 (C.lead r (L.take k) : Int) ∧ i = .int .i64 (k : Int)) (fun _ i => L.length - (intOf i).toNat)
  case atStart => exact ⟨0, Nat.zero_le _, rfl, rfl⟩
  case round =>
    obtain ⟨k, hk, rfl, rfl⟩ := hrel
    by_cases hlt : k < L.length
    · have HS := Lib.hid (lead_snoc r L k hlt)
      have hR : C.lead r (L.take k) < 4294967296 := C.lead_lt _ hr.out
      generalize hRe : C.lead r (L.take k) = R at *
      have hcell : ∃ b off, a = some ⟨b, off, none⟩ ∧ w.cell? ⟨b, off + k, none⟩ = some (.int .u8 (L[k].toNat : Int)) := by
        rcases HV.out with ⟨h, _⟩ | ⟨b, off, c', h, _, _, _, hc⟩
        · rw [h] at hlt; simp at hlt
        · cases h
          exact ⟨b, off, rfl, hc k hlt⟩
      obtain ⟨b, off, rfl, hcell⟩ := hcell
      generalize hbe : L[k] = x at *
      have hkk : (k : Int) < (L.length : Int) := by omega
      have hx := x.toNat_lt
      have hX1 : (R ^^^ x.toNat) < 4294967296 := Nat.xor_lt_two_pow (n := 32) hR (by omega)
      have hX2 : C.rnds 4 (R ^^^ x.toNat) < 4294967296 := C.rnds_lt 4 hX1
      have e1 : bits .xor .u32 (R : Int) (x.toNat : Int) = ((R ^^^ x.toNat : Nat) : Int) := u32_x _ _ hR (by omega)
      have HST : Hid (C.step R x = C.rnds 4 (C.rnds 4 (R ^^^ x.toNat))) := Lib.hid (C.rnds_add 4 4 (R ^^^ x.toNat))
      generalize hXe : R ^^^ x.toNat = X at *
      have e2 := and15 X hX1
      have e3 : bits .xor .u32 ((X : Int) / 16) ((nibT.getD (X % 16) 0 : Nat) : Int) = ((C.rnds 4 X : Nat) : Int) := by
        have := u32_x (X / 16) (nibT.getD (X % 16) 0) (by omega) (by rw [nib_eq ⟨X % 16, by omega⟩]; exact C.rnds_lt 4 (by show X % 16 < _; omega))
        rw [nib_step hX1] at this
        rw [← this]; simp
      have t1 := ht.out.2 (X % 16) (by omega)
      generalize hYe : C.rnds 4 X = Y at *
      have f2 := and15 Y hX2
      have f3 : bits .xor .u32 ((Y : Int) / 16) ((nibT.getD (Y % 16) 0 : Nat) : Int) = ((C.rnds 4 Y : Nat) : Int) := by
        have := u32_x (Y / 16) (nibT.getD (Y % 16) 0) (by omega) (by rw [nib_eq ⟨Y % 16, by omega⟩]; exact C.rnds_lt 4 (by show Y % 16 < _; omega))
        rw [nib_step hX2] at this
        rw [← this]; simp
      have t2 := ht.out.2 (Y % 16) (by omega)
      have hi1 : X % 16 < 16 := by omega
      have hi2 : Y % 16 < 16 := by omega
      generalize hi1e : X % 16 = i1 at *
      generalize hi2e : Y % 16 = i2 at *
      generalize nibT.getD i1 0 = n1 at *
      generalize nibT.getD i2 0 = n2 at *
      have GRe := Lib.hid hRe
      have Gbe := Lib.hid hbe
      have GXe := Lib.hid hXe
      have GYe := Lib.hid hYe
      have Gi1e := Lib.hid hi1e
      have Gi2e := Lib.hid hi2e
      clear hRe hbe hXe hYe hi1e hi2e
      go_wp2_with fail
      go_round
      case rel => exact ⟨k + 1, by omega, by rw [HS.out, HST.out], by go_num⟩
      case measure => simp [intOf]; omega
    · have hkk : ¬ (k : Int) < (L.length : Int) := by omega
      have HL : Hid (L.take k = L) := Lib.hid (List.take_of_length_le (by omega))
      go_wp2_with fail
      go_ret
      exact ⟨by simp [HL.out], rfl⟩
end Go.Proofs.YtgakcaobalfpjaaGreatDoor.M

/- Part: SumMore. -/
namespace Go.Proofs.YtgakcaobalfpjaaGreatDoor.M
open Go.RowKit

/-- The register that stands for a sum, and back. -/
def inv (r : Nat) : Nat := 4294967295 - r

theorem inv_xor {r : Nat} (h : r < 4294967296) : r ^^^ C.ones = inv r := by
  unfold inv
  apply Nat.eq_of_testBit_eq
  intro i
  rw [show 4294967295 - r = 2 ^ 32 - (r + 1) from by omega, Nat.testBit_two_pow_sub_succ h, Nat.testBit_xor, show C.ones = 2 ^ 32 - 1 from rfl, Nat.testBit_two_pow_sub_one]
  by_cases hi : i < 32
  · simp [hi]
  · rw [Nat.testBit_lt_two_pow (Nat.lt_of_lt_of_le h (show 2 ^ 32 ≤ 2 ^ i from Nat.pow_le_pow_right (by omega) (by omega)))]
    simp [hi]

theorem inv_lt (r : Nat) : inv r < 4294967296 := by unfold inv; omega

theorem inv_inv {r : Nat} (h : r < 4294967296) : inv (inv r) = r := by unfold inv; omega

theorem u32_not (r : Nat) (h : r < 4294967296) : bits .xor .u32 IntKind.u32.max (r : Int) = (inv r : Int) := by
  have := u32_x 4294967295 r (by decide) h
  rw [Nat.xor_comm, show (4294967295 : Nat) = C.ones from rfl, inv_xor h] at this
  exact this

def moreOf (s : Nat) (l : List UInt8) : Nat := inv (C.lead (inv s) l)

set_option maxRecDepth 20000 in
set_option maxHeartbeats 800000 in
theorem More_any (s : Nat) (ls : List (List UInt8)) (F : Nat → Prop) (v : Value) (w : World) (hs : Hid (s < 4294967296)) (hv : RepBl w F ls v) (ht : Hid (Tab w)) :
    Calls Tryz.prog 129 #[.int .u32 (s : Int), v] w fun e w' => e = .returned (.int .u32 (moreOf s ls.flatten : Int)) ∧ w = w' := by
  obtain ⟨a, c, rfl, hl⟩ := hv.slice
  have HV := Lib.hid hv
  clear hv
  have e1 := u32_not s hs.out
  go_enter Tryz.func129, Tryz.ntmps129
  go_wp2_with fail
  clear e1
  go_loop [5, 12] (fun x i => ∃ (k : Nat), k ≤ ls.length ∧ x = .int .u32 (C.lead (inv s) (ls.take k).flatten : Int) ∧ i = .int .i64 (k : Int)) (fun _ i => ls.length - (intOf i).toNat)
  case atStart => exact ⟨0, Nat.zero_le _, rfl, rfl⟩
  case round =>
    obtain ⟨k, hk, rfl, rfl⟩ := hrel
    have hR : C.lead (inv s) (ls.take k).flatten < 4294967296 := C.lead_lt _ (inv_lt s)
    by_cases hlt : k < ls.length
    · have HS : Hid (C.lead (inv s) (ls.take (k + 1)).flatten = C.lead (C.lead (inv s) (ls.take k).flatten) ls[k]) := Lib.hid (by rw [flat_snoc ls k hlt, C.lead_append])
      obtain ⟨b, off, u, rfl, -, hcell, hu⟩ := HV.out.elem k hlt
      have hkk : (k : Int) < (ls.length : Int) := by omega
      generalize hRe : C.lead (inv s) (ls.take k).flatten = R at *
      generalize hxe : ls[k] = x at *
      have HU := Lib.hid hu
      have HR := Lib.hid hR
      have GR := Lib.hid hRe
      have GX := Lib.hid hxe
      clear hu hRe hxe hR
      go_wp2_with (go_at_call 154; refine (feed_any R x F _ _ HR HU.out ht).mono ?_; rintro e w' ⟨rfl, rfl⟩)
      go_round
      case rel => exact ⟨k + 1, by omega, by rw [HS.out], by go_num⟩
      case measure => simp [intOf]; omega
    · have hkk : ¬ (k : Int) < (ls.length : Int) := by omega
      have HL : Hid (C.lead (inv s) (ls.take k).flatten = C.lead (inv s) ls.flatten) := Lib.hid (by rw [List.take_of_length_le (by omega)])
      have e2 := u32_not _ hR
      rw [HL.out] at e2
      rw [HL.out]
      go_wp2_with fail
      go_ret
      exact ⟨rfl, rfl⟩

theorem sum_more (l : List UInt8) : moreOf 0 l = C.sumOf l := by
  unfold moreOf C.sumOf
  rw [inv_xor (C.lead_lt _ (by decide))]
  rfl

theorem sum_lt (l : List UInt8) : C.sumOf l < 4294967296 := C.sumOf_lt l

theorem more_sum (a b : List UInt8) : moreOf (C.sumOf a) b = C.sumOf (a ++ b) := by
  unfold moreOf
  have h : inv (C.sumOf a) = C.lead C.ones a := by
    unfold C.sumOf
    rw [inv_xor (C.lead_lt _ (by decide)), inv_inv (C.lead_lt _ (by decide))]
  rw [h, ← C.lead_append, ← inv_xor (C.lead_lt _ (by decide))]
  rfl

theorem Of_any (ls : List (List UInt8)) (F : Nat → Prop) (v : Value) (w : World) (hv : RepBl w F ls v) (ht : Hid (Tab w)) :
    Calls Tryz.prog 106 #[v] w fun e w' => e = .returned (.int .u32 (C.sumOf ls.flatten : Int)) ∧ w = w' := by
  go_enter Tryz.func106, Tryz.ntmps106
  go_wp2_with (go_at_call 129; refine (More_any 0 ls F _ _ (Lib.hid (by decide)) hv ht).mono ?_; rintro e w' ⟨rfl, rfl⟩)
  go_ret
  exact ⟨by simp [sum_more], rfl⟩

theorem int_beq (a b : Nat) : ((a : Int) == (b : Int)) = decide (a = b) := by
  rw [Bool.eq_iff_iff]; simp; omega

theorem Fits_any (s : Nat) (ls : List (List UInt8)) (F : Nat → Prop) (v : Value) (w : World) (hv : RepBl w F ls v) (ht : Hid (Tab w)) :
    Calls Tryz.prog 150 #[.int .u32 (s : Int), v] w fun e w' => e = .returned (.bool (decide (C.sumOf ls.flatten = s))) ∧ w = w' := by
  go_enter Tryz.func150, Tryz.ntmps150
  go_wp2_with (go_at_call 106; refine (Of_any ls F _ _ hv ht).mono ?_; rintro e w' ⟨rfl, rfl⟩)
  go_ret
  exact ⟨by simp [int_beq], rfl⟩
end Go.Proofs.YtgakcaobalfpjaaGreatDoor.M

/- Part: SumRef. -/
namespace Go.Proofs.YtgakcaobalfpjaaGreatDoor.M
open Go.RowKit

theorem rnds_snoc (k r : Nat) : C.rnds (k + 1) r = C.rnd (C.rnds k r) := C.rnds_add 1 k r

theorem u64_x (a b : Nat) (ha : a < 4294967296) (hb : b < 4294967296) : bits .xor .u64 (a : Int) (b : Int) = ((a ^^^ b : Nat) : Int) := u64_xor_nat a b (by omega) (by omega)

set_option maxRecDepth 20000 in
set_option maxHeartbeats 800000 in
theorem Step_any (r : Nat) (c : UInt8) (w : World) (hr : Hid (r < 4294967296)) :
    Calls Tryz.prog 114 #[.int .u64 (r : Int), .int .u8 (c.toNat : Int)] w fun e w' => e = .returned (.int .u64 (C.step r c : Int)) ∧ w = w' := by
  have hc := c.toNat_lt
  have e1 : bits .xor .u64 (r : Int) (c.toNat : Int) = ((r ^^^ c.toNat : Nat) : Int) := u64_x _ _ hr.out (by omega)
  have HX : Hid ((r ^^^ c.toNat) < 4294967296) := Lib.hid (Nat.xor_lt_two_pow (n := 32) hr.out (by omega))
  have HS : Hid (C.step r c = C.rnds 8 (r ^^^ c.toNat)) := Lib.hid rfl
  generalize (r ^^^ c.toNat) = x at *
  go_enter Tryz.func114, Tryz.ntmps114
  go_wp2_with fail
  clear e1
  go_loop [0, 5] (fun y i => ∃ (k : Nat), k ≤ 8 ∧ y = .int .u64 (C.rnds k x : Int) ∧ i = .int .i64 (k : Int)) (fun _ i => 8 - (intOf i).toNat)
  case atStart => exact ⟨0, Nat.zero_le _, rfl, rfl⟩
  case round =>
    obtain ⟨k, hk, rfl, rfl⟩ := hrel
    have hR : C.rnds k x < 4294967296 := C.rnds_lt k HX.out
    have HN := Lib.hid (rnds_snoc k x)
    by_cases hlt : k < 8
    · have hkk : (k : Int) < 8 := by omega
      generalize hRe : C.rnds k x = R at *
      have GR := Lib.hid hRe
      clear hRe
      have hR1 : (R : Int) < 4294967296 := by omega
      have HR := Lib.hid hR
      clear hR
      by_cases hodd : R % 2 = 1
      · have e2 : (R : Int) % 2 = 1 := by omega
        have e3 : bits .xor .u64 ((R : Int) / 2) 2197175160 = (C.rnd R : Int) := by
          have := u64_x (R / 2) C.poly (by have := HR.out; omega) (by decide)
          unfold C.rnd
          rw [if_pos hodd, ← this]
          simp [C.poly]
        have HO := Lib.hid hodd
        clear hodd
        go_wp2_with fail
        go_round
        case rel => exact ⟨k + 1, by omega, by rw [HN.out], by go_num⟩
        case measure => simp [intOf]; omega
      · have e2 : ((R : Int) % 2 == 1) = false := by simp; omega
        have e3 : Hid ((R : Int) / 2 = (C.rnd R : Int)) := Lib.hid (by unfold C.rnd; rw [if_neg hodd]; simp)
        have HO := Lib.hid hodd
        clear hodd
        go_wp2_with fail
        go_round
        case rel => exact ⟨k + 1, by omega, by rw [HN.out, ← e3.out], by go_num⟩
        case measure => simp [intOf]; omega
    · have hkk : ¬ (k : Int) < 8 := by omega
      obtain rfl : k = 8 := by omega
      go_wp2_with fail
      go_ret
      exact ⟨by rw [HS.out]; rfl, rfl⟩

set_option maxRecDepth 20000 in
set_option maxHeartbeats 800000 in
theorem RefOf_any (L : List UInt8) (F : Nat → Prop) (v : Value) (w : World) (hv : RepB w F L v) :
    Calls Tryz.prog 82 #[v] w fun e w' => e = .returned (.int .u32 (C.sumOf L : Int)) ∧ w = w' := by
  obtain ⟨a, c, rfl, hl⟩ := hv.slice
  have HV := Lib.hid hv
  clear hv
  go_enter Tryz.func82, Tryz.ntmps82
  go_wp2_with fail
  go_loop [3, 4] (fun x i => ∃ (k : Nat), k ≤ L.length ∧ x = .int .u64 (C.lead C.ones (L.take k) : Int) ∧ i = .int .i64 (k : Int)) (fun _ i => L.length - (intOf i).toNat)
  case atStart => exact ⟨0, Nat.zero_le _, rfl, rfl⟩
  case round =>
    obtain ⟨k, hk, rfl, rfl⟩ := hrel
    have hR : C.lead C.ones (L.take k) < 4294967296 := C.lead_lt _ (by decide)
    by_cases hlt : k < L.length
    · have HS := Lib.hid (lead_snoc C.ones L k hlt)
      have hcell : ∃ b off, a = some ⟨b, off, none⟩ ∧ w.cell? ⟨b, off + k, none⟩ = some (.int .u8 (L[k].toNat : Int)) := by
        rcases HV.out with ⟨h, _⟩ | ⟨b, off, c', h, _, _, _, hc⟩
        · rw [h] at hlt; simp at hlt
        · cases h
          exact ⟨b, off, rfl, hc k hlt⟩
      obtain ⟨b, off, rfl, hcell⟩ := hcell
      generalize hRe : C.lead C.ones (L.take k) = R at *
      generalize hbe : L[k] = x at *
      have hkk : (k : Int) < (L.length : Int) := by omega
      have HR := Lib.hid hR
      have GR := Lib.hid hRe
      have GX := Lib.hid hbe
      clear hR hRe hbe
      go_wp2_with (go_at_call 114; refine (Step_any R x _ HR).mono ?_; rintro e w' ⟨rfl, rfl⟩)
      go_round
      case rel => exact ⟨k + 1, by omega, by rw [HS.out], by go_num⟩
      case measure => simp [intOf]; omega
    · have hkk : ¬ (k : Int) < (L.length : Int) := by omega
      have e1 : bits .xor .u64 (C.lead C.ones (L.take k) : Int) 4294967295 = (C.sumOf L : Int) := by
        rw [List.take_of_length_le (by omega)] at hR ⊢
        exact u64_x (C.lead C.ones L) C.ones hR (by decide)
      have hs : (C.sumOf L : Int) < 4294967296 := by have := sum_lt L; omega
      generalize C.lead C.ones (L.take k) = R at *
      go_wp2_with fail
      go_ret
      exact ⟨rfl, rfl⟩
end Go.Proofs.YtgakcaobalfpjaaGreatDoor.M

/- Part: Hard3. -/
namespace Go.Proofs.YtgakcaobalfpjaaGreatDoor.M
open Go.RowKit

theorem RepB.elem {w : World} {F : Nat → Prop} {L : List UInt8} {a : Option Addr} {n c : Nat} (h : RepB w F L (.slice a n c)) {i : Nat} (hi : i < L.length) :
    ∃ b off, a = some ⟨b, off, none⟩ ∧ F b ∧ ∀ (j : Nat) (hj : j < L.length), w.cell? ⟨b, off + j, none⟩ = some (.int .u8 (L[j].toNat : Int)) := by
  rcases h with ⟨h, _⟩ | ⟨b, off, c', h, hb, _, _, hc⟩
  · rw [h] at hi; simp at hi
  · cases h
    exact ⟨b, off, rfl, hb, hc⟩

/-- The number of the first so many digits. -/
def nf (R : List UInt8) (i : Nat) : Nat := (R.take i).foldl (fun n d => n * 256 + d.toNat) 0

theorem nf_succ {R : List UInt8} {i : Nat} (h : i < R.length) : nf R (i + 1) = nf R i * 256 + R[i].toNat := by
  unfold nf
  rw [List.take_succ_eq_append_getElem h, List.foldl_append]
  rfl

theorem nf_lt (R : List UInt8) : ∀ i, nf R i < 256 ^ i
  | 0 => by simp [nf]
  | i + 1 => by
    have ih := nf_lt R i
    rcases Nat.lt_or_ge i R.length with h | h
    · rw [nf_succ h, Nat.pow_succ]
      have := R[i].toNat_lt
      omega
    · have e : nf R (i + 1) = nf R i := by
        unfold nf
        rw [List.take_of_length_le h, List.take_of_length_le (by omega)]
      rw [e]
      exact Nat.lt_of_lt_of_le ih (Nat.pow_le_pow_right (by omega) (by omega))

/-- What the reading of a number at a place answers. -/
def numR (L : List UInt8) (k : Nat) : Value :=
  match takeNum (L.drop k) with
  | .error e => .tuple #[.int .u64 0, .int .i64 (k : Int), .int .i64 e]
  | .ok (n, r) => .tuple #[.int .u64 (n : Int), .int .i64 ((L.length - r.length : Nat) : Int), .int .i64 0]

theorem numR_err {L : List UInt8} {k : Nat} {e : Int} (h : takeNum (L.drop k) = .error e) : numR L k = .tuple #[.int .u64 0, .int .i64 (k : Int), .int .i64 e] := by
  unfold numR; rw [h]

theorem numR_ok {L r : List UInt8} {k n : Nat} (h : takeNum (L.drop k) = .ok (n, r)) : numR L k = .tuple #[.int .u64 (n : Int), .int .i64 ((L.length - r.length : Nat) : Int), .int .i64 0] := by
  unfold numR; rw [h]

theorem takeNum_at {L : List UInt8} {k : Nat} (h : k < L.length) : takeNum (L.drop k) = if 8 < L[k].toNat then .error 13
    else if 0 < L[k].toNat ∧ (L.drop (k + 1)).head? = some 0 then .error 13
    else if (L.drop (k + 1)).length < L[k].toNat then .error 11
    else .ok (nf (L.drop (k + 1)) L[k].toNat, (L.drop (k + 1)).drop L[k].toNat) := by
  rw [List.drop_eq_getElem_cons h]
  rfl

set_option maxRecDepth 20000 in
set_option maxHeartbeats 3200000 in
theorem RefNum_any (L : List UInt8) (F : Nat → Prop) (v : Value) (k : Nat) (w : World) (hv : RepB w F L v) (hL : L.length ≤ 1099511627776) (hk : k ≤ L.length) :
    Calls Tryz.prog 118 #[v, .int .i64 (k : Int)] w fun e w' => e = .returned (numR L k) ∧ w = w' := by
  obtain ⟨a, c, rfl, -⟩ := hv.slice
  have HV := Lib.hid hv
  clear hv
  by_cases hlt : k < L.length
  · have hkk : (L.length : Int) ≤ (k : Int) → False := by omega
    have hkd : decide ((L.length : Int) ≤ (k : Int)) = false := by simp; omega
    obtain ⟨b, off, rfl, hFb, hcall⟩ := HV.out.elem hlt
    have hcb := hcall k hlt
    have hat := takeNum_at hlt
    obtain ⟨s, hs⟩ : ∃ s, s = L[k].toNat := ⟨_, rfl⟩
    obtain ⟨R, hR⟩ : ∃ R, R = L.drop (k + 1) := ⟨_, rfl⟩
    rw [← hs, ← hR] at hat
    rw [← hs] at hcb
    have HRL : Hid (R.length + (k + 1) = L.length) := Lib.hid (by rw [hR, List.length_drop]; omega)
    have HCR : Hid (∀ (i : Nat) (h : i < R.length), w.cell? ⟨b, off + (k + 1 + i), none⟩ = some (.int .u8 (R[i].toNat : Int))) := Lib.hid fun i h => by
      rw [hcall (k + 1 + i) (by have := HRL.out; omega)]
      simp only [hR, List.getElem_drop]
    have hs8 : s < 256 := by rw [hs]; exact L[k].toNat_lt
    have HAT := Lib.hid hat
    have hLi : (L.length : Int) ≤ 1099511627776 := by omega
    have hki : (k : Int) < (L.length : Int) := by omega
    clear hs hR hat hkk hcall
    by_cases h8 : 8 < s
    · have HE : Hid (numR L k = _) := Lib.hid (numR_err (by rw [HAT.out, if_pos h8]))
      have q1 : (8 : Int) < (s : Int) := by omega
      clear h8
      go_enter Tryz.func118, Tryz.ntmps118
      go_wp2_with fail
      go_ret3
      exact ⟨by rw [HE.out]; rfl, rfl⟩
    · have q1 : decide ((8 : Int) < (s : Int)) = false := by simp; omega
      have H8 : Hid (¬ 8 < s) := Lib.hid h8
      have hs9 : s ≤ 8 := by omega
      clear h8
      go_enter Tryz.func118, Tryz.ntmps118
      go_wp2_with fail
      go_loop [8, 9] (fun n i => ∃ j m : Nat, j ≤ s ∧ j ≤ R.length ∧ i = .int .i64 (j : Int) ∧ n = .int .u64 (m : Int) ∧ Hid (m = nf R j) ∧ Hid (0 < j → R.head? ≠ some 0)) (fun _ i => s - (intOf i).toNat)
      case atStart => exact ⟨0, 0, Nat.zero_le _, Nat.zero_le _, rfl, rfl, Lib.hid rfl, Lib.hid fun h => by omega⟩
      case round =>
        obtain ⟨j, m, hj, hjR, rfl, rfl, HM, HH⟩ := hrel
        by_cases hjs : j < s
        · have q2 : (j : Int) < (s : Int) := by omega
          by_cases hjl : j < R.length
          · have q3 : decide ((L.length : Int) ≤ (k : Int) + 1 + (j : Int)) = false := by have := HRL.out; simp; omega
            have hcj := HCR.out j hjl
            obtain ⟨x, hx⟩ : ∃ x, x = R[j] := ⟨_, rfl⟩
            rw [← hx] at hcj
            have HX := Lib.hid hx
            have hx8 : x.toNat < 256 := x.toNat_lt
            have hm8 : (m : Int) < 72057594037927936 := by
              have h1 := nf_lt R j
              rw [← HM.out] at h1
              have h2 : 256 ^ j ≤ 256 ^ 7 := Nat.pow_le_pow_right (by omega) (by omega)
              omega
            have hil : (k : Int) + 1 + (j : Int) < (L.length : Int) := by have := HRL.out; omega
            have HN : Hid (256 * m + x.toNat = nf R (j + 1)) := Lib.hid (by rw [nf_succ hjl, ← HM.out, ← HX.out]; omega)
            clear hx
            by_cases hj0 : j = 0
            · have HJ0 := Lib.hid hj0
              have q4 : ((j : Int) == 0) = true := by simp [hj0]
              have hc0 : w.cell? ⟨b, off + (k + 1), none⟩ = some (.int .u8 (x.toNat : Int)) := by
                have h1 := hcj
                rw [hj0] at h1
                exact h1
              have hil0 : (k : Int) + 1 < (L.length : Int) := by omega
              clear hj0
              by_cases hx0 : x.toNat = 0
              · have HE : Hid (numR L k = _) := Lib.hid (numR_err (e := 13) (by
                  rw [HAT.out, if_neg H8.out, if_pos]
                  refine ⟨by omega, ?_⟩
                  have h1 : 0 < R.length := by omega
                  rw [List.head?_eq_getElem?, List.getElem?_eq_getElem h1]
                  have h2 := HX.out
                  simp only [HJ0.out] at h2
                  rw [← h2]
                  exact congrArg some (UInt8.toNat_inj.1 (by rw [hx0]; rfl))))
                have q5 : ((x.toNat : Int) == 0) = true := by simp [hx0]
                clear hx0
                go_wp2_with fail
                go_ret3
                exact ⟨by rw [HE.out]; rfl, rfl⟩
              · have q5 : ((x.toNat : Int) == 0) = false := beq_eq_false_iff_ne.2 (by omega)
                have HH2 : Hid (0 < j + 1 → R.head? ≠ some 0) := Lib.hid fun _ h => by
                  have h1 : 0 < R.length := by omega
                  rw [List.head?_eq_getElem?, List.getElem?_eq_getElem h1] at h
                  have h2 := HX.out
                  simp only [HJ0.out] at h2
                  rw [← h2] at h
                  cases h
                  exact hx0 rfl
                have HX0 := Lib.hid hx0
                clear hx0
                go_wp2_with fail
                go_round
                case rel => exact ⟨j + 1, 256 * m + x.toNat, by omega, by omega, by go_num, by go_num, HN, HH2⟩
                case measure => simp [intOf]; omega
            · have q4 : ((j : Int) == 0) = false := beq_eq_false_iff_ne.2 (by omega)
              have HH2 : Hid (0 < j + 1 → R.head? ≠ some 0) := Lib.hid fun _ => HH.out (by omega)
              clear hj0
              go_wp2_with fail
              go_round
              case rel => exact ⟨j + 1, 256 * m + x.toNat, by omega, by omega, by go_num, by go_num, HN, HH2⟩
              case measure => simp [intOf]; omega
          · have q3 : (L.length : Int) ≤ (k : Int) + 1 + (j : Int) := by have := HRL.out; omega
            have HE : Hid (numR L k = _) := Lib.hid (numR_err (e := 11) (by
              rw [HAT.out, if_neg H8.out, if_neg, if_pos (by omega)]
              rintro ⟨h1, h2⟩
              rcases Nat.eq_zero_or_pos j with h3 | h3
              · have h4 : R = [] := List.length_eq_zero_iff.1 (by omega)
                rw [h4] at h2; simp at h2
              · exact HH.out h3 h2))
            clear hjl
            go_wp2_with fail
            go_ret3
            exact ⟨by rw [HE.out]; rfl, rfl⟩
        · have q2 : decide ((j : Int) < (s : Int)) = false := by simp; omega
          obtain rfl : j = s := by omega
          have HE : Hid (numR L k = .tuple #[.int .u64 (m : Int), .int .i64 ((k : Int) + 1 + (j : Int)), .int .i64 0]) := Lib.hid (by
            rw [numR_ok (n := m) (r := R.drop j) (by
              rw [HAT.out, if_neg H8.out, if_neg, if_neg (by omega), HM.out]
              rintro ⟨h1, h2⟩
              exact HH.out h1 h2)]
            have e : ((L.length - (R.drop j).length : Nat) : Int) = (k : Int) + 1 + (j : Int) := by
              rw [List.length_drop]
              have := HRL.out
              omega
            rw [e])
          clear hjs
          go_wp2_with fail
          go_ret3
          exact ⟨by rw [HE.out]; rfl, rfl⟩
  · obtain rfl : k = L.length := by omega
    have HE : Hid (numR L L.length = _) := Lib.hid (numR_err (e := 11) (by rw [List.drop_length]; rfl))
    clear hlt hk
    go_enter Tryz.func118, Tryz.ntmps118
    go_wp2_with fail
    go_ret3
    exact ⟨by rw [HE.out]; rfl, rfl⟩
end Go.Proofs.YtgakcaobalfpjaaGreatDoor.M

/- Part: RefEnd. -/
namespace Go.Proofs.YtgakcaobalfpjaaGreatDoor.M
open Go.RowKit

def EndPost (s : ByteArray) (w : World) (r : Option (List UInt8)) (e : Ending) (w' : World) : Prop :=
  w = w' ∧ match r with
  | none => e = .returned (.int .i64 (-1))
  | some rest => ∃ k : Nat, e = .returned (.int .i64 (k : Int)) ∧ k ≤ s.size ∧ rest = s.data.toList.drop k

def EndSaid (d : Nat) : Prop := ∀ (s : ByteArray) (k : Nat) (a nest : Int) (w : World), a = (k : Int) → s.size ≤ 64 → k ≤ s.size → nest = 9 - (d : Int) → d ≤ 9 →
  Calls Tryz.prog 145 #[.string s, .int .i64 a, .int .i64 nest] w (EndPost s w ((pShape d (s.data.toList.drop k)).map (·.2)))

/-- The state at the head of the loop over a row's parts. -/
def EndAt (s : ByteArray) (k d k1 : Nat) : Prop :=
  ∃ l : List Sh, k + 1 ≤ k1 ∧ k1 ≤ s.size ∧ l.length ≤ k1 - (k + 1) ∧
    pRow (pShape d) (s.size - (k + 1) + 1) (s.data.toList.drop (k + 1)) = cat l (pRow (pShape d) (s.size - (k + 1) + 1 - l.length) (s.data.toList.drop k1))

theorem ret_cast {a b : Int} (h : a = b) : Ending.returned (.int .i64 a) = .returned (.int .i64 b) := by rw [h]

theorem end_out {d k : Nat} {s : ByteArray} {nest : Int} {w : World} (hs : s.size ≤ 64) (hk : k ≤ s.size) (hn : nest = 9 - (d : Int)) (h : ¬ k < s.size ∨ d = 0) :
    Calls Tryz.prog 145 #[.string s, .int .i64 (k : Int), .int .i64 nest] w (EndPost s w ((pShape d (s.data.toList.drop k)).map (·.2))) := by
  have HP : Hid (pShape d (s.data.toList.drop k) = none) := Lib.hid (by
    rcases h with h | h
    · rw [List.drop_eq_nil_of_le (by simp; omega), pShape_end]
    · subst h; simp [pShape])
  by_cases hk2 : k < s.size
  · have hn1 : 8 < nest := by omega
    have hlt : ¬ (s.size : Int) ≤ (k : Int) := by omega
    clear hn h
    go_enter Tryz.func145, Tryz.ntmps145
    go_wp2
    go_ret
    rw [HP.out]
    exact ⟨rfl, rfl⟩
  · have hlt : (s.size : Int) ≤ (k : Int) := by omega
    clear hn h
    go_enter Tryz.func145, Tryz.ntmps145
    go_wp2
    all_goals
      go_ret
      rw [HP.out]
      exact ⟨rfl, rfl⟩

set_option maxRecDepth 20000 in
set_option maxHeartbeats 800000 in
theorem end_of {d : Nat} (hp : EndSaid d) : EndSaid (d + 1) := by
  rintro s k _ nest w rfl hs hk hn hd
  by_cases hk2 : k < s.size
  · have HC : Hid (s.data.toList.drop k = s[k] :: s.data.toList.drop (k + 1)) := Lib.hid (drop_cons s k hk2)
    have hn1 : nest ≤ 8 := by omega
    have hn0 : 0 ≤ nest := by omega
    have Hn := Lib.hid hn
    have HP : Hid (EndSaid d) := Lib.hid hp
    have HLn : Hid ((s.data.toList.drop (k + 1)).length = s.size - (k + 1)) := Lib.hid (by simp)
    have hlt : ¬ (s.size : Int) ≤ (k : Int) := by omega
    clear hn hp
    go_enter Tryz.func145, Tryz.ntmps145
    go_wp2_with fail
    · have ht : (s[k].toNat : Int) = 110 := by simpa using ‹((s[k].toNat : Int) == 110) = true›
      go_ret
      rw [HC.out, pShape_cons, ht]
      exact ⟨rfl, k + 1, ret_cast rfl, by omega, rfl⟩
    · have ht : (s[k].toNat : Int) = 98 := by simpa using ‹((s[k].toNat : Int) == 98) = true›
      go_ret
      rw [HC.out, pShape_cons, ht]
      exact ⟨rfl, k + 1, ret_cast rfl, by omega, rfl⟩
    · have HT : Hid ((s[k].toNat : Int) = 42) := Lib.hid (by simpa using ‹((s[k].toNat : Int) == 42) = true›)
      refine (HP.out s (k + 1) _ (nest + 1) _ (by omega) hs (by omega) (by rw [Hn.out]; omega) (by omega)).mono ?_
      rintro e1 w1 ⟨rfl, hr⟩
      have HR : Hid (EndPost s w (((pShape d (s.data.toList.drop (k + 1))).map fun x => (Sh.list x.1, x.2)).map (·.2)) e1 w) := Lib.hid ⟨rfl, by
        cases hq : pShape d (s.data.toList.drop (k + 1)) with
        | none => rw [hq] at hr; exact hr
        | some x => rw [hq] at hr; exact hr⟩
      obtain ⟨n, rfl⟩ : ∃ n : Int, e1 = .returned (.int .i64 n) := by
        cases hq : pShape d (s.data.toList.drop (k + 1)) with
        | none => rw [hq] at hr; exact ⟨_, hr⟩
        | some x => rw [hq] at hr; obtain ⟨n, h, _⟩ := hr; exact ⟨_, h⟩
      clear hr
      go_wp2_with fail
      go_ret
      rw [HC.out, pShape_cons, HT.out]
      exact HR.out
    · have HT : Hid ((s[k].toNat : Int) = 91) := Lib.hid (by simpa using ‹((s[k].toNat : Int) == 91) = true›)
      go_loop [1] (fun i => ∃ k1 : Nat, i = .int .i64 (k1 : Int) ∧ EndAt s k d k1) (fun i => s.size - (intOf i).toNat)
      case atStart => exact ⟨k + 1, by go_num, [], by omega, by omega, by simp, cat_nil _⟩
      case round =>
        obtain ⟨k1, rfl, l, hk3, hk4, hl, hsp⟩ := hrel
        have HS := Lib.hid hsp
        clear hsp
        by_cases hk5 : k1 < s.size
        · have HD : Hid (s.data.toList.drop k1 = s[k1] :: s.data.toList.drop (k1 + 1)) := Lib.hid (drop_cons s k1 hk5)
          have e93 := byte_lit s[k1] 93 (by decide)
          simp only [Int.cast_ofNat_Int] at e93
          by_cases h93 : (((s[k1].toNat : Int) != 93) = true)
          · have hb9 : s[k1] ≠ 93 := by
              intro h; rw [h] at h93; simp at h93
            clear e93
            go_wp2_with fail
            refine (HP.out s k1 _ (nest + 1) _ rfl hs (by omega) (by rw [Hn.out]; omega) (by omega)).mono ?_
            rintro e1 w1 ⟨rfl, hr⟩
            cases hq : pShape d (s.data.toList.drop k1) with
            | none =>
              rw [hq] at hr
              replace hr : e1 = .returned (.int .i64 (-1)) := hr
              subst hr
              have Hq := Lib.hid hq
              clear hq
              go_wp2_with fail
              go_ret
              have Hq1 := Hq.out
              rw [HD.out] at Hq1
              refine ⟨rfl, ?_⟩
              rw [HC.out, pShape_cons, HT.out]
              simp only [Int.reduceBEq, Bool.false_eq_true, if_false, if_true]
              rw [HLn.out, HS.out, HD.out, show s.size - (k + 1) + 1 - l.length = (s.size - (k + 1) - l.length) + 1 from by omega, cat_fails hb9 Hq1]
              rfl
            | some x =>
              obtain ⟨sh, rest⟩ := x
              rw [hq] at hr
              obtain ⟨k2, rfl, hk6, hrest⟩ := hr
              replace hrest : rest = s.data.toList.drop k2 := hrest
              have hlt2 : ¬ ((k2 : Nat) : Int) < 0 := by omega
              have hk7 : k1 < k2 := by
                have := pShape_less _ _ _ _ hq
                rw [hrest] at this
                simp at this
                omega
              have HE : Hid (EndAt s k d k2) := Lib.hid (by
                refine ⟨l ++ [sh], by omega, hk6, by simp; omega, ?_⟩
                have hq2 := hq
                rw [HD.out] at hq2
                rw [HS.out, HD.out, show s.size - (k + 1) + 1 - l.length = (s.size - (k + 1) - l.length) + 1 from by omega, cat_step hb9 hq2, hrest]
                simp [Nat.sub_sub])
              clear hq hrest
              go_wp2_with fail
              go_round
              case rel => exact ⟨k2, rfl, HE.out⟩
              case measure => simp [intOf]; omega
          · have hb9 : s[k1] = 93 := by
              have h : ((s[k1].toNat : Int) == 93) = true := by simpa using h93
              rw [e93] at h
              simpa using h
            have HB := Lib.hid hb9
            clear hb9 e93
            go_wp2_with fail
            go_ret
            refine ⟨rfl, ?_⟩
            rw [HC.out, pShape_cons, HT.out]
            simp only [Int.reduceBEq, Bool.false_eq_true, if_false, if_true]
            rw [HLn.out, HS.out, HD.out, show s.size - (k + 1) + 1 - l.length = (s.size - (k + 1) - l.length) + 1 from by omega, HB.out, cat_ends]
            exact ⟨k1 + 1, ret_cast (by omega), by omega, rfl⟩
        · have HD : Hid (s.data.toList.drop k1 = []) := Lib.hid (List.drop_eq_nil_of_le (by simp; omega))
          have hlt3 : ¬ (k1 : Int) < (s.size : Int) := by omega
          go_wp2_with fail
          go_ret
          refine ⟨rfl, ?_⟩
          rw [HC.out, pShape_cons, HT.out]
          simp only [Int.reduceBEq, Bool.false_eq_true, if_false, if_true]
          rw [HLn.out, HS.out, HD.out, cat_short]
          rfl
    · have h1 : ((s[k].toNat : Int) == 110) = false := by assumption
      have h2 : ((s[k].toNat : Int) == 98) = false := by assumption
      have h3 : ((s[k].toNat : Int) == 42) = false := by assumption
      have h4 : ((s[k].toNat : Int) == 91) = false := by assumption
      go_ret
      rw [HC.out, pShape_cons, h1, h2, h3, h4]
      exact ⟨rfl, rfl⟩
  · exact end_out hs hk hn (.inl hk2)

theorem ends : ∀ d, EndSaid d
  | 0 => by
    rintro s k _ nest w rfl hs hk hn hd
    exact end_out hs hk hn (.inr rfl)
  | d + 1 => end_of (ends d)
end Go.Proofs.YtgakcaobalfpjaaGreatDoor.M

/- Part: Awake1. -/
namespace Go.Proofs.YtgakcaobalfpjaaGreatDoor.M
open Go.RowKit

theorem ex1 : putAll [110] [.mk 258 [] []] = .ok [2, 1, 2] := by kernel_rfl
theorem ex2 : putAll [91, 110, 98, 93] [.mk 0 [] [.mk 7 [] [], .mk 0 [] []]] = .ok [1, 7, 0] := by kernel_rfl
theorem ex3 : takeAt [110] [2, 0, 1] = .error 13 := by kernel_rfl
theorem ex4 : takeAt [42, 110] [1, 2, 1, 1, 0] = .ok (.mk 0 [] [.mk 1 [] [], .mk 0 [] []]) := by kernel_rfl
theorem ex5 : (shape [91, 93]).isSome = true := by kernel_rfl
theorem ex6 : (shape [42]).isSome = false := by kernel_rfl

theorem RepT.one {w : World} {s : ByteArray} {t : TypeId} {g : Nat} (hg : g = w.heap.size) (hs : s.size ≤ 9223372036854775807) :
    RepT (w.alloc (.cells #[.string s] t)) [s] (.slice (some ⟨g, 0, none⟩) 1 1) := by
  subst hg
  refine ⟨_, 1, rfl, by simp, fun i hi => ?_⟩
  obtain rfl : i = 0 := by simpa using hi
  exact ⟨w.heap.size, 0, rfl, cell_of_row _ w.heap.size 0 _ t _ (heap_alloc_new w (.cells #[.string s] t)), hs⟩

end Go.Proofs.YtgakcaobalfpjaaGreatDoor.M

/- Part: RefRight. -/
namespace Go.Proofs.YtgakcaobalfpjaaGreatDoor.M
open Go.RowKit

theorem shape_len {t : List UInt8} {s : Sh} (h : shape t = some s) : 0 < t.length ∧ t.length ≤ 64 ∧ pShape 9 t = some (s, []) := by
  unfold shape at h
  split at h
  · cases h
  · split at h
    · rename_i s' hq
      cases h
      have := pShape_less _ _ _ _ hq
      simp at this
      exact ⟨by omega, by omega, hq⟩
    · cases h

theorem RepT.nil (w : World) : RepT w [] (.slice none 0 0) := ⟨none, 0, rfl, by simp, fun i hi => by simp at hi⟩

theorem RepT.two {w : World} {s r : ByteArray} {t : TypeId} {g : Nat} (hg : g = w.heap.size) (hs : s.size ≤ 9223372036854775807) (hr : r.size ≤ 9223372036854775807) :
    RepT (w.alloc (.cells #[.string s, .string r] t)) [s, r] (.slice (some ⟨g, 0, none⟩) 2 2) := by
  subst hg
  refine ⟨_, 2, rfl, by simp, fun i hi => ?_⟩
  have h2 : i < 2 := by simpa using hi
  have hc := fun j => cell_of_row _ w.heap.size j _ t _ (heap_alloc_new w (.cells #[.string s, .string r] t))
  obtain rfl | rfl : i = 0 ∨ i = 1 := by omega
  · exact ⟨w.heap.size, 0, rfl, hc 0, hs⟩
  · exact ⟨w.heap.size, 0, rfl, hc 1, hr⟩

end Go.Proofs.YtgakcaobalfpjaaGreatDoor.M

/- Part: ShapeText. -/
namespace Go.Proofs.YtgakcaobalfpjaaGreatDoor.M

/-- A text that is read as just this shape, whatever stands behind it. -/
def Exact (d : Nat) (t : List UInt8) (sh : Sh) : Prop := ∀ r, pShape d (t ++ r) = some (sh, r)

/-- The texts of a row's parts. -/
def Fits (d : Nat) : List (List UInt8) → List Sh → Prop
  | [], l => l = []
  | t :: ts, l => ∃ s l', l = s :: l' ∧ Exact d t s ∧ Fits d ts l'

theorem Exact.head {d : Nat} {t : List UInt8} {sh : Sh} (h : Exact d t sh) : ∃ c t', t = c :: t' ∧ c ≠ 93 := by
  cases d with
  | zero => have := h []; simp [pShape] at this
  | succ d =>
    cases t with
    | nil => have := h []; simp [pShape] at this
    | cons c t =>
      refine ⟨c, t, rfl, ?_⟩
      rintro rfl
      have := h []
      simp [pShape] at this

theorem pRow_fits {d : Nat} : ∀ (ts : List (List UInt8)) (l : List Sh) (k : Nat) (r : List UInt8), Fits d ts l → ts.length < k → pRow (pShape d) k (ts.flatten ++ 93 :: r) = some (l, r)
  | [], l, 0, r, h, hk => by simp at hk
  | [], l, k + 1, r, h, _ => by rw [show l = [] from h]; simp [pRow]
  | t :: ts, l, 0, r, h, hk => by simp at hk
  | t :: ts, l, k + 1, r, ⟨s, l', hl, ht, hf⟩, hk => by
    obtain ⟨c, t', rfl, hc⟩ := ht.head
    have h1 := ht (ts.flatten ++ 93 :: r)
    have h2 := pRow_fits ts l' k r hf (by simpa using hk)
    rw [List.flatten_cons, List.append_assoc, List.cons_append]
    rw [List.cons_append] at h1
    rw [pRow, if_neg hc, h1]
    simp only [h2, hl]

theorem Fits.length {d : Nat} : ∀ {ts : List (List UInt8)} {l : List Sh}, Fits d ts l → ts.length = l.length ∧ ts.length ≤ ts.flatten.length
  | [], l, h => by rw [show l = [] from h]; simp
  | t :: ts, l, ⟨s, l', hl, ht, hf⟩ => by
    obtain ⟨c, t', rfl, _⟩ := ht.head
    have := hf.length
    rw [hl, List.flatten_cons, List.length_append]
    simp only [List.length_cons]
    omega

theorem Exact.row {d : Nat} {ts : List (List UInt8)} {l : List Sh} (h : Fits d ts l) : Exact (d + 1) (91 :: ts.flatten ++ [93]) (.row l) := by
  intro r
  rw [show (91 :: ts.flatten ++ [93]) ++ r = 91 :: (ts.flatten ++ 93 :: r) from by simp]
  have := pRow_fits ts l ((ts.flatten ++ 93 :: r).length + 1) r h (by have := h.length; rw [List.length_append]; omega)
  rw [pShape, if_neg (by decide), if_neg (by decide), if_neg (by decide), if_pos rfl, this]

theorem fits_of {d : Nat} (hp : ∀ b s r, pShape d b = some (s, r) → ∃ t, b = t ++ r ∧ Exact d t s) : ∀ (k : Nat) (b : List UInt8) (l : List Sh) (r : List UInt8), pRow (pShape d) k b = some (l, r) →
    ∃ ts, b = ts.flatten ++ 93 :: r ∧ Fits d ts l
  | 0, b, l, r, h => by simp [pRow] at h
  | k + 1, [], l, r, h => by simp [pRow] at h
  | k + 1, c :: b, l, r, h => by
    rw [pRow] at h
    split at h
    · rename_i hc
      simp at h
      exact ⟨[], by simp [hc, h.2], by unfold Fits; exact (by first | exact h.1 | exact h.1.symm)⟩
    · split at h
      · simp at h
      · rename_i s r' h1
        split at h
        · simp at h
        · rename_i l' r'' h2
          simp at h
          obtain ⟨t, ht, he⟩ := hp _ _ _ h1
          obtain ⟨ts, hts, hf⟩ := fits_of hp k _ _ _ h2
          refine ⟨t :: ts, ?_, s, l', h.1.symm, he, hf⟩
          rw [ht, hts, ← h.2]
          simp

theorem exact_of : ∀ (d : Nat) (b : List UInt8) (s : Sh) (r : List UInt8), pShape d b = some (s, r) → ∃ t, b = t ++ r ∧ Exact d t s
  | 0, b, s, r, h => by simp [pShape] at h
  | d + 1, [], s, r, h => by simp [pShape] at h
  | d + 1, c :: b, s, r, h => by
    rw [pShape] at h
    split at h
    · rename_i hc
      simp at h
      exact ⟨[c], by simp [h.2], fun r => by simp [pShape, hc, h.1]⟩
    split at h
    · rename_i hc
      simp at h
      exact ⟨[c], by simp [h.2], fun r => by simp [pShape, hc, h.1]⟩
    split at h
    · rename_i hc
      split at h
      · simp at h
      · rename_i s' r' h1
        simp at h
        obtain ⟨t, ht, he⟩ := exact_of d _ _ _ h1
        exact ⟨c :: t, by rw [ht, h.2]; rfl, fun r => by simp [pShape, hc, he r, h.1]⟩
    split at h
    · rename_i hc
      split at h
      · simp at h
      · rename_i l' r' h1
        simp at h
        obtain ⟨ts, hts, hf⟩ := fits_of (exact_of d) _ _ _ _ h1
        refine ⟨91 :: ts.flatten ++ [93], by rw [hts, ← h.2, hc]; simp, ?_⟩
        rw [← h.1]
        exact Exact.row hf
    · simp at h

theorem pRow_up {p q : List UInt8 → Option (Sh × List UInt8)} (h : ∀ b x, p b = some x → q b = some x) : ∀ (k : Nat) (b : List UInt8) (x : List Sh × List UInt8), pRow p k b = some x → pRow q k b = some x
  | 0, b, x, e => by simp [pRow] at e
  | k + 1, [], x, e => by simp [pRow] at e
  | k + 1, c :: b, x, e => by
    rw [pRow] at e ⊢
    split at e
    · rename_i hc; rw [if_pos hc]; exact e
    · rename_i hc
      rw [if_neg hc]
      split at e
      · cases e
      · rename_i s r' h1
        rw [h _ _ h1]
        dsimp only
        split at e
        · cases e
        · rename_i l r'' h2
          rw [pRow_up h k _ _ h2]
          exact e

theorem pShape_up : ∀ (d : Nat) (b : List UInt8) (x : Sh × List UInt8), pShape d b = some x → pShape (d + 1) b = some x
  | 0, b, x, e => by simp [pShape] at e
  | d + 1, [], x, e => by simp [pShape] at e
  | d + 1, c :: b, x, e => by
    rw [pShape] at e ⊢
    split at e
    · rename_i hc; rw [if_pos hc]; exact e
    rename_i hc; rw [if_neg hc]
    split at e
    · rename_i hc; rw [if_pos hc]; exact e
    rename_i hc; rw [if_neg hc]
    split at e
    · rename_i hc
      rw [if_pos hc]
      split at e
      · cases e
      · rename_i s r h1
        rw [pShape_up d _ _ h1]
        exact e
    rename_i hc; rw [if_neg hc]
    split at e
    · rename_i hc
      rw [if_pos hc]
      split at e
      · cases e
      · rename_i l r h1
        rw [pRow_up (pShape_up d) _ _ _ h1]
        exact e
    · cases e

theorem Exact.up {d : Nat} {sh : Sh} {t : List UInt8} (h : Exact d t sh) : Exact (d + 1) t sh := fun r => pShape_up _ _ _ (h r)

theorem Exact.ups {d : Nat} {sh : Sh} {t : List UInt8} (h : Exact d t sh) : ∀ {n : Nat}, d ≤ n → Exact n t sh
  | 0, hn => by obtain rfl : d = 0 := by omega
                exact h
  | n + 1, hn => by
    by_cases e : d = n + 1
    · subst e; exact h
    · exact (Exact.ups h (n := n) (by omega)).up

theorem Fits.get {d : Nat} : ∀ {ts : List (List UInt8)} {l : List Sh}, Fits d ts l → ∀ (i : Nat) (h1 : i < ts.length) (h2 : i < l.length), Exact d ts[i] l[i]
  | t :: ts, l, ⟨s, l', hl, ht, hf⟩, i, h1, h2 => by
    subst hl
    cases i with
    | zero => exact ht
    | succ i => exact hf.get i (by simpa using h1) (by simpa using h2)

/-- A row's text is made of its parts' texts. -/
theorem Exact.parts {d : Nat} {t : List UInt8} {l : List Sh} (h : Exact d t (.row l)) : ∃ e ts, d = e + 1 ∧ t = 91 :: ts.flatten ++ [93] ∧ Fits e ts l := by
  have h0 := h []
  rw [List.append_nil] at h0
  cases d with
  | zero => simp [pShape] at h0
  | succ d =>
    cases t with
    | nil => simp [pShape] at h0
    | cons c b =>
      rw [pShape] at h0
      split at h0
      · simp at h0
      split at h0
      · simp at h0
      split at h0
      · split at h0 <;> simp at h0
      split at h0
      · rename_i hc
        split at h0
        · simp at h0
        · rename_i l' r' h1
          simp at h0
          obtain ⟨ts, hts, hf⟩ := fits_of (exact_of d) _ _ _ _ h1
          refine ⟨d, ts, rfl, ?_, h0.1 ▸ hf⟩
          rw [hts, h0.2, hc]
          simp
      · simp at h0

/-- A list's text is a star and the text of its values' shape. -/
theorem Exact.star {d : Nat} {t : List UInt8} {s : Sh} (h : Exact d t (.list s)) : ∃ e t', d = e + 1 ∧ t = 42 :: t' ∧ Exact e t' s := by
  have h0 := h []
  rw [List.append_nil] at h0
  cases d with
  | zero => simp [pShape] at h0
  | succ d =>
    cases t with
    | nil => simp [pShape] at h0
    | cons c b =>
      rw [pShape] at h0
      split at h0
      · simp at h0
      split at h0
      · simp at h0
      split at h0
      · rename_i hc
        split at h0
        · simp at h0
        · rename_i s' r' h1
          simp at h0
          obtain ⟨t', ht, he⟩ := exact_of _ _ _ _ h1
          rw [h0.2, List.append_nil] at ht
          subst ht
          exact ⟨d, b, rfl, by rw [hc], h0.1 ▸ he⟩
      split at h0
      · split at h0 <;> simp at h0
      · simp at h0

/-- A shape's first byte. -/
def Lead (c : UInt8) (t : List UInt8) : Sh → Prop
  | .num => c = 110 ∧ t = []
  | .blob => c = 98 ∧ t = []
  | .list _ => c = 42
  | .row _ => c = 91

theorem Exact.leaf {d : Nat} {t : List UInt8} {s : Sh} (h : Exact d t s) : ∃ c t', t = c :: t' ∧ Lead c t' s := by
  have h0 := h []
  rw [List.append_nil] at h0
  cases d with
  | zero => simp [pShape] at h0
  | succ d =>
    cases t with
    | nil => simp [pShape] at h0
    | cons c b =>
      refine ⟨c, b, rfl, ?_⟩
      rw [pShape] at h0
      split at h0
      · rename_i hc; simp at h0; rw [← h0.1]; exact ⟨hc, h0.2⟩
      split at h0
      · rename_i hc; simp at h0; rw [← h0.1]; exact ⟨hc, h0.2⟩
      split at h0
      · rename_i hc; split at h0
        · simp at h0
        · simp at h0; rw [← h0.1]; exact hc
      split at h0
      · rename_i hc; split at h0
        · simp at h0
        · simp at h0; rw [← h0.1]; exact hc
      · simp at h0

/-- The text of a shape, and what it is made of. -/
theorem exact_shape {t : List UInt8} {sh : Sh} (h : shape t = some sh) : Exact 9 t sh ∧ t.length ≤ 64 := by
  unfold shape at h
  split at h
  · cases h
  · split at h
    · rename_i s' hq
      cases h
      obtain ⟨t', ht, he⟩ := exact_of _ _ _ _ hq
      rw [List.append_nil] at ht
      subst ht
      exact ⟨he, by omega⟩
    · cases h
end Go.Proofs.YtgakcaobalfpjaaGreatDoor.M

/- Part: RefRows. -/
namespace Go.Proofs.YtgakcaobalfpjaaGreatDoor.M
open Go.RowKit

theorem infoStr1 : (Tryz.prog.info? 9).map (fun i => (i.zero, i.size, i.bytes)) = some (some (.string ByteArray.empty), 1, 16) := by kernel_rfl

def strV (t : List UInt8) : Value := .string (strOf t)

/-- Where the parts that are read end. -/
def endOf (ts : List (List UInt8)) (k : Nat) : Nat := 1 + (ts.take k).flatten.length

theorem endOf_next (ts : List (List UInt8)) (k : Nat) (h : k < ts.length) : endOf ts (k + 1) = endOf ts k + ts[k].length := by
  unfold endOf
  rw [List.take_add_one, List.getElem?_eq_getElem h]
  simp only [Option.toList_some, List.flatten_append, List.length_append, List.flatten_cons, List.flatten_nil, List.append_nil]
  omega

theorem row_drop (ts : List (List UInt8)) (k : Nat) (h : k ≤ ts.length) : (91 :: ts.flatten ++ [93]).drop (endOf ts k) = (ts.drop k).flatten ++ [93] := by
  have e : ts.flatten = (ts.take k).flatten ++ (ts.drop k).flatten := by rw [← List.flatten_append, List.take_append_drop]
  unfold endOf
  rw [List.cons_append, Nat.add_comm, List.drop_succ_cons, e, List.append_assoc, List.drop_left]

theorem endOf_le (ts : List (List UInt8)) (k : Nat) (h : k ≤ ts.length) : endOf ts k + 1 ≤ (91 :: ts.flatten ++ [93]).length := by
  have e : ts.flatten = (ts.take k).flatten ++ (ts.drop k).flatten := by rw [← List.flatten_append, List.take_append_drop]
  unfold endOf
  rw [e]
  simp only [List.length_append, List.length_cons, List.length_nil]
  omega

set_option maxRecDepth 20000 in
set_option maxHeartbeats 1600000 in
theorem rows_any (s : ByteArray) (d : Nat) (ts : List (List UInt8)) (l : List Sh) (w : World) (hs : s.size ≤ 64) (ht : s.data.toList = 91 :: ts.flatten ++ [93]) (hf : Fits d ts l) (hd : d ≤ 9) :
    Calls Tryz.prog 117 #[.string s] w fun e w' => ∃ v, e = .returned v ∧ Below w.heap.size w w' ∧ w'.ownsRow w.heap.size 9 1 v ts.length (ts.map strV) := by
  have HT := Lib.hid ht
  have HF := Lib.hid hf
  have hsz : s.data.toList.length = s.size := by simp
  have hle := fun k h => endOf_le ts k h
  rw [← ht, hsz] at hle
  have HLE := Lib.hid hle
  have HSZ := Lib.hid hsz
  clear ht hf hle hsz
  go_enter Tryz.func117, Tryz.ntmps117
  go_wp2_with fail
  go_loopw [3, 4] (fun v i wr => ∃ (k : Nat), i = .int .i64 (endOf ts k : Nat) ∧ k ≤ ts.length ∧ Below w.heap.size w wr ∧ wr.ownsRow w.heap.size 9 1 v k ((ts.take k).map strV)) (fun _ i _ => s.size - (intOf i).toNat)
  case atStart => exact ⟨0, rfl, Nat.zero_le _, Below.refl _ _, World.ownsRow_nil _ _ _ _⟩
  case round =>
    obtain ⟨k, rfl, hk, hB, hown⟩ := hrel
    have hle := HLE.out k hk
    have hget : s.data.toList.drop (endOf ts k) = s[endOf ts k] :: s.data.toList.drop (endOf ts k + 1) := drop_cons s _ hle
    have hdr := row_drop ts k hk
    rw [← HT.out, hget] at hdr
    have HD := Lib.hid hdr
    have HG := Lib.hid hget
    clear hdr hget
    by_cases hk2 : k < ts.length
    · have hkl : k < l.length := by rw [← HF.out.length.1]; exact hk2
      have hE : Exact d ts[k] l[k] := HF.out.get k hk2 hkl
      obtain ⟨c, t', hc, hc93⟩ := hE.head
      have hdk : ts.drop k = ts[k] :: ts.drop (k + 1) := List.drop_eq_getElem_cons hk2
      have hch : s[endOf ts k] = c := by
        have := HD.out
        rw [hdk, List.flatten_cons, hc, List.cons_append, List.cons_append] at this
        exact (List.cons.inj this).1
      have hp : pShape 9 (s.data.toList.drop (endOf ts k)) = some (l[k], (ts.drop (k + 1)).flatten ++ [93]) := by
        rw [HG.out, HD.out, hdk, List.flatten_cons, List.append_assoc]
        exact (hE.ups hd) _
      have hne : ((s[endOf ts k].toNat : Int) != 93) = true := by
        have e := byte_lit s[endOf ts k] 93 (by decide)
        simp only [Int.cast_ofNat_Int] at e
        rw [bne, e, decide_eq_false (by rw [hch]; exact hc93)]
        rfl
      have hrow := row_drop ts (k + 1) hk2
      rw [← HT.out] at hrow
      have hle2 := HLE.out (k + 1) hk2
      have hnx := endOf_next ts k hk2
      have hext : s.extract (endOf ts k) (endOf ts (k + 1)) = strOf ts[k] := by
        have h1 : (s.extract (endOf ts k) (endOf ts (k + 1))).data.toList = ts[k] := by
          rw [ByteArray.data_extract, Array.toList_extract, List.extract_eq_take_drop, HG.out, HD.out, hdk, hnx, Nat.add_sub_cancel_left, List.flatten_cons, List.append_assoc, List.take_left]
        rw [← strOf_data (s.extract (endOf ts k) (endOf ts (k + 1))), h1]
      have hE9 := ends 9 s (endOf ts k) (endOf ts k : Nat) 0 wr rfl hs (by omega) rfl (by omega)
      rw [hp] at hE9
      have hlt9 : endOf ts k < endOf ts (k + 1) := by rw [hnx, hc]; simp
      have HE9 := Lib.hid hE9
      have HX := Lib.hid hext
      have HR := Lib.hid hrow
      have HNX := Lib.hid hnx
      clear hE hc hdk hch hp hE9 hext hrow hnx hc93
      obtain ⟨ip, hip, hip0, hip1, hip2⟩ := info_parts infoStr1
      go_wp2_with fail
      refine HE9.out.mono ?_
      rintro e w1 ⟨rfl, k2, rfl, hk3, hr2⟩
      replace hr2 : (ts.drop (k + 1)).flatten ++ [93] = s.data.toList.drop k2 := hr2
      obtain rfl : k2 = endOf ts (k + 1) := by
        rw [← HR.out] at hr2
        have := congrArg List.length hr2
        rw [List.length_drop, List.length_drop, HSZ.out] at this
        omega
      have hlt1 : endOf ts k ≤ endOf ts (k + 1) := by omega
      clear hr2
      go_wp2_with (at_builtin; go_loud (refine wpList_append_own2 _ rfl _ _ 46 rfl w.heap.size 9 ip (.string ByteArray.empty) 1 16 Tryz.underlying46 hip hip0 hip1 hip2 rfl (by decide) _ _ _ rfl (hown.alloc _) ⟨wr.heap.size, 0, none⟩ 1 1 [.string (s.extract (endOf ts k) (endOf ts (k + 1)))] rfl rfl ?c1 ?c2 ?c3 ?c4 ?c5 ?_))
      case c1 => intro j u hj; cases j with
        | zero => simp at hj; subst hj; exact cell_of_row _ wr.heap.size 0 _ _ _ (heap_new _ _ _ rfl)
        | succ j => simp at hj
      case c2 => intro u hu; simp at hu; rw [hu]; rfl
      case c3 => unfold maxLen; have := HF.out.length.2; have := HLE.out ts.length (Nat.le_refl _); have := HSZ.out; have h3 := congrArg List.length HT.out; simp only [List.length_append, List.length_cons, List.length_nil] at h3; omega
      case c4 => have := HF.out.length.2; have h3 := congrArg List.length HT.out; have := HSZ.out; simp only [List.length_append, List.length_cons, List.length_nil] at h3; omega
      case c5 => have := hB.size; simp; omega
      intro v' w4 hown2 hg _ hwhere
      have HQ : Hid (Below w.heap.size w w4 ∧ w4.ownsRow w.heap.size 9 1 v' (k + 1) ((ts.take (k + 1)).map strV)) := Lib.hid (by
        refine ⟨(hB.alloc hB.size _).grown hg (by have := hB.size; simp; omega) (fun j hj => (hown.lt j hj).1), ?_⟩
        rw [List.take_add_one, List.getElem?_eq_getElem hk2, List.map_append]
        rw [HX.out] at hown2
        simp only [List.map_take, Option.toList_some, List.map_cons, List.map_nil]
        exact hown2)
      clear hown2 hg hwhere
      go_wp2_with fail
      go_roundw
      case rel => exact ⟨k + 1, rfl, hk2, HQ.out.1, HQ.out.2⟩
      case measure => simp [intOf]; omega
    · obtain rfl : k = ts.length := by omega
      have hne : ((s[endOf ts ts.length].toNat : Int) != 93) = false := by
        have := HD.out
        rw [List.drop_length] at this
        have h9 : s[endOf ts ts.length] = 93 := (List.cons.inj this).1
        rw [h9]; rfl
      go_wp2_with fail
      go_ret
      rw [List.take_length] at hown
      exact ⟨_, rfl, hB, hown⟩

theorem strOf_size (t : List UInt8) : (strOf t).size = t.length := by simp [strOf, ByteArray.size]

theorem flatten_get : ∀ (ts : List (List UInt8)) (i : Nat) (h : i < ts.length), ts[i].length ≤ ts.flatten.length
  | t :: ts, 0, _ => by simp
  | t :: ts, i + 1, h => by
    have := flatten_get ts i (by simpa using h)
    rw [List.flatten_cons, List.length_append]
    simp only [List.getElem_cons_succ]
    omega

theorem solids_take : ∀ (l : List Sh) (k : Nat) (h : k < l.length), solids (l.take (k + 1)) = (solids (l.take k) || solid l[k])
  | s :: l, 0, _ => by simp [solids]
  | s :: l, k + 1, h => by
    have := solids_take l k (by simpa using h)
    simp only [List.take_succ_cons, solids, List.getElem_cons_succ, this, Bool.or_assoc]

theorem solids_of : ∀ (l : List Sh) (k : Nat) (h : k < l.length), solid l[k] = true → solids l = true
  | s :: l, 0, _, hs => by simp only [List.getElem_cons_zero] at hs; simp [solids, hs]
  | s :: l, k + 1, h, hs => by
    have := solids_of l k (by simpa using h) (by simpa using hs)
    simp [solids, this]

/-- A string that stands at a place of an owned row of strings. -/
theorem owned_str {w : World} {base n : Nat} {v : Value} {ts : List (List UInt8)} (h : w.ownsRow base 9 1 v n (ts.map strV)) (hn : n = ts.length) (k : Nat) (hk : k < ts.length) :
    ∃ b c, v = .slice (some ⟨b, 0, none⟩) n c ∧ base ≤ b ∧ b < w.heap.size ∧ w.cell? ⟨b, 0 + k, none⟩ = some (.string (strOf ts[k])) := by
  have h' := h
  obtain ⟨_, ⟨rfl, h0⟩ | ⟨g, cap, cur, hv, hg, _⟩⟩ := h
  · omega
  · have hlt := h'.lt g (by rw [hv]; rfl)
    have hc := h'.cells (g := g) (by rw [hv]; rfl) k (strV ts[k]) (by simp [hk])
    refine ⟨g, cap, hv, hg, hlt.2, ?_⟩
    rw [Nat.zero_add]
    cases k <;> simpa [Addr.add, strV] using hc

def SomeSaid (n : Nat) : Prop := ∀ (s : ByteArray) (d : Nat) (t : List UInt8) (sh : Sh) (w : World), s.size ≤ n → s.size ≤ 64 → s.data.toList = t → Exact d t sh → d ≤ 9 →
  Calls Tryz.prog 119 #[.string s] w fun e w' => e = .returned (.bool (solid sh)) ∧ Below w.heap.size w w'

set_option maxRecDepth 20000 in
set_option maxHeartbeats 1600000 in
theorem some_of {n : Nat} (ih : ∀ m, m < n → SomeSaid m) : SomeSaid n := by
  rintro s d t sh w hn hs rfl hx hd
  obtain ⟨c, t', hc, hl⟩ := hx.leaf
  have hsz : s.data.toList.length = s.size := by simp
  have h0 : 0 < s.size := by rw [← hsz, hc]; simp
  have hget : s[0] = c := by
    have := drop_cons s 0 h0
    rw [List.drop_zero, hc] at this
    exact (List.cons.inj this).1.symm
  have e91 := byte_lit s[0] 91 (by decide)
  simp only [Int.cast_ofNat_Int] at e91
  cases sh with
  | num =>
    have h1 : ((s[0].toNat : Int) != 91) = true := by rw [bne, e91, decide_eq_false (by rw [hget, hl.1]; decide)]; rfl
    clear hc hsz hget e91 hl
    go_enter Tryz.func119, Tryz.ntmps119
    go_wp2_with fail
    go_ret
    exact ⟨rfl, Below.refl _ _⟩
  | blob =>
    have h1 : ((s[0].toNat : Int) != 91) = true := by rw [bne, e91, decide_eq_false (by rw [hget, hl.1]; decide)]; rfl
    clear hc hsz hget e91 hl
    go_enter Tryz.func119, Tryz.ntmps119
    go_wp2_with fail
    go_ret
    exact ⟨rfl, Below.refl _ _⟩
  | list s' =>
    have h1 : ((s[0].toNat : Int) != 91) = true := by rw [bne, e91, decide_eq_false (by rw [hget, show c = 42 from hl]; decide)]; rfl
    clear hc hsz hget e91 hl
    go_enter Tryz.func119, Tryz.ntmps119
    go_wp2_with fail
    go_ret
    exact ⟨rfl, Below.refl _ _⟩
  | row l =>
    have h1 : ((s[0].toNat : Int) != 91) = false := by rw [bne, e91, decide_eq_true (by rw [hget, show c = 91 from hl]; decide)]; rfl
    obtain ⟨e, ts, rfl, ht, hf⟩ := hx.parts
    have hlen := congrArg List.length ht
    simp only [List.length_append, List.length_cons, List.length_nil] at hlen
    have HROWS := Lib.hid (fun w => rows_any s e ts l w hs ht hf (by omega))
    have HF := Lib.hid hf
    have HSUB : Hid (∀ k (hk : k < ts.length) (hk2 : k < l.length) w, Calls Tryz.prog 119 #[.string (strOf ts[k])] w fun e w' => e = .returned (.bool (solid l[k])) ∧ Below w.heap.size w w') := Lib.hid (by
      intro k hk hk2 w
      have h2 := flatten_get ts k hk
      exact ih ts[k].length (by omega) (strOf ts[k]) e ts[k] l[k] w (by rw [strOf_size]; omega) (by rw [strOf_size]; omega) (by simp [strOf]) (hf.get k hk hk2) (by omega))
    have HTL : Hid (ts.length = l.length) := Lib.hid hf.length.1
    have hts : ts.length ≤ 64 := by have := hf.length.2; omega
    clear hc hsz hget e91 hl hx ht hf hlen ih
    go_enter Tryz.func119, Tryz.ntmps119
    go_wp2_with fail
    refine (HROWS.out _).mono ?_
    rintro e1 w1 ⟨v, rfl, hB, hown⟩
    obtain ⟨a, cp, rfl⟩ := owned_slice hown
    have HO := Lib.hid hown
    clear hown
    go_wp2_with fail
    go_loopw [4] (fun i wr => ∃ k : Nat, i = .int .i64 (k : Int) ∧ k ≤ ts.length ∧ Below w1.heap.size w1 wr ∧ solids (l.take k) = false) (fun i _ => ts.length - (intOf i).toNat)
    case atStart => exact ⟨0, rfl, Nat.zero_le _, Below.refl _ _, rfl⟩
    case round =>
      obtain ⟨k, rfl, hk, hB2, hso⟩ := hrel
      have HSO := Lib.hid hso
      clear hso
      by_cases hk2 : k < ts.length
      · have hkl : k < l.length := by rw [← HTL.out]; exact hk2
        obtain ⟨b, c', hv, hb1, hb2, hcell⟩ := owned_str HO.out rfl k hk2
        cases hv
        have hcell2 : wr.cell? ⟨b, 0 + k, none⟩ = some (.string (strOf ts[k])) := (hB2.cell (p := ⟨b, 0 + k, none⟩) hb2).trans hcell
        rw [Nat.zero_add] at hcell2
        have hkk : (k : Int) < (ts.length : Int) := by omega
        clear hcell
        go_wp2_with fail
        refine (HSUB.out k hk2 hkl _).mono ?_
        rintro e2 w2 ⟨rfl, hB3⟩
        have hB4 : Below w1.heap.size w1 w2 := hB2.trans (hB3.mono hB2.size)
        cases hsk : solid l[k] with
        | true =>
          have HQ : Hid (solids l = true) := Lib.hid (solids_of l k hkl hsk)
          clear hsk
          go_wp2_with fail
          go_ret
          refine ⟨?_, hB.trans (hB4.mono hB.size)⟩
          rw [solid, HQ.out]
          rfl
        | false =>
          have HQ : Hid (solids (l.take (k + 1)) = false) := Lib.hid (by rw [solids_take l k hkl, HSO.out, hsk]; rfl)
          clear hsk
          go_wp2_with fail
          go_roundw
          case rel => exact ⟨k + 1, by go_num, by omega, hB4, HQ.out⟩
          case measure => simp [intOf]; omega
      · have hkk : ¬ (k : Int) < (ts.length : Int) := by omega
        go_wp2_with fail
        go_ret
        refine ⟨?_, hB.trans (hB2.mono hB.size)⟩
        have := HSO.out
        rw [List.take_of_length_le (by rw [← HTL.out]; omega)] at this
        rw [solid, this]
        rfl

theorem Some_sized : ∀ (n : Nat), SomeSaid n := fun n => Nat.strongRecOn n fun _ ih => some_of ih

theorem Some_any (s : ByteArray) (sh : Sh) (w : World) (h : shape s.data.toList = some sh) :
    Calls Tryz.prog 119 #[.string s] w fun e w' => e = .returned (.bool (solid sh)) ∧ Below w.heap.size w w' := by
  obtain ⟨h1, h2⟩ := exact_shape h
  exact Some_sized s.size s 9 _ sh w (Nat.le_refl _) (by simpa using h2) rfl h1 (by omega)
end Go.Proofs.YtgakcaobalfpjaaGreatDoor.M
