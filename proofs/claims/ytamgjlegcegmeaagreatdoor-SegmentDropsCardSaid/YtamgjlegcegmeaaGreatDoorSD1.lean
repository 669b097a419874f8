/- A disk, as plain lists: the document's layer 3 by definition. No program is named here. -/
import Derived.WalkKit
namespace Go.Proofs.YtamgjlegcegmeaaGreatDoor.D

/-- A file: its name, its bytes, how many are safe. -/
structure Fl where
  nm : ByteArray
  b : List UInt8
  safe : Nat

/-- A disk: the room, the files, their names rising; with 'ends', so many calls more are done. -/
structure Dk where
  room : Int
  fs : List Fl
  ends : Bool
  calls : Nat

/-- A byte of a name. -/
def okByte (c : UInt8) : Bool := (97 ≤ c && c ≤ 122) || (48 ≤ c && c ≤ 57) || c == 45 || c == 46

def okName (s : ByteArray) : Bool := s.data.toList.all okByte && decide (0 < s.size ∧ s.size ≤ 32)

/-- Where a file is: the number of all, if it isn't there. -/
def find (fs : List Fl) (s : ByteArray) : Nat := fs.findIdx fun f => f.nm.toList == s.toList

def used (fs : List Fl) : Nat := (fs.map fun f => f.b.length).sum

def Dk.free (d : Dk) : Int := d.room - used d.fs

/-- Where a new name belongs. -/
def place (fs : List Fl) (s : ByteArray) : Nat := fs.findIdx fun f => !Op.bytesLess f.nm.toList s.toList

def add (fs : List Fl) (f : Fl) : List Fl := fs.take (place fs f.nm) ++ f :: fs.drop (place fs f.nm)

def stop (d : Dk) (n : Int) : Dk := { d with ends := decide (0 ≤ n), calls := n.toNat }

/-- Is a call refused, and what becomes of the disk? -/
def Dk.stopped (d : Dk) : Bool := d.ends && d.calls == 0

def Dk.tick (d : Dk) : Dk := if d.ends = true ∧ d.calls ≠ 0 then { d with calls := d.calls - 1 } else d

def isThere (fs : List Fl) (s : ByteArray) : Bool := decide (find fs s < fs.length)

/-- Bytes behind a file's. -/
def layAt (fs : List Fl) (i : Nat) (l : List UInt8) : List Fl := fs.modify i fun f => { f with b := f.b ++ l }

def append (d : Dk) (s : ByteArray) (bs : List (List UInt8)) : Int × Dk :=
  if d.stopped then (32, d)
  else
    let e := d.tick
    if okName s = false then (30, e)
    else if (bs.flatten.length : Int) > e.free ∨ (isThere e.fs s = false ∧ 4096 ≤ e.fs.length) then (31, e)
    else
      let fs := if isThere e.fs s then e.fs else add e.fs ⟨s, [], 0⟩
      (0, { e with fs := layAt fs (find fs s) bs.flatten })

def syncAt (fs : List Fl) (i : Nat) : List Fl := fs.modify i fun f => { f with safe := f.b.length }

def sync (d : Dk) (names : List ByteArray) : Int × Dk :=
  if d.stopped then (32, d)
  else
    let e := d.tick
    if names.all (isThere e.fs) = false then (30, e)
    else (0, { e with fs := names.foldl (fun fs s => syncAt fs (find fs s)) e.fs })

def rename (d : Dk) (a b : ByteArray) : Int × Dk :=
  if d.stopped then (32, d)
  else
    let e := d.tick
    if isThere e.fs a = false ∨ okName b = false then (30, e)
    else
      match e.fs[find e.fs a]? with
      | none => (30, e)
      | some f =>
        let fs := e.fs.eraseIdx (find e.fs a)
        let fs := fs.eraseIdx (find fs b)
        (0, { e with fs := add fs { f with nm := b } })

/-- Are they all there, none of them twice? -/
def eachOnce (fs : List Fl) : List ByteArray → Bool
  | [] => true
  | s :: r => isThere fs s && !(r.any fun t => t.toList == s.toList) && eachOnce fs r

def remove (d : Dk) (names : List ByteArray) : Int × Dk :=
  if d.stopped then (32, d)
  else
    let e := d.tick
    if eachOnce e.fs names = false then (30, e)
    else (0, { e with fs := names.foldl (fun fs s => fs.eraseIdx (find fs s)) e.fs })

def cut (d : Dk) (s : ByteArray) (n : Int) : Int × Dk :=
  if d.stopped then (32, d)
  else
    let e := d.tick
    match e.fs[find e.fs s]? with
    | none => (30, e)
    | some f =>
      if n < 0 ∨ (f.b.length : Int) < n then (2, e)
      else (0, { e with fs := e.fs.modify (find e.fs s) fun f => { f with b := f.b.take n.toNat, safe := min f.safe n.toNat } })

/-- How many bytes stay of a file, by what keep says at its place. -/
def stays (f : Fl) (k : Option Int) : Nat :=
  match k with
  | none => f.safe
  | some k => if 0 < k then f.safe + min k.toNat (f.b.length - f.safe) else f.safe

def crashFs : List Fl → List Int → List Fl
  | [], _ => []
  | f :: r, ks => { f with b := f.b.take (stays f ks.head?), safe := stays f ks.head? } :: crashFs r ks.tail

def crash (d : Dk) (ks : List Int) : Nat × Dk :=
  (used d.fs - used (crashFs d.fs ks), { d with fs := crashFs d.fs ks, ends := false })

theorem okByte_iff (c : UInt8) : okByte c = true ↔ (97 ≤ c.toNat ∧ c.toNat ≤ 122) ∨ (48 ≤ c.toNat ∧ c.toNat ≤ 57) ∨ c.toNat = 45 ∨ c.toNat = 46 := by
  unfold okByte
  simp only [Bool.or_eq_true, Bool.and_eq_true, decide_eq_true_eq, UInt8.le_iff_toNat_le, beq_iff_eq, ← UInt8.toNat_inj]
  simp
  omega

theorem used_take (fs : List Fl) (k : Nat) (h : k < fs.length) : used (fs.take (k + 1)) = used (fs.take k) + fs[k].b.length := by
  unfold used
  rw [List.take_succ_eq_append_getElem h, List.map_append, List.sum_append]
  simp

theorem used_le (fs : List Fl) (k : Nat) : used (fs.take k) ≤ used fs := by
  have h : used fs = used (fs.take k) + used (fs.drop k) := by
    unfold used
    rw [← List.sum_append, ← List.map_append, List.take_append_drop]
  omega

theorem idx_hit {α : Type} (p : α → Bool) (l : List α) (k : Nat) (hk : k < l.length) (h : k ≤ l.findIdx p) (hp : p l[k] = true) : l.findIdx p = k := by
  rcases Nat.lt_or_ge k (l.findIdx p) with h1 | h1
  · have := List.not_of_lt_findIdx h1
    rw [hp] at this; cases this
  · omega

theorem idx_next {α : Type} (p : α → Bool) (l : List α) (k : Nat) (hk : k < l.length) (h : k ≤ l.findIdx p) (hp : p l[k] = false) : k + 1 ≤ l.findIdx p := by
  rcases Nat.lt_or_ge k (l.findIdx p) with h1 | h1
  · omega
  · have e : l.findIdx p = k := by omega
    have := List.findIdx_getElem (p := p) (xs := l) (w := by omega)
    simp only [e, hp] at this
    cases this

theorem find_le (fs : List Fl) (s : ByteArray) : find fs s ≤ fs.length := List.findIdx_le_length

theorem find_hit (fs : List Fl) (s : ByteArray) (k : Nat) (hk : k < fs.length) (h : k ≤ find fs s) (hp : (fs[k].nm.toList == s.toList) = true) : find fs s = k := idx_hit _ fs k hk h hp

theorem find_next (fs : List Fl) (s : ByteArray) (k : Nat) (hk : k < fs.length) (h : k ≤ find fs s) (hp : (fs[k].nm.toList == s.toList) = false) : k + 1 ≤ find fs s := idx_next _ fs k hk h hp

/-- The answer of find. -/
def findR (fs : List Fl) (s : ByteArray) : Int := if find fs s < fs.length then (find fs s : Int) else -1

theorem used_add (fs : List Fl) (f : Fl) : used (add fs f) = used fs + f.b.length := by
  unfold used add
  rw [List.map_append, List.map_cons, List.sum_append, List.sum_cons]
  have : (fs.map fun f => f.b.length).sum = ((fs.take (place fs f.nm)).map fun f => f.b.length).sum + ((fs.drop (place fs f.nm)).map fun f => f.b.length).sum := by
    rw [← List.sum_append, ← List.map_append, List.take_append_drop]
  omega

theorem isThere_add (fs : List Fl) (f : Fl) : isThere (add fs f) f.nm = true := by
  unfold isThere find
  rw [decide_eq_true_eq, List.findIdx_lt_length]
  exact ⟨f, by unfold add; simp, by simp⟩

/-- The first so many are all there, none of them twice. -/
def OnceTo (fs : List Fl) (l : List ByteArray) (k : Nat) : Prop := ∀ (i : Nat) (hi : i < l.length), i < k → isThere fs l[i] = true ∧ ∀ (j : Nat) (hj : j < i), (l[j].toList == l[i].toList) = false

theorem beq_comm_toList (a b : ByteArray) : (a.toList == b.toList) = (b.toList == a.toList) := by
  rw [Bool.eq_iff_iff, beq_iff_eq, beq_iff_eq]
  exact ⟨Eq.symm, Eq.symm⟩

theorem once_of (fs : List Fl) : ∀ (l : List ByteArray), OnceTo fs l l.length → eachOnce fs l = true
  | [], _ => rfl
  | s :: r, h => by
    have h0 := (h 0 (by simp) (by simp)).1
    simp only [List.getElem_cons_zero] at h0
    unfold eachOnce
    rw [h0, once_of fs r fun i hi hk => ?_]
    · have : (r.any fun t => t.toList == s.toList) = false := by
        rw [List.any_eq_false]
        intro t ht
        obtain ⟨i, hi, rfl⟩ := List.mem_iff_getElem.1 ht
        have := (h (i + 1) (by simpa using hi) (by simpa using hi)).2 0 (by omega)
        simp only [List.getElem_cons_zero, List.getElem_cons_succ] at this
        rw [beq_comm_toList, this]; simp
      rw [this]; rfl
    · have := h (i + 1) (by simpa using hi) (by simpa using hk)
      refine ⟨by simpa using this.1, fun j hj => ?_⟩
      have := this.2 (j + 1) (by omega)
      simpa using this

theorem not_once (fs : List Fl) : ∀ (l : List ByteArray), eachOnce fs l = true → OnceTo fs l l.length
  | [], _ => fun i hi => by simp at hi
  | s :: r, h => by
    unfold eachOnce at h
    simp only [Bool.and_eq_true, Bool.not_eq_true'] at h
    obtain ⟨⟨h0, h1⟩, h2⟩ := h
    have ih := not_once fs r h2
    intro i hi _
    cases i with
    | zero => exact ⟨by simpa using h0, fun j hj => by omega⟩
    | succ i =>
      have hi' : i < r.length := by simpa using hi
      refine ⟨by simpa using (ih i hi' hi').1, fun j hj => ?_⟩
      cases j with
      | zero =>
        have := (List.any_eq_false.1 h1) r[i] (List.getElem_mem hi')
        simp only [List.getElem_cons_zero, List.getElem_cons_succ]
        rw [beq_comm_toList]
        simpa using this
      | succ j => simpa using (ih i hi' hi').2 j (by omega)

theorem isThere_iff (fs : List Fl) (s : ByteArray) : isThere fs s = true ↔ ∃ (j : Nat) (h : j < fs.length), (fs[j].nm.toList == s.toList) = true := by
  unfold isThere find
  rw [decide_eq_true_eq, List.findIdx_lt_length]
  constructor
  · rintro ⟨f, hf, h⟩
    obtain ⟨j, hj, rfl⟩ := List.mem_iff_getElem.1 hf
    exact ⟨j, hj, h⟩
  · rintro ⟨j, hj, h⟩
    exact ⟨_, List.getElem_mem hj, h⟩

theorem find_at (fs : List Fl) (s : ByteArray) (h : find fs s < fs.length) : (fs[find fs s].nm.toList == s.toList) = true := List.findIdx_getElem (w := h)

/-- What is there stays there when another name is taken out. -/
theorem isThere_erase {fs : List Fl} {a s : ByteArray} (ha : isThere fs a = true) (hs : isThere fs s = true) (hne : (a.toList == s.toList) = false) : isThere (fs.eraseIdx (find fs a)) s = true := by
  have ha' : find fs a < fs.length := by unfold isThere at ha; simpa using ha
  obtain ⟨j, hj, h⟩ := (isThere_iff fs s).1 hs
  have hja : j ≠ find fs a := fun e => by
    subst e
    have h1 := find_at fs a ha'
    simp only [beq_iff_eq, beq_eq_false_iff_ne, ne_eq] at h h1 hne
    exact hne (h1.symm.trans h)
  rw [isThere_iff]
  rcases Nat.lt_or_ge j (find fs a) with h1 | h1
  · exact ⟨j, by rw [List.length_eraseIdx, if_pos ha']; omega, by rw [List.getElem_eraseIdx_of_lt (h' := h1)]; exact h⟩
  · exact ⟨j - 1, by rw [List.length_eraseIdx, if_pos ha']; omega, by
      rw [List.getElem_eraseIdx_of_ge (h' := by omega)]
      simp only [show j - 1 + 1 = j by omega]
      exact h⟩

theorem isThere_erases {fs : List Fl} {l : List ByteArray} (h : eachOnce fs l = true) : ∀ (k : Nat) (hk : k < l.length), isThere ((l.take k).foldl (fun fs s => fs.eraseIdx (find fs s)) fs) l[k] = true := by
  have ho := not_once fs l h
  have key : ∀ (m : Nat), m ≤ l.length → ∀ (i : Nat) (hi : i < l.length), m ≤ i → isThere ((l.take m).foldl (fun fs s => fs.eraseIdx (find fs s)) fs) l[i] = true := by
    intro m
    induction m with
    | zero => intro _ i hi _; simpa using (ho i hi hi).1
    | succ m ih =>
      intro hm i hi hmi
      rw [List.take_succ_eq_append_getElem (by omega), List.foldl_append]
      simp only [List.foldl_cons, List.foldl_nil]
      exact isThere_erase (ih (by omega) m (by omega) (Nat.le_refl _)) (ih (by omega) i hi (by omega)) ((ho i hi hi).2 m (by omega))
  intro k hk
  exact key k (by omega) k hk (Nat.le_refl _)
end Go.Proofs.YtamgjlegcegmeaaGreatDoor.D
