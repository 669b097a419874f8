/- Alarms over plain lists: a heap that knows its places, and the list by rising times. -/

namespace Go.Proofs.Ytckankoaiapcoaa.M
namespace Tm

/-- A time and a key. -/
abbrev Al := Int × Int

/-- Comes one ahead of the other? -/
def alt (a b : Al) : Bool := decide (a.1 < b.1) || (decide (a.1 = b.1) && decide (a.2 < b.2))

theorem alt_iff {a b : Al} : alt a b = true ↔ a.1 < b.1 ∨ (a.1 = b.1 ∧ a.2 < b.2) := by simp [alt]
theorem alt_not {a b : Al} : alt a b = false ↔ ¬ (a.1 < b.1 ∨ (a.1 = b.1 ∧ a.2 < b.2)) := by rw [← alt_iff]; simp
theorem alt_asymm {a b : Al} (h : alt a b = true) : alt b a = false := by rw [alt_iff] at h; rw [alt_not]; omega
theorem nlt_trans {a b c : Al} (h : alt a b = false) (g : alt b c = false) : alt a c = false := by rw [alt_not] at *; omega
theorem nlt_of_lt {a b c : Al} (h : alt a b = false) (g : alt c b = true) : alt a c = false := by rw [alt_iff] at g; rw [alt_not] at *; omega
theorem alt_trans {a b c : Al} (h : alt a b = true) (g : alt b c = true) : alt a c = true := by rw [alt_iff] at *; omega
theorem alt_irr (a : Al) : alt a a = false := by rw [alt_not]; omega
theorem alt_eq {a b : Al} (h : alt a b = false) (g : alt b a = false) : a = b := by
  rw [alt_not] at *
  obtain ⟨a1, a2⟩ := a
  obtain ⟨b1, b2⟩ := b
  simp only [Prod.mk.injEq] at *
  omega

def HpF (f : Nat → Al) (n : Nat) : Prop := ∀ k, 0 < k → k < n → alt (f k) (f ((k - 1) / 2)) = false
def UpI (f : Nat → Al) (n j : Nat) : Prop :=
  (∀ k, 0 < k → k < n → k ≠ j → alt (f k) (f ((k - 1) / 2)) = false) ∧ (0 < j → ∀ k, 0 < k → k < n → (k - 1) / 2 = j → alt (f k) (f ((j - 1) / 2)) = false)
def DnI (f : Nat → Al) (n i0 i : Nat) : Prop :=
  (∀ k, 0 < k → k < n → (k - 1) / 2 ≠ i → (k = i → i ≠ i0) → alt (f k) (f ((k - 1) / 2)) = false) ∧ (0 < i → ∀ k, 0 < k → k < n → (k - 1) / 2 = i → alt (f k) (f ((i - 1) / 2)) = false)
def sw (f : Nat → Al) (i j : Nat) : Nat → Al := fun k => if k = i then f j else if k = j then f i else f k

theorem UpI.step {f : Nat → Al} {n j : Nat} (h : UpI f n j) (hj : 0 < j) (hjn : j < n) (hl : alt (f j) (f ((j - 1) / 2)) = true) : UpI (sw f ((j - 1) / 2) j) n ((j - 1) / 2) := by
  have hp : (j - 1) / 2 < j := by omega
  generalize hq : (j - 1) / 2 = p at *
  obtain ⟨h1, h2⟩ := h
  rw [hq] at h2
  refine ⟨fun k hk hkn hne => ?_, fun hp0 k hk hkn hkp => ?_⟩
  · by_cases e : k = j
    · subst e
      rw [hq]
      have e1 : sw f p k k = f p := by unfold sw; rw [if_neg (by omega), if_pos rfl]
      have e2 : sw f p k p = f k := by unfold sw; rw [if_pos rfl]
      rw [e1, e2]
      exact alt_asymm hl
    · have e1 : sw f p j k = f k := by unfold sw; rw [if_neg hne, if_neg e]
      rw [e1]
      by_cases e2 : (k - 1) / 2 = j
      · have e3 : sw f p j ((k - 1) / 2) = f p := by unfold sw; rw [e2, if_neg (by omega), if_pos rfl]
        rw [e3]
        exact h2 hj k hk hkn e2
      · by_cases e3 : (k - 1) / 2 = p
        · have e4 : sw f p j ((k - 1) / 2) = f j := by unfold sw; rw [if_pos e3]
          rw [e4]
          have := h1 k hk hkn e
          rw [e3] at this
          exact nlt_of_lt this hl
        · have e4 : sw f p j ((k - 1) / 2) = f ((k - 1) / 2) := by unfold sw; rw [if_neg e3, if_neg e2]
          rw [e4]
          exact h1 k hk hkn e
  · have e0 : sw f p j ((p - 1) / 2) = f ((p - 1) / 2) := by unfold sw; rw [if_neg (by omega), if_neg (by omega)]
    rw [e0]
    have hpp := h1 p hp0 (by omega) (by omega)
    by_cases e : k = j
    · subst e
      have e1 : sw f p k k = f p := by unfold sw; rw [if_neg (by omega), if_pos rfl]
      rw [e1]
      exact hpp
    · have e1 : sw f p j k = f k := by unfold sw; rw [if_neg (by omega), if_neg e]
      rw [e1]
      have := h1 k hk hkn e
      rw [hkp] at this
      exact nlt_trans this hpp

theorem UpI.done {f : Nat → Al} {n j : Nat} (h : UpI f n j) (hd : 0 < j → alt (f j) (f ((j - 1) / 2)) = false) : HpF f n := fun k hk hkn => by
  by_cases e : k = j
  · subst e; exact hd hk
  · exact h.1 k hk hkn e

theorem DnI.step {f : Nat → Al} {n i0 i j : Nat} (h : DnI f n i0 i) (hi0 : i0 ≤ i) (hj0 : 0 < j) (hjn : j < n) (hji : (j - 1) / 2 = i) (hl : alt (f j) (f i) = true)
    (hs : ∀ k, 0 < k → k < n → (k - 1) / 2 = i → alt (f k) (f j) = false) : DnI (sw f i j) n i0 j := by
  obtain ⟨h1, h2⟩ := h
  have hij : i < j := by omega
  refine ⟨fun k hk hkn hkp _ => ?_, fun _ k hk hkn hkj => ?_⟩
  · by_cases e : k = j
    · subst e
      have e1 : sw f i k k = f i := by unfold sw; rw [if_neg (by omega), if_pos rfl]
      have e2 : sw f i k ((k - 1) / 2) = f k := by unfold sw; rw [if_pos hji]
      rw [e1, e2]
      exact alt_asymm hl
    · by_cases ei : k = i
      · subst ei
        have e1 : sw f k j k = f j := by unfold sw; rw [if_pos rfl]
        have e2 : sw f k j ((k - 1) / 2) = f ((k - 1) / 2) := by unfold sw; rw [if_neg (by omega), if_neg (by omega)]
        rw [e1, e2]
        exact h2 hk j hj0 hjn hji
      · have e1 : sw f i j k = f k := by unfold sw; rw [if_neg ei, if_neg e]
        rw [e1]
        by_cases ep : (k - 1) / 2 = i
        · have e2 : sw f i j ((k - 1) / 2) = f j := by unfold sw; rw [if_pos ep]
          rw [e2]
          exact hs k hk hkn ep
        · have e2 : sw f i j ((k - 1) / 2) = f ((k - 1) / 2) := by unfold sw; rw [if_neg ep, if_neg hkp]
          rw [e2]
          exact h1 k hk hkn ep (fun e => absurd e ei)
  · have e1 : sw f i j k = f k := by unfold sw; rw [if_neg (by omega), if_neg (by omega)]
    have e2 : sw f i j ((j - 1) / 2) = f j := by unfold sw; rw [if_pos hji]
    rw [e1, e2]
    have := h1 k hk hkn (by omega) (fun e => by omega)
    rw [hkj] at this
    exact this

theorem DnI.done {f : Nat → Al} {n i0 i : Nat} (h : DnI f n i0 i) (hs : ∀ k, 0 < k → k < n → (k - 1) / 2 = i → alt (f k) (f i) = false) (hne : i ≠ i0) : HpF f n := fun k hk hkn => by
  by_cases e : (k - 1) / 2 = i
  · rw [e]; exact hs k hk hkn e
  · exact h.1 k hk hkn e fun _ => hne

theorem DnI.up {f : Nat → Al} {n i : Nat} (h : DnI f n i i) (hs : ∀ k, 0 < k → k < n → (k - 1) / 2 = i → alt (f k) (f i) = false) : UpI f n i :=
  ⟨fun k hk hkn hne => by
    by_cases e : (k - 1) / 2 = i
    · rw [e]; exact hs k hk hkn e
    · exact h.1 k hk hkn e fun e2 => absurd e2 hne, h.2⟩

theorem HpF.root {f : Nat → Al} {n : Nat} (h : HpF f n) : ∀ k, k < n → alt (f k) (f 0) = false := by
  intro k
  induction k using Nat.strongRecOn with
  | _ k ih =>
    intro hk
    by_cases e : k = 0
    · subst e; exact alt_irr _
    · exact nlt_trans (h k (by omega) hk) (ih ((k - 1) / 2) (by omega) (by omega))

/-- One element of a heap is another one now. -/
theorem HpF.turn {f g : Nat → Al} {n m i : Nat} (h : HpF f n) (hm : m ≤ n) (hi : i < n) (hg : ∀ k, k < m → k ≠ i → g k = f k) : DnI g m i i := by
  refine ⟨fun k hk hkm hki hne => ?_, fun h0 k hk hkm hki => ?_⟩
  · have hk2 : k ≠ i := fun e => (hne e) rfl
    rw [hg k hkm hk2, hg _ (by omega) hki]
    exact h k hk (by omega)
  · rw [hg k hkm (by omega), hg _ (by omega) (by omega)]
    have h1 := h k hk (by omega)
    rw [hki] at h1
    exact nlt_trans h1 (h i h0 hi)

/-- What lies at a place. -/
def at' (L : List Al) (k : Nat) : Al := (L[k]?).getD (0, 0)

theorem at_eq {L : List Al} {k : Nat} (h : k < L.length) : at' L k = L[k] := by unfold at'; rw [List.getElem?_eq_getElem h]; rfl
theorem at_get {L : List Al} {k : Nat} (h : k < L.length) : L[k]? = some (at' L k) := by rw [at_eq h, List.getElem?_eq_getElem h]
theorem mem_at {L : List Al} {x : Al} : x ∈ L ↔ ∃ k, k < L.length ∧ at' L k = x := by
  constructor
  · intro h
    obtain ⟨k, hk, e⟩ := List.getElem_of_mem h
    exact ⟨k, hk, by rw [at_eq hk, e]⟩
  · rintro ⟨k, hk, rfl⟩
    rw [at_eq hk]
    exact List.getElem_mem hk

theorem at_set {L : List Al} {i : Nat} (a : Al) (hi : i < L.length) (k : Nat) : at' (L.set i a) k = if k = i then a else at' L k := by
  unfold at'
  rw [List.getElem?_set]
  by_cases e : k = i
  · subst e; rw [if_pos rfl, if_pos hi, if_pos rfl]; rfl
  · rw [if_neg (fun h => e h.symm), if_neg e]

def swL (L : List Al) (i j : Nat) : List Al := (L.set i (at' L j)).set j (at' L i)

@[simp] theorem swL_length (L : List Al) (i j : Nat) : (swL L i j).length = L.length := by simp [swL]

theorem at_sw {L : List Al} {i j : Nat} (hi : i < L.length) (hj : j < L.length) : at' (swL L i j) = sw (at' L) i j := by
  funext k
  unfold swL sw
  rw [at_set _ (by simpa using hj), at_set _ hi]
  by_cases e : k = i
  · by_cases e2 : k = j
    · subst e; subst e2; simp
    · rw [if_neg e2, if_pos e, if_pos e]
  · by_cases e2 : k = j
    · rw [if_pos e2, if_neg e, if_pos e2]
    · rw [if_neg e2]; simp only [if_neg e, if_neg e2]

/-- The same ones, in whatever order. -/
def Sm (L' L : List Al) : Prop := L'.length = L.length ∧ ∀ x, x ∈ L' ↔ x ∈ L

theorem Sm.refl (L : List Al) : Sm L L := ⟨rfl, fun _ => Iff.rfl⟩
theorem Sm.trans {A B C : List Al} (h : Sm A B) (g : Sm B C) : Sm A C := ⟨h.1.trans g.1, fun x => (h.2 x).trans (g.2 x)⟩

theorem sw_mem {L : List Al} {i j : Nat} (hi : i < L.length) (hj : j < L.length) (x : Al) (h : x ∈ L) : x ∈ swL L i j := by
  obtain ⟨k, hk, e⟩ := mem_at.1 h
  rw [mem_at]
  rw [at_sw hi hj, swL_length]
  by_cases e1 : k = i
  · refine ⟨j, hj, ?_⟩
    unfold sw
    by_cases e2 : j = i
    · rw [if_pos e2, ← e, e1, e2]
    · rw [if_neg e2, if_pos rfl, ← e, e1]
  · by_cases e2 : k = j
    · exact ⟨i, hi, by unfold sw; rw [if_pos rfl, ← e, e2]⟩
    · exact ⟨k, hk, by unfold sw; rw [if_neg e1, if_neg e2, e]⟩

theorem sw_sw {L : List Al} {i j : Nat} (hi : i < L.length) (hj : j < L.length) : swL (swL L i j) i j = L := by
  apply List.ext_getElem (by simp)
  intro k h1 h2
  have e : at' (swL (swL L i j) i j) k = at' L k := by
    rw [at_sw (by simpa using hi) (by simpa using hj), at_sw hi hj]
    unfold sw
    by_cases e1 : k = i
    · by_cases e2 : j = i
      · subst e1; subst e2; simp
      · subst e1; simp [e2]
    · by_cases e2 : k = j
      · subst e2; simp [e1]
      · simp [e1, e2]
  rw [at_eq h1, at_eq h2] at e
  exact e

theorem sw_sm {L : List Al} {i j : Nat} (hi : i < L.length) (hj : j < L.length) : Sm (swL L i j) L :=
  ⟨by simp, fun x => ⟨fun h => by
    have := sw_mem (L := swL L i j) (i := i) (j := j) (by simpa using hi) (by simpa using hj) x h
    rwa [sw_sw hi hj] at this, sw_mem hi hj x⟩⟩

/-- Where each key stands. -/
def Pl (p : Int → Option Int) (L : List Al) : Prop := ∀ key i, p key = some i ↔ ∃ k : Nat, k < L.length ∧ i = (k : Int) ∧ (at' L k).2 = key

def upd (p : Int → Option Int) (key i : Int) : Int → Option Int := fun k => if k = key then some i else p k
def del (p : Int → Option Int) (key : Int) : Int → Option Int := fun k => if k = key then none else p k

section
variable {p : Int → Option Int} {L : List Al}

theorem Pl.at (h : Pl p L) {k : Nat} (hk : k < L.length) : p (at' L k).2 = some (k : Int) := (h _ _).2 ⟨k, hk, rfl, rfl⟩

theorem Pl.one (h : Pl p L) {i j : Nat} (hi : i < L.length) (hj : j < L.length) (e : (at' L i).2 = (at' L j).2) : i = j := by
  have h1 := h.at hi
  rw [e, h.at hj] at h1
  exact (Int.ofNat.inj (Option.some.inj h1)).symm

theorem Pl.none (h : Pl p L) {key : Int} (hk : p key = none) : ∀ x ∈ L, x.2 ≠ key := fun x hx e => by
  obtain ⟨k, hk2, e2⟩ := mem_at.1 hx
  have := h.at hk2
  rw [e2, e, hk] at this
  cases this

theorem Pl.uniq (h : Pl p L) {x y : Al} (hx : x ∈ L) (hy : y ∈ L) (e : x.2 = y.2) : x = y := by
  obtain ⟨i, hi, ei⟩ := mem_at.1 hx
  obtain ⟨j, hj, ej⟩ := mem_at.1 hy
  have : i = j := h.one hi hj (by rw [ei, ej, e])
  rw [← ei, ← ej, this]

theorem Pl.sw (h : Pl p L) {i j : Nat} (hi : i < L.length) (hj : j < L.length) : Pl (upd (upd p (at' L j).2 (i : Int)) (at' L i).2 (j : Int)) (swL L i j) := by
  intro key q
  rw [swL_length, at_sw hi hj]
  constructor
  · intro hq
    unfold upd at hq
    split at hq
    · rename_i e
      refine ⟨j, hj, (Option.some.inj hq).symm, ?_⟩
      unfold Tm.sw
      by_cases e2 : j = i
      · rw [if_pos e2, e2, ← e]
      · rw [if_neg e2, if_pos rfl, ← e]
    · rename_i e
      split at hq
      · rename_i e2
        exact ⟨i, hi, (Option.some.inj hq).symm, by unfold Tm.sw; rw [if_pos rfl, ← e2]⟩
      · rename_i e2
        obtain ⟨k, hk, rfl, e3⟩ := (h _ _).1 hq
        exact ⟨k, hk, rfl, by unfold Tm.sw; rw [if_neg (fun e4 => e (by rw [← e3, e4])), if_neg (fun e4 => e2 (by rw [← e3, e4])), e3]⟩
  · rintro ⟨k, hk, rfl, e⟩
    unfold Tm.sw at e
    unfold upd
    by_cases ei : k = i
    · rw [if_pos ei] at e
      by_cases e2 : key = (at' L i).2
      · have : i = j := h.one hi hj (by rw [← e2, e])
        rw [if_pos e2, ei, this]
      · rw [if_neg e2, if_pos e.symm, ei]
    · rw [if_neg ei] at e
      by_cases ej : k = j
      · rw [if_pos ej] at e
        rw [if_pos e.symm, ej]
      · rw [if_neg ej] at e
        have h1 := h.at hk
        rw [e] at h1
        rw [if_neg (fun e2 => ei (by have := h.at hi; rw [← e2, h1] at this; exact Int.ofNat.inj (Option.some.inj this))),
          if_neg (fun e2 => ej (by have := h.at hj; rw [← e2, h1] at this; exact Int.ofNat.inj (Option.some.inj this))), h1]

theorem at_app {L : List Al} (a : Al) (k : Nat) : at' (L ++ [a]) k = if k < L.length then at' L k else if k = L.length then a else (0, 0) := by
  unfold at'
  by_cases h : k < L.length
  · rw [if_pos h, List.getElem?_append_left h]
  · rw [if_neg h, List.getElem?_append_right (by omega)]
    by_cases e : k = L.length
    · rw [if_pos e, e]; simp
    · rw [if_neg e, List.getElem?_eq_none (by simp; omega)]; rfl

theorem Pl.push (h : Pl p L) {a : Al} (ha : p a.2 = .none) : Pl (upd p a.2 (L.length : Int)) (L ++ [a]) := by
  intro key q
  constructor
  · intro hq
    unfold upd at hq
    split at hq
    · rename_i e
      exact ⟨L.length, by simp, (Option.some.inj hq).symm, by rw [at_app, if_neg (by omega), if_pos rfl, ← e]⟩
    · obtain ⟨k, hk, rfl, e3⟩ := (h _ _).1 hq
      exact ⟨k, by simp; omega, rfl, by rw [at_app, if_pos hk, e3]⟩
  · rintro ⟨k, hk, rfl, e⟩
    rw [at_app] at e
    unfold upd
    by_cases h1 : k < L.length
    · rw [if_pos h1] at e
      have h2 := h.at h1
      rw [e] at h2
      rw [if_neg (fun e2 => by rw [e2, ha] at h2; cases h2), h2]
    · rw [if_neg h1] at e
      have h2 : k = L.length := by simp at hk; omega
      rw [if_pos h2] at e
      rw [if_pos e.symm, h2]

theorem at_take {L : List Al} {n k : Nat} (hk : k < n) : at' (L.take n) k = at' L k := by unfold at'; rw [List.getElem?_take, if_pos hk]

theorem Pl.pop (h : Pl p L) {n : Nat} (hn : L.length = n + 1) : Pl (del p (at' L n).2) (L.take n) := by
  intro key q
  have hl : (L.take n).length = n := by rw [List.length_take]; omega
  rw [hl]
  constructor
  · intro hq
    unfold del at hq
    split at hq
    · cases hq
    · rename_i e
      obtain ⟨k, hk, rfl, e3⟩ := (h _ _).1 hq
      have : k ≠ n := fun e4 => e (by rw [← e3, e4])
      exact ⟨k, by omega, rfl, by rw [at_take (by omega), e3]⟩
  · rintro ⟨k, hk, rfl, e⟩
    rw [at_take hk] at e
    unfold del
    have h1 := h.at (k := k) (by omega)
    rw [e] at h1
    rw [if_neg (fun e2 => by
      have h2 := h.at (k := n) (by omega)
      rw [← e2, h1] at h2
      have := Int.ofNat.inj (Option.some.inj h2)
      omega), h1]

theorem Pl.turn (h : Pl p L) {i : Nat} (hi : i < L.length) (t : Int) : Pl p (L.set i (t, (at' L i).2)) := by
  intro key q
  rw [h key q, List.length_set]
  constructor
  · rintro ⟨k, hk, rfl, e⟩
    refine ⟨k, hk, rfl, ?_⟩
    rw [at_set _ hi]
    by_cases e2 : k = i
    · rw [if_pos e2, ← e, e2]
    · rw [if_neg e2, e]
  · rintro ⟨k, hk, rfl, e⟩
    refine ⟨k, hk, rfl, ?_⟩
    rw [at_set _ hi] at e
    by_cases e2 : k = i
    · rw [if_pos e2] at e; rw [← e, e2]
    · rwa [if_neg e2] at e
end

theorem Pl.zero : Pl (fun _ => Option.none) [] := fun key i => ⟨fun h => (by cases h), fun h => by obtain ⟨k, hk, _⟩ := h; simp at hk⟩

/-! ### by rising times -/
def clrS (l : List Al) (key : Int) : List Al := l.filter fun x => x.2 != key

def insS (a : Al) : List Al → List Al
  | [] => [a]
  | b :: r => if alt a b = true then a :: b :: r else b :: insS a r

def setS (l : List Al) (t key : Int) : List Al := insS (t, key) (clrS l key)

def srt (l : List Al) : Prop := l.Pairwise fun a b => alt a b = true

theorem ins_mem {a x : Al} : ∀ {l : List Al}, x ∈ insS a l ↔ x = a ∨ x ∈ l
  | [] => by simp [insS]
  | b :: r => by
    unfold insS
    split
    · simp
    · rw [List.mem_cons, ins_mem (l := r), List.mem_cons]
      constructor <;> rintro (h | h | h) <;> simp [h]

theorem ins_length (a : Al) : ∀ l : List Al, (insS a l).length = l.length + 1
  | [] => rfl
  | b :: r => by
    unfold insS
    split
    · simp
    · simp [ins_length a r]

theorem ins_srt {a : Al} : ∀ {l : List Al}, srt l → a ∉ l → srt (insS a l)
  | [], _, _ => by simp [insS, srt]
  | b :: r, h, hn => by
    obtain ⟨h1, h2⟩ := List.pairwise_cons.1 h
    unfold insS
    split
    · rename_i e
      refine List.pairwise_cons.2 ⟨fun x hx => ?_, h⟩
      rcases List.mem_cons.1 hx with rfl | hx
      · exact e
      · exact alt_trans e (h1 x hx)
    · rename_i e
      refine List.pairwise_cons.2 ⟨fun x hx => ?_, ins_srt h2 fun hm => hn (List.mem_cons_of_mem _ hm)⟩
      rcases ins_mem.1 hx with rfl | hx
      · cases hb : alt b x with
        | true => rfl
        | false =>
          have : x = b := alt_eq (by simpa using e) hb
          exact absurd (by rw [this]; simp) hn
      · exact h1 x hx

theorem clr_mem {l : List Al} {key : Int} {x : Al} : x ∈ clrS l key ↔ x ∈ l ∧ x.2 ≠ key := by simp [clrS]

theorem clr_srt {l : List Al} (h : srt l) (key : Int) : srt (clrS l key) := List.Pairwise.filter _ h

theorem set_mem {l : List Al} {t key : Int} {x : Al} : x ∈ setS l t key ↔ x = (t, key) ∨ (x ∈ l ∧ x.2 ≠ key) := by unfold setS; rw [ins_mem, clr_mem]

theorem set_srt {l : List Al} (h : srt l) (t key : Int) : srt (setS l t key) := ins_srt (clr_srt h key) fun hm => (clr_mem.1 hm).2 rfl

/-- A key stands once at most. -/
def Uq (l : List Al) : Prop := ∀ x ∈ l, ∀ y ∈ l, x.2 = y.2 → x = y

theorem clr_length {l : List Al} {x : Al} (hs : srt l) (hu : Uq l) (hx : x ∈ l) : (clrS l x.2).length + 1 = l.length := by
  induction l with
  | nil => cases hx
  | cons b r ih =>
    obtain ⟨h1, h2⟩ := List.pairwise_cons.1 hs
    by_cases e : b.2 = x.2
    · have hb : b = x := hu b (by simp) x hx e
      have hf : clrS r x.2 = r := by
        unfold clrS
        rw [List.filter_eq_self]
        intro y hy
        simp only [bne_iff_ne, ne_eq]
        intro e2
        have : y = b := hu y (by simp [hy]) b (by simp) (by rw [e2, e])
        have h3 := h1 y hy
        rw [this, alt_irr] at h3
        cases h3
      have : clrS (b :: r) x.2 = clrS r x.2 := by unfold clrS; rw [List.filter_cons_of_neg]; simp [e]
      rw [this, hf]; rfl
    · have hx2 : x ∈ r := by
        rcases List.mem_cons.1 hx with h | h
        · exact absurd (by rw [h]) e
        · exact h
      have := ih h2 (fun a ha b hb => hu a (by simp [ha]) b (by simp [hb])) hx2
      have e3 : clrS (b :: r) x.2 = b :: clrS r x.2 := by unfold clrS; rw [List.filter_cons_of_pos]; simp [e]
      rw [e3, List.length_cons, List.length_cons, this]

theorem clr_none {l : List Al} {key : Int} (h : ∀ x ∈ l, x.2 ≠ key) : clrS l key = l := by
  unfold clrS
  rw [List.filter_eq_self]
  intro x hx
  simpa using h x hx

theorem Sm.uq {L l : List Al} {p : Int → Option Int} (h : Sm L l) (hp : Pl p L) : Uq l := fun x hx y hy e => hp.uniq ((h.2 x).2 hx) ((h.2 y).2 hy) e

/-- The first of the list is the heap's root. -/
theorem root_eq {L l : List Al} {h : Al} {r : List Al} (hs : srt l) (hsm : Sm L l) (hp : HpF (at' L) L.length) (hl : l = h :: r) : at' L 0 = h := by
  have h0 : 0 < L.length := by rw [hsm.1, hl]; simp
  obtain ⟨k, hk, e⟩ := mem_at.1 ((hsm.2 h).2 (by rw [hl]; simp))
  have h1 := hp.root k hk
  rw [e] at h1
  have h2 : at' L 0 ∈ l := (hsm.2 _).1 (mem_at.2 ⟨0, h0, rfl⟩)
  rw [hl] at h2 hs
  rcases List.mem_cons.1 h2 with h3 | h3
  · exact h3
  · have := (List.pairwise_cons.1 hs).1 _ h3
    rw [this] at h1
    cases h1

/-- Set of a key that has a time: in its place. -/
theorem sm_turn {L l : List Al} {p : Int → Option Int} (hs : srt l) (hsm : Sm L l) (hp : Pl p L) {i : Nat} (hi : i < L.length) (t : Int) : Sm (L.set i (t, (at' L i).2)) (setS l t (at' L i).2) := by
  have hm : at' L i ∈ L := mem_at.2 ⟨i, hi, rfl⟩
  refine ⟨?_, fun x => ?_⟩
  · rw [List.length_set]
    unfold setS
    rw [ins_length, clr_length hs (hsm.uq hp) ((hsm.2 _).1 hm)]
    exact hsm.1
  · rw [set_mem, mem_at]
    constructor
    · rintro ⟨k, hk, e⟩
      rw [at_set _ hi] at e
      rw [List.length_set] at hk
      by_cases e2 : k = i
      · rw [if_pos e2] at e; exact .inl e.symm
      · rw [if_neg e2] at e
        refine .inr ⟨(hsm.2 x).1 (mem_at.2 ⟨k, hk, e⟩), fun e3 => e2 (hp.one hk hi (by rw [e, e3]))⟩
    · rintro (rfl | ⟨h1, h2⟩)
      · exact ⟨i, by simpa using hi, by rw [at_set _ hi, if_pos rfl]⟩
      · obtain ⟨k, hk, e⟩ := mem_at.1 ((hsm.2 x).2 h1)
        exact ⟨k, by simpa using hk, by rw [at_set _ hi, if_neg (fun e2 => h2 (by rw [← e, e2])), e]⟩

/-- Set of a key that has none: at the end. -/
theorem sm_push {L l : List Al} {p : Int → Option Int} (hsm : Sm L l) (hp : Pl p L) {t key : Int} (hn : p key = none) : Sm (L ++ [(t, key)]) (setS l t key) := by
  have hc : clrS l key = l := clr_none fun x hx => hp.none hn x ((hsm.2 x).2 hx)
  unfold setS
  rw [hc]
  exact ⟨by rw [ins_length]; simp [hsm.1], fun x => by rw [ins_mem, List.mem_append, hsm.2 x]; simp; exact Or.comm⟩

/-- What goes from the end of a heap. -/
theorem sm_drop {L l : List Al} {p : Int → Option Int} (hs : srt l) (hsm : Sm L l) (hp : Pl p L) {n : Nat} (hn : L.length = n + 1) : Sm (L.take n) (clrS l (at' L n).2) := by
  have hm : at' L n ∈ L := mem_at.2 ⟨n, by omega, rfl⟩
  have hl : (L.take n).length = n := by rw [List.length_take]; omega
  refine ⟨?_, fun x => ?_⟩
  · have := clr_length hs (hsm.uq hp) ((hsm.2 _).1 hm)
    have := hsm.1
    omega
  · rw [clr_mem, mem_at, hl]
    constructor
    · rintro ⟨k, hk, e⟩
      rw [at_take hk] at e
      exact ⟨(hsm.2 x).1 (mem_at.2 ⟨k, by omega, e⟩), fun e2 => by
        have := hp.one (i := k) (j := n) (by omega) (by omega) (by rw [e, e2])
        omega⟩
    · rintro ⟨h1, h2⟩
      obtain ⟨k, hk, e⟩ := mem_at.1 ((hsm.2 x).2 h1)
      have : k ≠ n := fun e2 => h2 (by rw [← e, e2])
      exact ⟨k, by omega, by rw [at_take (by omega), e]⟩

theorem clr_head {h : Al} {r : List Al} (hs : srt (h :: r)) (hu : Uq (h :: r)) : clrS (h :: r) h.2 = r := by
  have : clrS (h :: r) h.2 = clrS r h.2 := by unfold clrS; rw [List.filter_cons_of_neg]; simp
  rw [this]
  refine clr_none fun x hx e => ?_
  have e2 : x = h := hu x (by simp [hx]) h (by simp) e
  have := (List.pairwise_cons.1 hs).1 x hx
  rw [e2, alt_irr] at this
  cases this
end Tm
end Go.Proofs.Ytckankoaiapcoaa.M
