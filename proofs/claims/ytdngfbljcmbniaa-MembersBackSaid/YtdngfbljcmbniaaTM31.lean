/- Texts of shapes, cut into their parts' texts. -/
import Derived.Test.YtdngfbljcmbniaaTM1
namespace Go.Proofs.Ytdngfbljcmbniaa.M

/-- A text that is read as just this shape, whatever stands behind it. -/
def Exact (d : Nat) (t : List UInt8) (sh : Sh) : Prop := ∀ r, pShape d (t ++ r) = some (sh, r)

/-- The texts of a row's parts. -/
def Fits (d : Nat) : List (List UInt8) → List Sh → Prop
  | [], l => l = []
  | t :: ts, l => ∃ s l', l = s :: l' ∧ Exact d t s ∧ Fits d ts l'

theorem Exact.head {d : Nat} {t : List UInt8} {sh : Sh} (h : Exact d t sh) : ∃ c t', t = c :: t' ∧ c ≠ 93 := by
  cases d with
  | zero => have := h []; simp [pShape] at this
  | succ d =>
    cases t with
    | nil => have := h []; simp [pShape] at this
    | cons c t =>
      refine ⟨c, t, rfl, ?_⟩
      rintro rfl
      have := h []
      simp [pShape] at this

theorem pRow_fits {d : Nat} : ∀ (ts : List (List UInt8)) (l : List Sh) (k : Nat) (r : List UInt8), Fits d ts l → ts.length < k → pRow (pShape d) k (ts.flatten ++ 93 :: r) = some (l, r)
  | [], l, 0, r, h, hk => by simp at hk
  | [], l, k + 1, r, h, _ => by rw [show l = [] from h]; simp [pRow]
  | t :: ts, l, 0, r, h, hk => by simp at hk
  | t :: ts, l, k + 1, r, ⟨s, l', hl, ht, hf⟩, hk => by
    obtain ⟨c, t', rfl, hc⟩ := ht.head
    have h1 := ht (ts.flatten ++ 93 :: r)
    have h2 := pRow_fits ts l' k r hf (by simpa using hk)
    rw [List.flatten_cons, List.append_assoc, List.cons_append]
    rw [List.cons_append] at h1
    rw [pRow, if_neg hc, h1]
    simp only [h2, hl]

theorem Fits.length {d : Nat} : ∀ {ts : List (List UInt8)} {l : List Sh}, Fits d ts l → ts.length = l.length ∧ ts.length ≤ ts.flatten.length
  | [], l, h => by rw [show l = [] from h]; simp
  | t :: ts, l, ⟨s, l', hl, ht, hf⟩ => by
    obtain ⟨c, t', rfl, _⟩ := ht.head
    have := hf.length
    rw [hl, List.flatten_cons, List.length_append]
    simp only [List.length_cons]
    omega

theorem Exact.row {d : Nat} {ts : List (List UInt8)} {l : List Sh} (h : Fits d ts l) : Exact (d + 1) (91 :: ts.flatten ++ [93]) (.row l) := by
  intro r
  rw [show (91 :: ts.flatten ++ [93]) ++ r = 91 :: (ts.flatten ++ 93 :: r) from by simp]
  have := pRow_fits ts l ((ts.flatten ++ 93 :: r).length + 1) r h (by have := h.length; rw [List.length_append]; omega)
  rw [pShape, if_neg (by decide), if_neg (by decide), if_neg (by decide), if_pos rfl, this]

theorem fits_of {d : Nat} (hp : ∀ b s r, pShape d b = some (s, r) → ∃ t, b = t ++ r ∧ Exact d t s) : ∀ (k : Nat) (b : List UInt8) (l : List Sh) (r : List UInt8), pRow (pShape d) k b = some (l, r) →
    ∃ ts, b = ts.flatten ++ 93 :: r ∧ Fits d ts l
  | 0, b, l, r, h => by simp [pRow] at h
  | k + 1, [], l, r, h => by simp [pRow] at h
  | k + 1, c :: b, l, r, h => by
    rw [pRow] at h
    split at h
    · rename_i hc
      simp at h
      exact ⟨[], by simp [hc, h.2], by unfold Fits; exact (by first | exact h.1 | exact h.1.symm)⟩
    · split at h
      · simp at h
      · rename_i s r' h1
        split at h
        · simp at h
        · rename_i l' r'' h2
          simp at h
          obtain ⟨t, ht, he⟩ := hp _ _ _ h1
          obtain ⟨ts, hts, hf⟩ := fits_of hp k _ _ _ h2
          refine ⟨t :: ts, ?_, s, l', h.1.symm, he, hf⟩
          rw [ht, hts, ← h.2]
          simp

theorem exact_of : ∀ (d : Nat) (b : List UInt8) (s : Sh) (r : List UInt8), pShape d b = some (s, r) → ∃ t, b = t ++ r ∧ Exact d t s
  | 0, b, s, r, h => by simp [pShape] at h
  | d + 1, [], s, r, h => by simp [pShape] at h
  | d + 1, c :: b, s, r, h => by
    rw [pShape] at h
    split at h
    · rename_i hc
      simp at h
      exact ⟨[c], by simp [h.2], fun r => by simp [pShape, hc, h.1]⟩
    split at h
    · rename_i hc
      simp at h
      exact ⟨[c], by simp [h.2], fun r => by simp [pShape, hc, h.1]⟩
    split at h
    · rename_i hc
      split at h
      · simp at h
      · rename_i s' r' h1
        simp at h
        obtain ⟨t, ht, he⟩ := exact_of d _ _ _ h1
        exact ⟨c :: t, by rw [ht, h.2]; rfl, fun r => by simp [pShape, hc, he r, h.1]⟩
    split at h
    · rename_i hc
      split at h
      · simp at h
      · rename_i l' r' h1
        simp at h
        obtain ⟨ts, hts, hf⟩ := fits_of (exact_of d) _ _ _ _ h1
        refine ⟨91 :: ts.flatten ++ [93], by rw [hts, ← h.2, hc]; simp, ?_⟩
        rw [← h.1]
        exact Exact.row hf
    · simp at h

theorem pRow_up {p q : List UInt8 → Option (Sh × List UInt8)} (h : ∀ b x, p b = some x → q b = some x) : ∀ (k : Nat) (b : List UInt8) (x : List Sh × List UInt8), pRow p k b = some x → pRow q k b = some x
  | 0, b, x, e => by simp [pRow] at e
  | k + 1, [], x, e => by simp [pRow] at e
  | k + 1, c :: b, x, e => by
    rw [pRow] at e ⊢
    split at e
    · rename_i hc; rw [if_pos hc]; exact e
    · rename_i hc
      rw [if_neg hc]
      split at e
      · cases e
      · rename_i s r' h1
        rw [h _ _ h1]
        dsimp only
        split at e
        · cases e
        · rename_i l r'' h2
          rw [pRow_up h k _ _ h2]
          exact e

theorem pShape_up : ∀ (d : Nat) (b : List UInt8) (x : Sh × List UInt8), pShape d b = some x → pShape (d + 1) b = some x
  | 0, b, x, e => by simp [pShape] at e
  | d + 1, [], x, e => by simp [pShape] at e
  | d + 1, c :: b, x, e => by
    rw [pShape] at e ⊢
    split at e
    · rename_i hc; rw [if_pos hc]; exact e
    rename_i hc; rw [if_neg hc]
    split at e
    · rename_i hc; rw [if_pos hc]; exact e
    rename_i hc; rw [if_neg hc]
    split at e
    · rename_i hc
      rw [if_pos hc]
      split at e
      · cases e
      · rename_i s r h1
        rw [pShape_up d _ _ h1]
        exact e
    rename_i hc; rw [if_neg hc]
    split at e
    · rename_i hc
      rw [if_pos hc]
      split at e
      · cases e
      · rename_i l r h1
        rw [pRow_up (pShape_up d) _ _ _ h1]
        exact e
    · cases e

theorem Exact.up {d : Nat} {sh : Sh} {t : List UInt8} (h : Exact d t sh) : Exact (d + 1) t sh := fun r => pShape_up _ _ _ (h r)

theorem Exact.ups {d : Nat} {sh : Sh} {t : List UInt8} (h : Exact d t sh) : ∀ {n : Nat}, d ≤ n → Exact n t sh
  | 0, hn => by obtain rfl : d = 0 := by omega
                exact h
  | n + 1, hn => by
    by_cases e : d = n + 1
    · subst e; exact h
    · exact (Exact.ups h (n := n) (by omega)).up

theorem Fits.get {d : Nat} : ∀ {ts : List (List UInt8)} {l : List Sh}, Fits d ts l → ∀ (i : Nat) (h1 : i < ts.length) (h2 : i < l.length), Exact d ts[i] l[i]
  | t :: ts, l, ⟨s, l', hl, ht, hf⟩, i, h1, h2 => by
    subst hl
    cases i with
    | zero => exact ht
    | succ i => exact hf.get i (by simpa using h1) (by simpa using h2)

/-- A row's text is made of its parts' texts. -/
theorem Exact.parts {d : Nat} {t : List UInt8} {l : List Sh} (h : Exact d t (.row l)) : ∃ e ts, d = e + 1 ∧ t = 91 :: ts.flatten ++ [93] ∧ Fits e ts l := by
  have h0 := h []
  rw [List.append_nil] at h0
  cases d with
  | zero => simp [pShape] at h0
  | succ d =>
    cases t with
    | nil => simp [pShape] at h0
    | cons c b =>
      rw [pShape] at h0
      split at h0
      · simp at h0
      split at h0
      · simp at h0
      split at h0
      · split at h0 <;> simp at h0
      split at h0
      · rename_i hc
        split at h0
        · simp at h0
        · rename_i l' r' h1
          simp at h0
          obtain ⟨ts, hts, hf⟩ := fits_of (exact_of d) _ _ _ _ h1
          refine ⟨d, ts, rfl, ?_, h0.1 ▸ hf⟩
          rw [hts, h0.2, hc]
          simp
      · simp at h0

/-- A list's text is a star and the text of its values' shape. -/
theorem Exact.star {d : Nat} {t : List UInt8} {s : Sh} (h : Exact d t (.list s)) : ∃ e t', d = e + 1 ∧ t = 42 :: t' ∧ Exact e t' s := by
  have h0 := h []
  rw [List.append_nil] at h0
  cases d with
  | zero => simp [pShape] at h0
  | succ d =>
    cases t with
    | nil => simp [pShape] at h0
    | cons c b =>
      rw [pShape] at h0
      split at h0
      · simp at h0
      split at h0
      · simp at h0
      split at h0
      · rename_i hc
        split at h0
        · simp at h0
        · rename_i s' r' h1
          simp at h0
          obtain ⟨t', ht, he⟩ := exact_of _ _ _ _ h1
          rw [h0.2, List.append_nil] at ht
          subst ht
          exact ⟨d, b, rfl, by rw [hc], h0.1 ▸ he⟩
      split at h0
      · split at h0 <;> simp at h0
      · simp at h0

/-- A shape's first byte. -/
def Lead (c : UInt8) (t : List UInt8) : Sh → Prop
  | .num => c = 110 ∧ t = []
  | .blob => c = 98 ∧ t = []
  | .list _ => c = 42
  | .row _ => c = 91

theorem Exact.leaf {d : Nat} {t : List UInt8} {s : Sh} (h : Exact d t s) : ∃ c t', t = c :: t' ∧ Lead c t' s := by
  have h0 := h []
  rw [List.append_nil] at h0
  cases d with
  | zero => simp [pShape] at h0
  | succ d =>
    cases t with
    | nil => simp [pShape] at h0
    | cons c b =>
      refine ⟨c, b, rfl, ?_⟩
      rw [pShape] at h0
      split at h0
      · rename_i hc; simp at h0; rw [← h0.1]; exact ⟨hc, h0.2⟩
      split at h0
      · rename_i hc; simp at h0; rw [← h0.1]; exact ⟨hc, h0.2⟩
      split at h0
      · rename_i hc; split at h0
        · simp at h0
        · simp at h0; rw [← h0.1]; exact hc
      split at h0
      · rename_i hc; split at h0
        · simp at h0
        · simp at h0; rw [← h0.1]; exact hc
      · simp at h0

/-- The text of a shape, and what it is made of. -/
theorem exact_shape {t : List UInt8} {sh : Sh} (h : shape t = some sh) : Exact 9 t sh ∧ t.length ≤ 64 := by
  unfold shape at h
  split at h
  · cases h
  · split at h
    · rename_i s' hq
      cases h
      obtain ⟨t', ht, he⟩ := exact_of _ _ _ _ hq
      rw [List.append_nil] at ht
      subst ht
      exact ⟨he, by omega⟩
    · cases h
end Go.Proofs.Ytdngfbljcmbniaa.M
