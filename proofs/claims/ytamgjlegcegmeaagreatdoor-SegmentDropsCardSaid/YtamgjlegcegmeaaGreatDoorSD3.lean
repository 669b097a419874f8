/- What package mould does, as plain functions over lists: shapes, values, forms. No program is named here. -/
import Derived.WalkKit
namespace Go.Proofs.YtamgjlegcegmeaaGreatDoor.M

/-- A shape. -/
inductive Sh where
  | num | blob | list (s : Sh) | row (l : List Sh)

/-- A value: a number, bytes, values. -/
inductive V where
  | mk (n : Nat) (b : List UInt8) (l : List V)

def V.n : V → Nat | .mk n _ _ => n
def V.b : V → List UInt8 | .mk _ b _ => b
def V.l : V → List V | .mk _ _ l => l

mutual
def solid : Sh → Bool
  | .num => true
  | .blob => true
  | .list _ => true
  | .row l => solids l
def solids : List Sh → Bool
  | [] => false
  | s :: l => solid s || solids l
end

/-- The parts of a row, up to its end: 'p' reads one part. -/
def pRow (p : List UInt8 → Option (Sh × List UInt8)) : Nat → List UInt8 → Option (List Sh × List UInt8)
  | 0, _ => none
  | _ + 1, [] => none
  | k + 1, c :: r => if c = 93 then some ([], r) else
      match p (c :: r) with
      | none => none
      | some (s, r') => match pRow p k r' with
        | none => none
        | some (l, r'') => some (s :: l, r'')

/-- A shape at the front of a text, in so many others: what is left of nine. -/
def pShape : Nat → List UInt8 → Option (Sh × List UInt8)
  | 0, _ => none
  | _ + 1, [] => none
  | d + 1, c :: r =>
    if c = 110 then some (.num, r)
    else if c = 98 then some (.blob, r)
    else if c = 42 then match pShape d r with
      | none => none
      | some (s, r') => some (.list s, r')
    else if c = 91 then match pRow (pShape d) (r.length + 1) r with
      | none => none
      | some (l, r') => some (.row l, r')
    else none

/-- The shape that a text is. -/
def shape (t : List UInt8) : Option Sh :=
  if 64 < t.length then none else
  match pShape 9 t with
  | some (s, []) => some s
  | _ => none

mutual
def isV : Sh → V → Bool
  | .num, _ => true
  | .blob, _ => true
  | .list s, v => v.l.all (isV s)
  | .row l, v => isVs l v.l
def isVs : List Sh → List V → Bool
  | [], [] => true
  | s :: l, v :: vs => isV s v && isVs l vs
  | _, _ => false
end

/-- A number's digits to the base 256, the greatest first. -/
def dig : Nat → Nat → List UInt8
  | 0, _ => []
  | k + 1, n => if n = 0 then [] else dig k (n / 256) ++ [UInt8.ofNat (n % 256)]

def num (n : Nat) : List UInt8 := UInt8.ofNat (dig 8 n).length :: dig 8 n

mutual
def putV : Sh → V → List UInt8
  | .num, v => num v.n
  | .blob, v => num v.b.length ++ v.b
  | .list s, v => num v.l.length ++ (v.l.map (putV s)).flatten
  | .row l, v => putVs l v.l
def putVs : List Sh → List V → List UInt8
  | s :: l, v :: vs => putV s v ++ putVs l vs
  | _, _ => []
end

/-- A number at the front: its value and what is left; or the error's number. -/
def takeNum : List UInt8 → Except Int (Nat × List UInt8)
  | [] => .error 11
  | c :: r =>
    if 8 < c.toNat then .error 13
    else if 0 < c.toNat ∧ r.head? = some 0 then .error 13
    else if r.length < c.toNat then .error 11
    else .ok ((r.take c.toNat).foldl (fun n d => n * 256 + d.toNat) 0, r.drop c.toNat)

def takeMany (t : List UInt8 → Except Int (V × List UInt8)) : Nat → List UInt8 → Except Int (List V × List UInt8)
  | 0, b => .ok ([], b)
  | k + 1, b => match t b with
    | .error e => .error e
    | .ok (v, b') => match takeMany t k b' with
      | .error e => .error e
      | .ok (l, b'') => .ok (v :: l, b'')

mutual
def takeV : Sh → List UInt8 → Except Int (V × List UInt8)
  | .num, b => match takeNum b with
    | .error e => .error e
    | .ok (n, r) => .ok (.mk n [] [], r)
  | .blob, b => match takeNum b with
    | .error e => .error e
    | .ok (n, r) => if r.length < n then .error 11 else .ok (.mk 0 (r.take n) [], r.drop n)
  | .list s, b => match takeNum b with
    | .error e => .error e
    | .ok (n, r) =>
      if solid s = true ∧ r.length < n then .error 11
      else if solid s = false ∧ 1048576 < n then .error 13
      else match takeMany (takeV s) n r with
        | .error e => .error e
        | .ok (l, r') => .ok (.mk 0 [] l, r')
  | .row l, b => match takeVs l b with
    | .error e => .error e
    | .ok (l, r') => .ok (.mk 0 [] l, r')
def takeVs : List Sh → List UInt8 → Except Int (List V × List UInt8)
  | [], b => .ok ([], b)
  | s :: l, b => match takeV s b with
    | .error e => .error e
    | .ok (v, b') => match takeVs l b' with
      | .error e => .error e
      | .ok (vs, b'') => .ok (v :: vs, b'')
end

/-- Take of a shape: all the bytes. -/
def take (s : Sh) (b : List UInt8) : Except Int V :=
  match takeV s b with
  | .error e => .error e
  | .ok (v, []) => .ok v
  | .ok (_, _ :: _) => .error 12


theorem pRow_less {p : List UInt8 → Option (Sh × List UInt8)} (hp : ∀ b s r, p b = some (s, r) → r.length < b.length) :
    ∀ (k : Nat) (b : List UInt8) (l : List Sh) (r : List UInt8), pRow p k b = some (l, r) → r.length < b.length
  | 0, b, l, r, h => by simp [pRow] at h
  | k + 1, [], l, r, h => by simp [pRow] at h
  | k + 1, c :: b, l, r, h => by
    rw [pRow] at h
    split at h
    · simp at h; rw [← h.2]; simp
    · split at h
      · simp at h
      · rename_i s r' h1
        split at h
        · simp at h
        · rename_i l' r'' h2
          simp at h
          have a := hp _ _ _ h1
          have b := pRow_less hp k _ _ _ h2
          rw [← h.2]; omega

theorem pShape_less : ∀ (d : Nat) (b : List UInt8) (s : Sh) (r : List UInt8), pShape d b = some (s, r) → r.length < b.length
  | 0, b, s, r, h => by simp [pShape] at h
  | d + 1, [], s, r, h => by simp [pShape] at h
  | d + 1, c :: b, s, r, h => by
    rw [pShape] at h
    split at h
    · simp at h; rw [← h.2]; simp
    split at h
    · simp at h; rw [← h.2]; simp
    split at h
    · split at h
      · simp at h
      · rename_i s' r' h1
        simp at h
        have := pShape_less d _ _ _ h1
        rw [← h.2]; simp; omega
    split at h
    · split at h
      · simp at h
      · rename_i l' r' h1
        simp at h
        have := pRow_less (pShape_less d) _ _ _ _ h1
        rw [← h.2]; simp; omega
    · simp at h

/-- Parts read already, ahead of what is read then. -/
def cat (l : List Sh) (x : Option (List Sh × List UInt8)) : Option (List Sh × List UInt8) := x.map fun y => (l ++ y.1, y.2)

theorem cat_nil (x : Option (List Sh × List UInt8)) : x = cat [] x := by cases x <;> rfl

theorem solids_snoc (l : List Sh) (s : Sh) : solids (l ++ [s]) = (solids l || solid s) := by
  induction l with
  | nil => simp [solids]
  | cons a l ih => simp [solids, ih, Bool.or_assoc]

/-- One part more is read. -/
theorem cat_step {p : List UInt8 → Option (Sh × List UInt8)} {k : Nat} {b r : List UInt8} {c : UInt8} {l : List Sh} {s : Sh} (hc : c ≠ 93) (h : p (c :: b) = some (s, r)) :
    cat l (pRow p (k + 1) (c :: b)) = cat (l ++ [s]) (pRow p k r) := by
  rw [pRow, if_neg hc, h]
  cases h2 : pRow p k r with
  | none => simp [cat, h2]
  | some x => obtain ⟨a, b⟩ := x; simp [cat, h2]

theorem cat_fails {p : List UInt8 → Option (Sh × List UInt8)} {k : Nat} {b : List UInt8} {c : UInt8} {l : List Sh} (hc : c ≠ 93) (h : p (c :: b) = none) :
    cat l (pRow p (k + 1) (c :: b)) = none := by
  rw [pRow, if_neg hc, h]; rfl

theorem cat_ends {p : List UInt8 → Option (Sh × List UInt8)} {k : Nat} {b : List UInt8} {l : List Sh} : cat l (pRow p (k + 1) (93 :: b)) = some (l, b) := by
  simp [pRow, cat]

theorem cat_short {p : List UInt8 → Option (Sh × List UInt8)} {k : Nat} {l : List Sh} : cat l (pRow p k []) = none := by
  cases k <;> simp [pRow, cat]

/-- How many bits a number takes. -/
def blen (n : Nat) : Nat := if n = 0 then 0 else n.log2 + 1

theorem blen_le (n k : Nat) : blen n ≤ k ↔ n < 2 ^ k := by
  unfold blen
  by_cases h : n = 0
  · subst h; simp; exact Nat.pow_pos (by omega)
  · rw [if_neg h, ← Nat.log2_lt h]; omega

theorem blen_shift (n k : Nat) (h : 2 ^ k ≤ n) : blen n = k + blen (n / 2 ^ k) := by
  have h1 : blen n ≤ k + blen (n / 2 ^ k) := by
    rw [blen_le, Nat.pow_add]
    have := (blen_le (n / 2 ^ k) (blen (n / 2 ^ k))).1 (Nat.le_refl _)
    rw [Nat.div_lt_iff_lt_mul (Nat.pow_pos (by omega)), Nat.mul_comm] at this
    exact this
  have h2 : ¬ blen n ≤ k := by rw [blen_le]; omega
  have h3 : blen (n / 2 ^ k) ≤ blen n - k := by
    rw [blen_le, Nat.div_lt_iff_lt_mul (Nat.pow_pos (by omega)), ← Nat.pow_add]
    have := (blen_le n (blen n)).1 (Nat.le_refl _)
    rw [show blen n - k + k = blen n from by omega]
    exact this
  omega

theorem dig_length : ∀ (k n : Nat), n < 256 ^ k → (dig k n).length = (blen n + 7) / 8
  | 0, n, h => by
    obtain rfl : n = 0 := by simpa using h
    simp [dig, blen]
  | k + 1, n, h => by
    rw [dig]
    by_cases h0 : n = 0
    · subst h0; simp [blen]
    · rw [if_neg h0, List.length_append, dig_length k (n / 256) (by rw [Nat.div_lt_iff_lt_mul (by omega), ← Nat.pow_succ]; exact h)]
      by_cases h1 : 2 ^ 8 ≤ n
      · rw [blen_shift n 8 h1]; simp; omega
      · have e : n / 256 = 0 := by omega
        have a : blen n ≤ 8 := by rw [blen_le]; omega
        have b : ¬ blen n ≤ 0 := by rw [blen_le]; simpa using h0
        have c : blen 0 = 0 := rfl
        rw [e, c, List.length_singleton]; omega

theorem dig_length_le (n : Nat) (h : n < 18446744073709551616) : (dig 8 n).length ≤ 8 := by
  rw [dig_length 8 n (by omega)]
  have : blen n ≤ 64 := by rw [blen_le]; omega
  omega

theorem dig_get : ∀ (k n i : Nat), n < 256 ^ k → (h : i < (dig k n).length) → (dig k n)[(dig k n).length - 1 - i]? = some (UInt8.ofNat (n / 2 ^ (8 * i) % 256))
  | 0, n, i, hn, h => by simp [dig] at h
  | k + 1, n, i, hn, h => by
    rw [dig] at h ⊢
    by_cases h0 : n = 0
    · rw [if_pos h0] at h; simp at h
    · rw [if_neg h0] at h ⊢
      rw [List.length_append, List.length_singleton] at h ⊢
      cases i with
      | zero =>
        rw [show (dig k (n / 256)).length + 1 - 1 - 0 = (dig k (n / 256)).length from by omega, List.getElem?_append_right (Nat.le_refl _)]
        simp
      | succ i =>
        rw [List.getElem?_append_left (by omega), show (dig k (n / 256)).length + 1 - 1 - (i + 1) = (dig k (n / 256)).length - 1 - i from by omega,
          dig_get k (n / 256) i (by rw [Nat.div_lt_iff_lt_mul (by omega), ← Nat.pow_succ]; exact hn) (by omega)]
        rw [Nat.div_div_eq_div_mul, show 256 * 2 ^ (8 * i) = 2 ^ (8 * (i + 1)) from by rw [show 8 * (i + 1) = 8 * i + 8 from by omega, Nat.pow_add]; omega]

/-- The digits from the greatest on, one more. -/
theorem dig_take {n j : Nat} (hn : n < 18446744073709551616) (h : j < (dig 8 n).length) :
    (dig 8 n).take ((dig 8 n).length - j) = (dig 8 n).take ((dig 8 n).length - (j + 1)) ++ [UInt8.ofNat (n / 2 ^ (8 * j) % 256)] := by
  have e := dig_get 8 n j (by omega) h
  rw [show (dig 8 n).length - j = (dig 8 n).length - (j + 1) + 1 from by omega, List.take_add_one, show (dig 8 n).length - (j + 1) = (dig 8 n).length - 1 - j from by omega, e]
  rfl

theorem num_length_le (n : Nat) (h : n < 18446744073709551616) : (num n).length ≤ 9 := by
  have := dig_length_le n h
  simp [num]; omega

theorem isVs_length : ∀ (l : List Sh) (vs : List V), isVs l vs = true → l.length = vs.length
  | [], [], _ => rfl
  | [], _ :: _, h => by simp [isVs] at h
  | _ :: _, [], h => by simp [isVs] at h
  | s :: l, v :: vs, h => by
    simp only [isVs, Bool.and_eq_true] at h
    simp [isVs_length l vs h.2]

theorem isVs_get : ∀ (l : List Sh) (vs : List V) (k : Nat) (h1 : k < l.length) (h2 : k < vs.length), isVs l vs = true → isV l[k] vs[k] = true
  | s :: l, v :: vs, 0, _, _, h => by simp only [isVs, Bool.and_eq_true] at h; exact h.1
  | s :: l, v :: vs, k + 1, h1, h2, h => by
    simp only [isVs, Bool.and_eq_true] at h
    exact isVs_get l vs k (by simpa using h1) (by simpa using h2) h.2

theorem isVs_step : ∀ (l : List Sh) (vs : List V) (k : Nat) (h1 : k < l.length) (h2 : k < vs.length), isVs (l.take k) (vs.take k) = true → isV l[k] vs[k] = true → isVs (l.take (k + 1)) (vs.take (k + 1)) = true
  | s :: l, v :: vs, 0, _, _, _, h => by simp only [List.getElem_cons_zero] at h; simp [isVs, h]
  | s :: l, v :: vs, k + 1, h1, h2, h, hk => by
    simp only [List.take_succ_cons, isVs, Bool.and_eq_true] at h ⊢
    exact ⟨h.1, isVs_step l vs k (by simpa using h1) (by simpa using h2) h.2 (by simpa using hk)⟩

theorem putVs_step : ∀ (l : List Sh) (vs : List V) (k : Nat) (h1 : k < l.length) (h2 : k < vs.length), putVs (l.take (k + 1)) (vs.take (k + 1)) = putVs (l.take k) (vs.take k) ++ putV l[k] vs[k]
  | s :: l, v :: vs, 0, _, _ => by simp [putVs]
  | s :: l, v :: vs, k + 1, h1, h2 => by
    simp only [List.take_succ_cons, putVs, List.getElem_cons_succ]
    rw [putVs_step l vs k (by simpa using h1) (by simpa using h2), List.append_assoc]

theorem dig_fuel : ∀ (k n : Nat), (dig k n).length ≤ k
  | 0, n => by simp [dig]
  | k + 1, n => by
    rw [dig]
    split
    · simp
    · have := dig_fuel k (n / 256)
      simp; omega

theorem num_le (n : Nat) : (num n).length ≤ 9 := by
  have := dig_fuel 8 n
  simp [num]; omega

mutual
/-- How long a shape's text is. -/
def ssize : Sh → Nat
  | .num => 1
  | .blob => 1
  | .list s => 1 + ssize s
  | .row l => 2 + ssizes l
def ssizes : List Sh → Nat
  | [] => 0
  | s :: l => ssize s + ssizes l
end

theorem ssize_pos (s : Sh) : 1 ≤ ssize s := by cases s <;> simp [ssize] <;> omega

theorem ssizes_length : ∀ (l : List Sh), l.length ≤ ssizes l
  | [] => by simp
  | s :: l => by
    have h1 := ssize_pos s
    have h2 := ssizes_length l
    simp only [List.length_cons, ssizes]
    omega

theorem ssizes_mem : ∀ (l : List Sh) (s : Sh), s ∈ l → ssize s ≤ ssizes l
  | [], s, h => by simp at h
  | t :: l, s, h => by
    simp only [ssizes]
    rcases List.mem_cons.1 h with h | h
    · rw [h]; omega
    · have := ssizes_mem l s h; omega

theorem pRow_size {p : List UInt8 → Option (Sh × List UInt8)} (hp : ∀ b s r, p b = some (s, r) → ssize s + r.length = b.length) :
    ∀ (k : Nat) (b : List UInt8) (l : List Sh) (r : List UInt8), pRow p k b = some (l, r) → ssizes l + 1 + r.length = b.length
  | 0, b, l, r, h => by simp [pRow] at h
  | k + 1, [], l, r, h => by simp [pRow] at h
  | k + 1, c :: b, l, r, h => by
    rw [pRow] at h
    split at h
    · simp at h; rw [← h.2, h.1]; simp [ssizes]; omega
    · split at h
      · simp at h
      · rename_i s r' h1
        split at h
        · simp at h
        · rename_i l' r'' h2
          simp at h
          have a := hp _ _ _ h1
          have b := pRow_size hp k _ _ _ h2
          rw [← h.2, ← h.1]
          simp only [ssizes]
          omega

theorem pShape_size : ∀ (d : Nat) (b : List UInt8) (s : Sh) (r : List UInt8), pShape d b = some (s, r) → ssize s + r.length = b.length
  | 0, b, s, r, h => by simp [pShape] at h
  | d + 1, [], s, r, h => by simp [pShape] at h
  | d + 1, c :: b, s, r, h => by
    rw [pShape] at h
    split at h
    · simp at h; rw [← h.2, ← h.1]; simp [ssize]; omega
    split at h
    · simp at h; rw [← h.2, ← h.1]; simp [ssize]; omega
    split at h
    · split at h
      · simp at h
      · rename_i s' r' h1
        simp at h
        have := pShape_size d _ _ _ h1
        rw [← h.2, ← h.1]; simp [ssize]; omega
    split at h
    · split at h
      · simp at h
      · rename_i l' r' h1
        simp at h
        have := pRow_size (pShape_size d) _ _ _ _ h1
        rw [← h.2, ← h.1]; simp [ssize]; omega
    · simp at h

theorem shape_size {t : List UInt8} {s : Sh} (h : shape t = some s) : ssize s ≤ 64 := by
  unfold shape at h
  split at h
  · simp at h
  · split at h
    · rename_i s' h1
      have := pShape_size _ _ _ _ h1
      simp at h this
      rw [← h]; omega
    · simp at h
end Go.Proofs.YtamgjlegcegmeaaGreatDoor.M
