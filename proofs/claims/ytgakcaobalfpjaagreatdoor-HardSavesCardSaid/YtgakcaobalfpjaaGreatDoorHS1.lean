/- What package mould does, as plain functions over lists: shapes, values, forms. No program is named here. Small laws that the guide's library lacks: an append on a row of the call's own that tells which block the answer lies in. Bytes in memory, rows of bytes that a call makes, blocks that stand: what each text of mine leans on. How shapes and values of package mould lie in memory. parsePart, parseList, parseRow of package mould read shapes as pShape does. parseRow of package mould reads rows as pRow does; so all three parsers read as pShape does. parse and Right of package mould answer as 'shape' does. math/bits.Len64: how many bits a number takes. layNumber and lay of package mould: what they append. -/
import Derived.WalkKit
import Derived.Laws.OwnMore
import Derived.RegionTactic
import Derived.StillTailTactics
import Derived.OrdersHeld
import Derived.Deep.RegionHeld
import Derived.Test.YtgakcaobalfpjaaGreatDoorRows
import Derived.WalkSpells
import Derived.Laws.BytesArg
import Derived.Lib.Hide
import Derived.WalkLawsBesides
/- Part: MouldSpec. -/
namespace Go.Proofs.YtgakcaobalfpjaaGreatDoor.M

/-- A shape. -/
inductive Sh where
  | num | blob | list (s : Sh) | row (l : List Sh)

/-- A value: a number, bytes, values. -/
inductive V where
  | mk (n : Nat) (b : List UInt8) (l : List V)

def V.n : V → Nat | .mk n _ _ => n
def V.b : V → List UInt8 | .mk _ b _ => b
def V.l : V → List V | .mk _ _ l => l

mutual
def solid : Sh → Bool
  | .num => true
  | .blob => true
  | .list _ => true
  | .row l => solids l
def solids : List Sh → Bool
  | [] => false
  | s :: l => solid s || solids l
end

/-- The parts of a row, up to its end: 'p' reads one part. -/
def pRow (p : List UInt8 → Option (Sh × List UInt8)) : Nat → List UInt8 → Option (List Sh × List UInt8)
  | 0, _ => none
  | _ + 1, [] => none
  | k + 1, c :: r => if c = 93 then some ([], r) else
      match p (c :: r) with
      | none => none
      | some (s, r') => match pRow p k r' with
        | none => none
        | some (l, r'') => some (s :: l, r'')

/-- A shape at the front of a text, in so many others: what is left of nine. -/
def pShape : Nat → List UInt8 → Option (Sh × List UInt8)
  | 0, _ => none
  | _ + 1, [] => none
  | d + 1, c :: r =>
    if c = 110 then some (.num, r)
    else if c = 98 then some (.blob, r)
    else if c = 42 then match pShape d r with
      | none => none
      | some (s, r') => some (.list s, r')
    else if c = 91 then match pRow (pShape d) (r.length + 1) r with
      | none => none
      | some (l, r') => some (.row l, r')
    else none

/-- The shape that a text is. -/
def shape (t : List UInt8) : Option Sh :=
  if 64 < t.length then none else
  match pShape 9 t with
  | some (s, []) => some s
  | _ => none

mutual
def isV : Sh → V → Bool
  | .num, _ => true
  | .blob, _ => true
  | .list s, v => v.l.all (isV s)
  | .row l, v => isVs l v.l
def isVs : List Sh → List V → Bool
  | [], [] => true
  | s :: l, v :: vs => isV s v && isVs l vs
  | _, _ => false
end

/-- A number's digits to the base 256, the greatest first. -/
def dig : Nat → Nat → List UInt8
  | 0, _ => []
  | k + 1, n => if n = 0 then [] else dig k (n / 256) ++ [UInt8.ofNat (n % 256)]

def num (n : Nat) : List UInt8 := UInt8.ofNat (dig 8 n).length :: dig 8 n

mutual
def putV : Sh → V → List UInt8
  | .num, v => num v.n
  | .blob, v => num v.b.length ++ v.b
  | .list s, v => num v.l.length ++ (v.l.map (putV s)).flatten
  | .row l, v => putVs l v.l
def putVs : List Sh → List V → List UInt8
  | s :: l, v :: vs => putV s v ++ putVs l vs
  | _, _ => []
end

/-- A number at the front: its value and what is left; or the error's number. -/
def takeNum : List UInt8 → Except Int (Nat × List UInt8)
  | [] => .error 11
  | c :: r =>
    if 8 < c.toNat then .error 13
    else if 0 < c.toNat ∧ r.head? = some 0 then .error 13
    else if r.length < c.toNat then .error 11
    else .ok ((r.take c.toNat).foldl (fun n d => n * 256 + d.toNat) 0, r.drop c.toNat)

def takeMany (t : List UInt8 → Except Int (V × List UInt8)) : Nat → List UInt8 → Except Int (List V × List UInt8)
  | 0, b => .ok ([], b)
  | k + 1, b => match t b with
    | .error e => .error e
    | .ok (v, b') => match takeMany t k b' with
      | .error e => .error e
      | .ok (l, b'') => .ok (v :: l, b'')

mutual
def takeV : Sh → List UInt8 → Except Int (V × List UInt8)
  | .num, b => match takeNum b with
    | .error e => .error e
    | .ok (n, r) => .ok (.mk n [] [], r)
  | .blob, b => match takeNum b with
    | .error e => .error e
    | .ok (n, r) => if r.length < n then .error 11 else .ok (.mk 0 (r.take n) [], r.drop n)
  | .list s, b => match takeNum b with
    | .error e => .error e
    | .ok (n, r) =>
      if solid s = true ∧ r.length < n then .error 11
      else if solid s = false ∧ 1048576 < n then .error 13
      else match takeMany (takeV s) n r with
        | .error e => .error e
        | .ok (l, r') => .ok (.mk 0 [] l, r')
  | .row l, b => match takeVs l b with
    | .error e => .error e
    | .ok (l, r') => .ok (.mk 0 [] l, r')
def takeVs : List Sh → List UInt8 → Except Int (List V × List UInt8)
  | [], b => .ok ([], b)
  | s :: l, b => match takeV s b with
    | .error e => .error e
    | .ok (v, b') => match takeVs l b' with
      | .error e => .error e
      | .ok (vs, b'') => .ok (v :: vs, b'')
end

/-- Take of a shape: all the bytes. -/
def take (s : Sh) (b : List UInt8) : Except Int V :=
  match takeV s b with
  | .error e => .error e
  | .ok (v, []) => .ok v
  | .ok (_, _ :: _) => .error 12


theorem pRow_less {p : List UInt8 → Option (Sh × List UInt8)} (hp : ∀ b s r, p b = some (s, r) → r.length < b.length) :
    ∀ (k : Nat) (b : List UInt8) (l : List Sh) (r : List UInt8), pRow p k b = some (l, r) → r.length < b.length
  | 0, b, l, r, h => by simp [pRow] at h
  | k + 1, [], l, r, h => by simp [pRow] at h
  | k + 1, c :: b, l, r, h => by
    rw [pRow] at h
    split at h
    · simp at h; rw [← h.2]; simp
    · split at h
      · simp at h
      · rename_i s r' h1
        split at h
        · simp at h
        · rename_i l' r'' h2
          simp at h
          have a := hp _ _ _ h1
          have b := pRow_less hp k _ _ _ h2
          rw [← h.2]; omega

theorem pShape_less : ∀ (d : Nat) (b : List UInt8) (s : Sh) (r : List UInt8), pShape d b = some (s, r) → r.length < b.length
  | 0, b, s, r, h => by simp [pShape] at h
  | d + 1, [], s, r, h => by simp [pShape] at h
  | d + 1, c :: b, s, r, h => by
    rw [pShape] at h
    split at h
    · simp at h; rw [← h.2]; simp
    split at h
    · simp at h; rw [← h.2]; simp
    split at h
    · split at h
      · simp at h
      · rename_i s' r' h1
        simp at h
        have := pShape_less d _ _ _ h1
        rw [← h.2]; simp; omega
    split at h
    · split at h
      · simp at h
      · rename_i l' r' h1
        simp at h
        have := pRow_less (pShape_less d) _ _ _ _ h1
        rw [← h.2]; simp; omega
    · simp at h

/-- Parts read already, ahead of what is read then. -/
def cat (l : List Sh) (x : Option (List Sh × List UInt8)) : Option (List Sh × List UInt8) := x.map fun y => (l ++ y.1, y.2)

theorem cat_nil (x : Option (List Sh × List UInt8)) : x = cat [] x := by cases x <;> rfl

theorem solids_snoc (l : List Sh) (s : Sh) : solids (l ++ [s]) = (solids l || solid s) := by
  induction l with
  | nil => simp [solids]
  | cons a l ih => simp [solids, ih, Bool.or_assoc]

/-- One part more is read. -/
theorem cat_step {p : List UInt8 → Option (Sh × List UInt8)} {k : Nat} {b r : List UInt8} {c : UInt8} {l : List Sh} {s : Sh} (hc : c ≠ 93) (h : p (c :: b) = some (s, r)) :
    cat l (pRow p (k + 1) (c :: b)) = cat (l ++ [s]) (pRow p k r) := by
  rw [pRow, if_neg hc, h]
  cases h2 : pRow p k r with
  | none => simp [cat, h2]
  | some x => obtain ⟨a, b⟩ := x; simp [cat, h2]

theorem cat_fails {p : List UInt8 → Option (Sh × List UInt8)} {k : Nat} {b : List UInt8} {c : UInt8} {l : List Sh} (hc : c ≠ 93) (h : p (c :: b) = none) :
    cat l (pRow p (k + 1) (c :: b)) = none := by
  rw [pRow, if_neg hc, h]; rfl

theorem cat_ends {p : List UInt8 → Option (Sh × List UInt8)} {k : Nat} {b : List UInt8} {l : List Sh} : cat l (pRow p (k + 1) (93 :: b)) = some (l, b) := by
  simp [pRow, cat]

theorem cat_short {p : List UInt8 → Option (Sh × List UInt8)} {k : Nat} {l : List Sh} : cat l (pRow p k []) = none := by
  cases k <;> simp [pRow, cat]

/-- How many bits a number takes. -/
def blen (n : Nat) : Nat := if n = 0 then 0 else n.log2 + 1

theorem blen_le (n k : Nat) : blen n ≤ k ↔ n < 2 ^ k := by
  unfold blen
  by_cases h : n = 0
  · subst h; simp; exact Nat.pow_pos (by omega)
  · rw [if_neg h, ← Nat.log2_lt h]; omega

theorem blen_shift (n k : Nat) (h : 2 ^ k ≤ n) : blen n = k + blen (n / 2 ^ k) := by
  have h1 : blen n ≤ k + blen (n / 2 ^ k) := by
    rw [blen_le, Nat.pow_add]
    have := (blen_le (n / 2 ^ k) (blen (n / 2 ^ k))).1 (Nat.le_refl _)
    rw [Nat.div_lt_iff_lt_mul (Nat.pow_pos (by omega)), Nat.mul_comm] at this
    exact this
  have h2 : ¬ blen n ≤ k := by rw [blen_le]; omega
  have h3 : blen (n / 2 ^ k) ≤ blen n - k := by
    rw [blen_le, Nat.div_lt_iff_lt_mul (Nat.pow_pos (by omega)), ← Nat.pow_add]
    have := (blen_le n (blen n)).1 (Nat.le_refl _)
    rw [show blen n - k + k = blen n from by omega]
    exact this
  omega

theorem dig_length : ∀ (k n : Nat), n < 256 ^ k → (dig k n).length = (blen n + 7) / 8
  | 0, n, h => by
    obtain rfl : n = 0 := by simpa using h
    simp [dig, blen]
  | k + 1, n, h => by
    rw [dig]
    by_cases h0 : n = 0
    · subst h0; simp [blen]
    · rw [if_neg h0, List.length_append, dig_length k (n / 256) (by rw [Nat.div_lt_iff_lt_mul (by omega), ← Nat.pow_succ]; exact h)]
      by_cases h1 : 2 ^ 8 ≤ n
      · rw [blen_shift n 8 h1]; simp; omega
      · have e : n / 256 = 0 := by omega
        have a : blen n ≤ 8 := by rw [blen_le]; omega
        have b : ¬ blen n ≤ 0 := by rw [blen_le]; simpa using h0
        have c : blen 0 = 0 := rfl
        rw [e, c, List.length_singleton]; omega

theorem dig_length_le (n : Nat) (h : n < 18446744073709551616) : (dig 8 n).length ≤ 8 := by
  rw [dig_length 8 n (by omega)]
  have : blen n ≤ 64 := by rw [blen_le]; omega
  omega

theorem dig_get : ∀ (k n i : Nat), n < 256 ^ k → (h : i < (dig k n).length) → (dig k n)[(dig k n).length - 1 - i]? = some (UInt8.ofNat (n / 2 ^ (8 * i) % 256))
  | 0, n, i, hn, h => by simp [dig] at h
  | k + 1, n, i, hn, h => by
    rw [dig] at h ⊢
    by_cases h0 : n = 0
    · rw [if_pos h0] at h; simp at h
    · rw [if_neg h0] at h ⊢
      rw [List.length_append, List.length_singleton] at h ⊢
      cases i with
      | zero =>
        rw [show (dig k (n / 256)).length + 1 - 1 - 0 = (dig k (n / 256)).length from by omega, List.getElem?_append_right (Nat.le_refl _)]
        simp
      | succ i =>
        rw [List.getElem?_append_left (by omega), show (dig k (n / 256)).length + 1 - 1 - (i + 1) = (dig k (n / 256)).length - 1 - i from by omega,
          dig_get k (n / 256) i (by rw [Nat.div_lt_iff_lt_mul (by omega), ← Nat.pow_succ]; exact hn) (by omega)]
        rw [Nat.div_div_eq_div_mul, show 256 * 2 ^ (8 * i) = 2 ^ (8 * (i + 1)) from by rw [show 8 * (i + 1) = 8 * i + 8 from by omega, Nat.pow_add]; omega]

/-- The digits from the greatest on, one more. -/
theorem dig_take {n j : Nat} (hn : n < 18446744073709551616) (h : j < (dig 8 n).length) :
    (dig 8 n).take ((dig 8 n).length - j) = (dig 8 n).take ((dig 8 n).length - (j + 1)) ++ [UInt8.ofNat (n / 2 ^ (8 * j) % 256)] := by
  have e := dig_get 8 n j (by omega) h
  rw [show (dig 8 n).length - j = (dig 8 n).length - (j + 1) + 1 from by omega, List.take_add_one, show (dig 8 n).length - (j + 1) = (dig 8 n).length - 1 - j from by omega, e]
  rfl

theorem num_length_le (n : Nat) (h : n < 18446744073709551616) : (num n).length ≤ 9 := by
  have := dig_length_le n h
  simp [num]; omega

theorem isVs_length : ∀ (l : List Sh) (vs : List V), isVs l vs = true → l.length = vs.length
  | [], [], _ => rfl
  | [], _ :: _, h => by simp [isVs] at h
  | _ :: _, [], h => by simp [isVs] at h
  | s :: l, v :: vs, h => by
    simp only [isVs, Bool.and_eq_true] at h
    simp [isVs_length l vs h.2]

theorem isVs_get : ∀ (l : List Sh) (vs : List V) (k : Nat) (h1 : k < l.length) (h2 : k < vs.length), isVs l vs = true → isV l[k] vs[k] = true
  | s :: l, v :: vs, 0, _, _, h => by simp only [isVs, Bool.and_eq_true] at h; exact h.1
  | s :: l, v :: vs, k + 1, h1, h2, h => by
    simp only [isVs, Bool.and_eq_true] at h
    exact isVs_get l vs k (by simpa using h1) (by simpa using h2) h.2

theorem isVs_step : ∀ (l : List Sh) (vs : List V) (k : Nat) (h1 : k < l.length) (h2 : k < vs.length), isVs (l.take k) (vs.take k) = true → isV l[k] vs[k] = true → isVs (l.take (k + 1)) (vs.take (k + 1)) = true
  | s :: l, v :: vs, 0, _, _, _, h => by simp only [List.getElem_cons_zero] at h; simp [isVs, h]
  | s :: l, v :: vs, k + 1, h1, h2, h, hk => by
    simp only [List.take_succ_cons, isVs, Bool.and_eq_true] at h ⊢
    exact ⟨h.1, isVs_step l vs k (by simpa using h1) (by simpa using h2) h.2 (by simpa using hk)⟩

theorem putVs_step : ∀ (l : List Sh) (vs : List V) (k : Nat) (h1 : k < l.length) (h2 : k < vs.length), putVs (l.take (k + 1)) (vs.take (k + 1)) = putVs (l.take k) (vs.take k) ++ putV l[k] vs[k]
  | s :: l, v :: vs, 0, _, _ => by simp [putVs]
  | s :: l, v :: vs, k + 1, h1, h2 => by
    simp only [List.take_succ_cons, putVs, List.getElem_cons_succ]
    rw [putVs_step l vs k (by simpa using h1) (by simpa using h2), List.append_assoc]

theorem dig_fuel : ∀ (k n : Nat), (dig k n).length ≤ k
  | 0, n => by simp [dig]
  | k + 1, n => by
    rw [dig]
    split
    · simp
    · have := dig_fuel k (n / 256)
      simp; omega

theorem num_le (n : Nat) : (num n).length ≤ 9 := by
  have := dig_fuel 8 n
  simp [num]; omega

mutual
/-- How long a shape's text is. -/
def ssize : Sh → Nat
  | .num => 1
  | .blob => 1
  | .list s => 1 + ssize s
  | .row l => 2 + ssizes l
def ssizes : List Sh → Nat
  | [] => 0
  | s :: l => ssize s + ssizes l
end

theorem ssize_pos (s : Sh) : 1 ≤ ssize s := by cases s <;> simp [ssize] <;> omega

theorem ssizes_length : ∀ (l : List Sh), l.length ≤ ssizes l
  | [] => by simp
  | s :: l => by
    have h1 := ssize_pos s
    have h2 := ssizes_length l
    simp only [List.length_cons, ssizes]
    omega

theorem ssizes_mem : ∀ (l : List Sh) (s : Sh), s ∈ l → ssize s ≤ ssizes l
  | [], s, h => by simp at h
  | t :: l, s, h => by
    simp only [ssizes]
    rcases List.mem_cons.1 h with h | h
    · rw [h]; omega
    · have := ssizes_mem l s h; omega

theorem pRow_size {p : List UInt8 → Option (Sh × List UInt8)} (hp : ∀ b s r, p b = some (s, r) → ssize s + r.length = b.length) :
    ∀ (k : Nat) (b : List UInt8) (l : List Sh) (r : List UInt8), pRow p k b = some (l, r) → ssizes l + 1 + r.length = b.length
  | 0, b, l, r, h => by simp [pRow] at h
  | k + 1, [], l, r, h => by simp [pRow] at h
  | k + 1, c :: b, l, r, h => by
    rw [pRow] at h
    split at h
    · simp at h; rw [← h.2, h.1]; simp [ssizes]; omega
    · split at h
      · simp at h
      · rename_i s r' h1
        split at h
        · simp at h
        · rename_i l' r'' h2
          simp at h
          have a := hp _ _ _ h1
          have b := pRow_size hp k _ _ _ h2
          rw [← h.2, ← h.1]
          simp only [ssizes]
          omega

theorem pShape_size : ∀ (d : Nat) (b : List UInt8) (s : Sh) (r : List UInt8), pShape d b = some (s, r) → ssize s + r.length = b.length
  | 0, b, s, r, h => by simp [pShape] at h
  | d + 1, [], s, r, h => by simp [pShape] at h
  | d + 1, c :: b, s, r, h => by
    rw [pShape] at h
    split at h
    · simp at h; rw [← h.2, ← h.1]; simp [ssize]; omega
    split at h
    · simp at h; rw [← h.2, ← h.1]; simp [ssize]; omega
    split at h
    · split at h
      · simp at h
      · rename_i s' r' h1
        simp at h
        have := pShape_size d _ _ _ h1
        rw [← h.2, ← h.1]; simp [ssize]; omega
    split at h
    · split at h
      · simp at h
      · rename_i l' r' h1
        simp at h
        have := pRow_size (pShape_size d) _ _ _ _ h1
        rw [← h.2, ← h.1]; simp [ssize]; omega
    · simp at h

theorem shape_size {t : List UInt8} {s : Sh} (h : shape t = some s) : ssize s ≤ 64 := by
  unfold shape at h
  split at h
  · simp at h
  · split at h
    · rename_i s' h1
      have := pShape_size _ _ _ _ h1
      simp at h this
      rw [← h]; omega
    · simp at h
end Go.Proofs.YtgakcaobalfpjaaGreatDoor.M

/- Part: Lib. -/
namespace Go.Proofs.YtgakcaobalfpjaaGreatDoor.M
open Go.RowKit

/-- The answer of an append on an owned row lies where the row lay, or in the newest block. -/
theorem run_append_own2 {P : Program} (w : World) (base : Nat) (t ty e : TypeId) (i : TypeInfo) (z : Value) (size bytes : Nat) (ht : P.underlying t = some (.slice e)) (hi : P.info? e = some i) (hz : i.zero = some z)
    (hsize : i.size = size) (hby : i.bytes = bytes) (hzs : z.cells.size = size) (hsz : 0 < size)
    (v : Value) (n : Nat) (xs : List Value) (hown : w.ownsRow base e size v n xs)
    (a : Addr) (m c : Nat) (news : List Value) (hl : news.length = m * size) (hnews : ∀ j u, news[j]? = some u → w.cell? (a.add j) = some u) (h1 : ∀ u ∈ news, u.oneCell' = true)
    (h63 : n + m ≤ maxLen) (hbytes : (n + m) * bytes ≤ 140737488355328) (hbase : base ≤ w.heap.size) :
    ∃ v' w', (Builtin.append_ #[t, t] ty #[v, .slice (some a) m c]).run P w = .ok v' w' ∧ w'.ownsRow base e size v' (n + m) (xs ++ news) ∧ w.grownBy w' v.ownBlock ∧
      (v' = .slice none 0 0 ↔ v = .slice none 0 0 ∧ m = 0) ∧ (v'.ownBlock = v.ownBlock ∨ v'.ownBlock = some w.heap.size) := by
  obtain ⟨v', w', hr, h2, h3, h4⟩ := run_append_own (P := P) w base t ty e i z size bytes ht hi hz hsize hby hzs hsz v n xs hown a m c news hl hnews h1 h63 hbytes hbase
  refine ⟨v', w', hr, h2, h3, h4, ?_⟩
  subst hsize
  subst hby
  have hsmall : n + m ≤ 9223372036854775807 := by simp only [maxLen] at h63; omega
  rcases hown.2 with ⟨rfl, rfl⟩ | ⟨g, cap, cur, rfl, hbg, hg, hnc, hcm, hcs, htake⟩
  · by_cases hm : m = 0
    · left
      rw [h4.2 ⟨rfl, hm⟩]
    · have hq := run_append_nil (P := P) w t ty e i z ht hi hz a m c news hl hnews (by omega) (by omega) (by have hb := hbytes; simp only [Nat.zero_add] at hb; omega)
      rw [hq] at hr
      cases hr
      right; rfl
  · by_cases hroom : n + m ≤ cap
    · have hfit : n * i.size + news.length ≤ cur.size := by rw [hl, hcs, ← Nat.add_mul]; exact Nat.mul_le_mul_right _ hroom
      have hq := run_append_room (P := P) w t ty e i ht hi g n cap cur hg a m c news hl hnews h1 hroom hfit
      rw [hq] at hr
      cases hr
      left; rfl
    · have hq := run_append_grow (P := P) w t ty e i z ht hi hz ⟨g, 0, none⟩ n cap xs hown.1 (hown.cells (g := g) rfl) a m c news hl hnews (by omega) (by omega) (growslice_fits (by omega) hbytes)
      rw [hq] at hr
      cases hr
      right; rfl

theorem wpList_append_own2 {P : Program} (w : World) {ops : Array Oper} {rest : List Oper} {o : Oper} {a : Act} {Q : Exit → Act → World → Prop} (hgd : o.guard = none) (s x : Operand) (t : TypeId)
    (ho : o.op = .call { callee := .builtin .append, args := #[s, x], argTypes := #[t, t] })
    (base : Nat) (e : TypeId) (i : TypeInfo) (z : Value) (size bytes : Nat) (ht : P.underlying t = some (.slice e)) (hi : P.info? e = some i) (hz : i.zero = some z)
    (hsize : i.size = size) (hby : i.bytes = bytes) (hzs : z.cells.size = size) (hsz : 0 < size)
    (v : Value) (n : Nat) (xs : List Value) (hs : a.eval s = v) (hown : w.ownsRow base e size v n xs)
    (ad : Addr) (m c : Nat) (news : List Value) (hx : a.eval x = .slice (some ad) m c) (hl : news.length = m * size) (hnews : ∀ j u, news[j]? = some u → w.cell? (ad.add j) = some u) (h1 : ∀ u ∈ news, u.oneCell' = true)
    (h63 : n + m ≤ maxLen) (hbytes : (n + m) * bytes ≤ 140737488355328) (hbase : base ≤ w.heap.size)
    (h : ∀ v' w', w'.ownsRow base e size v' (n + m) (xs ++ news) → w.grownBy w' v.ownBlock → (v' = .slice none 0 0 ↔ v = .slice none 0 0 ∧ m = 0) →
      (v'.ownBlock = v.ownBlock ∨ v'.ownBlock = some w.heap.size) → wpList P ops Q rest (a.put o.dst v') w') : wpList P ops Q (o :: rest) a w :=
  wpList_plain hgd fun _ hK => by
    obtain ⟨v', w', hr, h2, h3, h4, h5⟩ := run_append_own2 (P := P) w base t o.type e i z size bytes ht hi hz hsize hby hzs hsz v n xs hown ad m c news hl hnews h1 h63 hbytes hbase
    unfold Oper.wp execOp
    simp only [ho, resolve, invoke, builtin, Sem.run_bind, Sem.run_pure, Result.andThen_ok, List.map_toArray, List.map_cons, List.map_nil, hs, hx, hr]
    exact hK _ _ (h v' w' h2 h3 h4 h5)

/-- Any slice appended to a row of the call's own: what it yields. -/
def Yields (w : World) (x : Value) (m size : Nat) (news : List Value) : Prop :=
  news.length = m * size ∧ (∀ u ∈ news, u.oneCell' = true) ∧ ((x = .slice none 0 0 ∧ m = 0) ∨ ∃ a c, x = .slice (some a) m c ∧ ∀ j u, news[j]? = some u → w.cell? (a.add j) = some u)

theorem Yields.drew {w : World} {x : Value} {m size : Nat} {news : List Value} (h : Yields w x m size news) : Yields w.drew x m size news := h

/-- What an append to an owned row leaves. -/
def AppLeft (w : World) (base : Nat) (e : TypeId) (size : Nat) (v : Value) (n m : Nat) (xs news : List Value) (v' : Value) (w' : World) : Prop :=
  w'.ownsRow base e size v' (n + m) (xs ++ news) ∧ w.grownBy w' v.ownBlock ∧ (v'.ownBlock = v.ownBlock ∨ v'.ownBlock = some w.heap.size)

theorem run_append_any {P : Program} (w : World) (base : Nat) (t ty e : TypeId) (i : TypeInfo) (z : Value) (size bytes : Nat) (ht : P.underlying t = some (.slice e)) (hi : P.info? e = some i) (hz : i.zero = some z)
    (hsize : i.size = size) (hby : i.bytes = bytes) (hzs : z.cells.size = size) (hsz : 0 < size)
    (v : Value) (n : Nat) (xs : List Value) (hown : w.ownsRow base e size v n xs) (x : Value) (m : Nat) (news : List Value) (hx : Yields w x m size news)
    (h63 : n + m ≤ maxLen) (hbytes : (n + m) * bytes ≤ 140737488355328) (hbase : base ≤ w.heap.size) :
    ∃ v' w', (Builtin.append_ #[t, t] ty #[v, x]).run P w = .ok v' w' ∧ AppLeft w base e size v n m xs news v' w' := by
  obtain ⟨hl, h1, ⟨rfl, rfl⟩ | ⟨a, c, rfl, hc⟩⟩ := hx
  · obtain rfl : news = [] := List.eq_nil_of_length_eq_zero (by simpa using hl)
    exact ⟨v, w, run_append_owned_none w base t ty e i size ht hi v n xs hown, by simpa using hown, ⟨rfl, rfl, rfl, Nat.le_refl _, fun _ _ _ => rfl⟩, .inl rfl⟩
  · obtain ⟨v', w', hr, h2, h3, _, h5⟩ := run_append_own2 (P := P) w base t ty e i z size bytes ht hi hz hsize hby hzs hsz v n xs hown a m c news hl hc h1 h63 hbytes hbase
    exact ⟨v', w', hr, h2, h3, h5⟩

theorem wp_append_any {P : Program} (w : World) {o : Oper} {a : Act} {K : Act → World → Prop} {Q : Exit → Act → World → Prop} (s y : Operand) (t : TypeId)
    (ho : o.op = .call { callee := .builtin .append, args := #[s, y], argTypes := #[t, t] })
    (base : Nat) (e : TypeId) (i : TypeInfo) (z : Value) (size bytes : Nat) (ht : P.underlying t = some (.slice e)) (hi : P.info? e = some i) (hz : i.zero = some z)
    (hsize : i.size = size) (hby : i.bytes = bytes) (hzs : z.cells.size = size) (hsz : 0 < size)
    (v : Value) (n : Nat) (xs : List Value) (hs : a.eval s = v) (hown : w.ownsRow base e size v n xs) (x : Value) (hy : a.eval y = x) (m : Nat) (news : List Value) (hx : Yields w x m size news)
    (h63 : n + m ≤ maxLen) (hbytes : (n + m) * bytes ≤ 140737488355328) (hbase : base ≤ w.heap.size)
    (h : ∀ v' w', AppLeft w base e size v n m xs news v' w' → K (a.put o.dst v') w') : o.wp P a w K Q := by
  obtain ⟨v', w', hr, h2⟩ := run_append_any (P := P) w base t o.type e i z size bytes ht hi hz hsize hby hzs hsz v n xs hown x m news hx h63 hbytes hbase
  unfold Oper.wp execOp
  simp only [ho, resolve, invoke, builtin, Sem.run_bind, Sem.run_pure, Result.andThen_ok, List.map_toArray, List.map_cons, List.map_nil, hs, hy, hr]
  exact h v' w' h2

theorem wpList_append_any {P : Program} (w : World) {ops : Array Oper} {rest : List Oper} {o : Oper} {a : Act} {Q : Exit → Act → World → Prop} (hgd : o.guard = none) (s y : Operand) (t : TypeId)
    (ho : o.op = .call { callee := .builtin .append, args := #[s, y], argTypes := #[t, t] })
    (base : Nat) (e : TypeId) (i : TypeInfo) (z : Value) (size bytes : Nat) (ht : P.underlying t = some (.slice e)) (hi : P.info? e = some i) (hz : i.zero = some z)
    (hsize : i.size = size) (hby : i.bytes = bytes) (hzs : z.cells.size = size) (hsz : 0 < size)
    (v : Value) (n : Nat) (xs : List Value) (hs : a.eval s = v) (hown : w.ownsRow base e size v n xs) (x : Value) (hy : a.eval y = x) (m : Nat) (news : List Value) (hx : Yields w x m size news)
    (h63 : n + m ≤ maxLen) (hbytes : (n + m) * bytes ≤ 140737488355328) (hbase : base ≤ w.heap.size)
    (h : ∀ v' w', AppLeft w base e size v n m xs news v' w' → wpList P ops Q rest (a.put o.dst v') w') : wpList P ops Q (o :: rest) a w :=
  wpList_plain hgd fun _ hK => wp_append_any w s y t ho base e i z size bytes ht hi hz hsize hby hzs hsz v n xs hs hown x hy m news hx h63 hbytes hbase fun v' w' h2 => hK _ _ (h v' w' h2)

/-- .. at a step of a region that draws its order. -/
theorem step_append_own2 {P : Program} (w : World) {ops : Array Oper} {o : Oper} {a : Act} {K : Act → World → Prop} {Q : Exit → Act → World → Prop} {E : Prop} (hgd : o.guard = none) (s y : Operand) (t : TypeId)
    (ho : o.op = .call { callee := .builtin .append, args := #[s, y], argTypes := #[t, t] })
    (base : Nat) (e : TypeId) (i : TypeInfo) (z : Value) (size bytes : Nat) (ht : P.underlying t = some (.slice e)) (hi : P.info? e = some i) (hz : i.zero = some z)
    (hsize : i.size = size) (hby : i.bytes = bytes) (hzs : z.cells.size = size) (hsz : 0 < size)
    (v : Value) (n : Nat) (xs : List Value) (hs : a.eval s = v) (hown : w.ownsRow base e size v n xs) (x : Value) (hy : a.eval y = x) (m : Nat) (news : List Value) (hx : Yields w x m size news)
    (h63 : n + m ≤ maxLen) (hbytes : (n + m) * bytes ≤ 140737488355328) (hbase : base ≤ w.heap.size)
    (h : ∀ v' w', AppLeft w base e size v n m xs news v' w' → K (a.put o.dst v') w') :
    if Region.wanted o (yielded ops a.tmps) = true then Oper.wp P o a w K Q else E := by
  have hw : Region.wanted o (yielded ops a.tmps) = true := by simp [Region.wanted, hgd]
  rw [if_pos hw]
  exact wp_append_any w s y t ho base e i z size bytes ht hi hz hsize hby hzs hsz v n xs hs hown x hy m news hx h63 hbytes hbase h

/-- The library's wp_region_still_tail, its world written as a draw. -/
theorem region_still_tail {P : Program} {id : Nat} {Q : Exit → Act → World → Prop} {a : Act} {w : World} {l : List Oper} (n : Nat) (hm : P.follows Departure.mixedOrders = true)
    (hl : Region.lexTailB Region.Mode.any l.toArray n = true) (h : wpStill P l.toArray w.drew (fun a' => wpList P l.toArray Q (l.drop n) a' w.drew) (l.take n) a) :
    Code.wp P (.region id l.toArray true) Q a w := wp_region_still_tail n hm hl h

theorem gb_refl (w : World) (row : Option Nat) : w.grownBy w row := ⟨rfl, rfl, rfl, Nat.le_refl _, fun _ _ _ => rfl⟩

theorem gb_trans {w w1 w2 : World} {row : Option Nat} (h : w.grownBy w1 row) (g : w1.grownBy w2 row) : w.grownBy w2 row :=
  ⟨g.os.trans h.os, g.tape.trans h.tape, g.output.trans h.output, Nat.le_trans h.size g.size, fun k hk hn => (g.block k (Nat.lt_of_lt_of_le hk h.size) hn).trans (h.block k hk hn)⟩

theorem gb_alloc {w w1 : World} {row : Option Nat} (o : Obj) (h : w.grownBy w1 row) : w.grownBy (w1.alloc o) row := gb_trans h (World.grownBy_alloc _ _ _)

theorem gb_drew {w w1 : World} {row : Option Nat} (h : w.grownBy w1 row) : w.grownBy w1.drew row := ⟨h.os, h.tape, h.output, h.size, h.block⟩

theorem gb_set {w w1 : World} {rb : Nat} (j : Nat) (v : Value) (h : w.grownBy w1 (some rb)) : w.grownBy (w1.setCell ⟨rb, j, none⟩ v) (some rb) :=
  ⟨h.os, h.tape, h.output, by simpa using h.size, fun k hk hn => by
    rw [Below.heap_setCell _ _ _ _ (by intro e; apply hn; rw [e])]
    exact h.block k hk hn⟩

theorem gb_new {w w1 : World} {row : Option Nat} {g j : Nat} (v : Value) (hg : w.heap.size ≤ g) (h : w.grownBy w1 row) : w.grownBy (w1.setCell ⟨g, j, none⟩ v) row :=
  ⟨h.os, h.tape, h.output, by simpa using h.size, fun k hk hn => by
    rw [Below.heap_setCell _ _ _ _ (by simp; omega)]
    exact h.block k hk hn⟩

theorem gb_other {w w1 : World} (rb : Option Nat) (h : w.grownBy w1 none) : w.grownBy w1 rb := ⟨h.os, h.tape, h.output, h.size, fun k hk _ => h.block k hk (by simp)⟩

section
variable {P : Program} {ops : Array Oper} {Q : Exit → Act → World → Prop} {md : Region.Mode} {S : World → Prop} {fuel : Nat} {listed : Array Bool} {a : Act} {w : World} {i : Nat} {oi : Oper} {v : Value}

/-- In a region that draws its order: operation i, which yields v wherever S holds, is taken first. -/
theorem H_take (hi : ops[i]? = some oi) (hs : Region.noSelect ops = true) (hf : Region.free md ops listed i = true) (hr : (Region.ready md ops listed).contains i = true)
    (hQ : ∀ c a w, Q (.panic c) (a.put oi.dst v) w → Q (.panic c) a w) (hw : Region.wanted oi (yielded ops a.tmps) = true) (hS : S w) (hy : ∀ w, S w → (execOp a.eval oi).run P w = .ok (.value v) w)
    (h : wpAnyH P md ops Q S fuel (listed.setIfInBounds i true) (a.put oi.dst v) w) : wpAnyH P md ops Q S (fuel + 1) listed a w :=
  wpAnyH_take hi hs hf hr hQ (.inl ⟨hw, hy⟩) hS h

/-- .. or is left out by its guard. -/
theorem H_skip (hi : ops[i]? = some oi) (hs : Region.noSelect ops = true) (hf : Region.free md ops listed i = true) (hr : (Region.ready md ops listed).contains i = true)
    (hQ : ∀ c a w, Q (.panic c) (a.put oi.dst undef) w → Q (.panic c) a w) (hw : Region.wanted oi (yielded ops a.tmps) = false) (hS : S w)
    (h : wpAnyH P md ops Q S fuel (listed.setIfInBounds i true) (a.put oi.dst undef) w) : wpAnyH P md ops Q S (fuel + 1) listed a w :=
  wpAnyH_take hi hs hf hr hQ (.inr ⟨hw, rfl⟩) hS h

/-- The only operation that may come up now is carried out. -/
theorem H_one (hr : Region.ready md ops listed = [i]) (ho : ops[i]? = some oi) (hw : Region.wanted oi (yielded ops a.tmps) = true)
    (h : oi.wp P a w (fun a' w' => S w' ∧ wpAnyH P md ops Q S fuel (listed.setIfInBounds i true) a' w') Q) : wpAnyH P md ops Q S (fuel + 1) listed a w :=
  wpAnyH_ready hr (by simp) (AllReadyH.cons ho (fun K' hK => by rw [if_pos hw]; exact Oper.wp_mono (fun a w h => hK.out a w h.1 fun _ => h.2) h) AllReadyH.nil)
end
end Go.Proofs.YtgakcaobalfpjaaGreatDoor.M

/- Part: Bytes. -/
namespace Go.Proofs.YtgakcaobalfpjaaGreatDoor.M
open Go.RowKit

theorem grown_of_below {w w' : World} (h : Below w.heap.size w w') : w.grownBy w' none := ⟨h.os, h.tape, h.output, h.size, fun k hk _ => h.block k hk⟩

theorem heap_new (w : World) (o : Obj) (k : Nat) (h : k = w.heap.size) : (w.alloc o).heap[k]? = some o := by subst h; exact heap_alloc_new w o

/-- A block that is there stays what it is when another one is made. -/
theorem old_alloc {w : World} {x : Obj} {k : Nat} {o : Obj} (h : w.heap[k]? = some o) : (w.alloc x).heap[k]? = some o := by
  have hk : k < w.heap.size := (Array.getElem?_eq_some_iff.1 h).1
  have := Below.heap_alloc w x k hk
  rw [this]; exact h

theorem old_set {w : World} {a : Addr} {v : Value} {k : Nat} {o : Obj} (h : w.heap[k]? = some o) (hk : k ≠ a.block) : (w.setCell a v).heap[k]? = some o := by
  rw [Below.heap_setCell w a v k hk]; exact h

theorem old_below {w w' : World} {k : Nat} {o : Obj} (h : w.heap[k]? = some o) (hb : Below w.heap.size w w') : w'.heap[k]? = some o := by
  rw [hb.block k (Array.getElem?_eq_some_iff.1 h).1]; exact h

theorem lt_of_heap {w : World} {k : Nat} {o : Obj} (h : w.heap[k]? = some o) : k < w.heap.size := (Array.getElem?_eq_some_iff.1 h).1

/-- What is as it was behind one new block is as it was ahead of it. -/
theorem below_behind {w w' : World} {o : Obj} (h : Below (w.heap.size + 1) (w.alloc o) w') : Below w.heap.size w w' :=
  ((Below.refl _ _).alloc (Nat.le_refl _) o).trans (h.mono (by omega))

theorem owned_slice {w : World} {base t size n : Nat} {v : Value} {xs : List Value} (h : w.ownsRow base t size v n xs) : ∃ a c, v = .slice a n c := by
  obtain ⟨_, h | ⟨g, cap, cur, hv, _⟩⟩ := h
  · exact ⟨none, 0, by rw [h.1, h.2]⟩
  · exact ⟨_, _, hv⟩

/-- A block that a row is not in stands as it stood when that row has grown. -/
theorem grown_keeps {w w' : World} {base t size n : Nat} {v : Value} {xs : List Value} {k : Nat} {o : Obj} (h : w.ownsRow base t size v n xs) (hg : w.grownBy w' v.ownBlock)
    (hk : k < base) (ho : w.heap[k]? = some o) : w'.heap[k]? = some o := by
  rw [hg.block k (lt_of_heap ho) ?_]
  · exact ho
  · intro h1
    have := (h.lt k h1.symm).1
    omega

/-- A slice value without an element, wherever it points. -/
def Bare (v : Value) : Prop := ∃ a c, v = .slice a 0 c ∧ c ≤ 9223372036854775807 ∧ (a = none → c = 0)

theorem Bare.nil : Bare (.slice none 0 0) := ⟨none, 0, rfl, by omega, fun _ => rfl⟩

theorem Bare.at {a : Addr} {c : Nat} (h : c ≤ 9223372036854775807) : Bare (.slice (some a) 0 c) := ⟨some a, c, rfl, h, fun h => by cases h⟩

/-- Bytes in memory: a slice value that reads as a list. All of its memory lies in a block of F. -/
def RepB (w : World) (F : Nat → Prop) (L : List UInt8) (v : Value) : Prop :=
  (L = [] ∧ Bare v) ∨ ∃ b off c, v = .slice (some ⟨b, off, none⟩) L.length c ∧ F b ∧ L.length ≤ c ∧ c ≤ 9223372036854775807 ∧
    ∀ (i : Nat) (h : i < L.length), w.cell? ⟨b, off + i, none⟩ = some (.int .u8 (L[i].toNat : Int))

theorem RepB.same {w w' : World} {F G : Nat → Prop} (hF : ∀ k, F k → G k) (hw : ∀ k, F k → w'.heap[k]? = w.heap[k]?) {L : List UInt8} {v : Value} (h : RepB w F L v) : RepB w' G L v := by
  rcases h with h | ⟨b, off, c, hv, hb, hl, hm, hc⟩
  · exact .inl h
  · exact .inr ⟨b, off, c, hv, hF b hb, hl, hm, fun i hi => by rw [World.cell?_of_block (by exact hw b hb)]; exact hc i hi⟩

theorem below_alloc (w : World) (o : Obj) : Below w.heap.size w (w.alloc o) := (Below.refl _ _).alloc (Nat.le_refl _) o

theorem infoByte : (Tryz.prog.info? 5).map (fun i => (i.zero, i.size, i.bytes)) = some (some (.int .u8 0), 1, 1) := by kernel_rfl

def byteV (b : UInt8) : Value := .int .u8 (b.toNat : Int)

/-- A row of bytes that a call makes longer: what may have turned since the world w0, where v0 was the row. -/
def Acc (w0 : World) (B : Nat) (v0 : Value) (w : World) (v : Value) (L : List UInt8) : Prop :=
  w.ownsRow B 5 1 v L.length (L.map byteV) ∧ w0.grownBy w v0.ownBlock ∧ (v.ownBlock = v0.ownBlock ∨ ∃ g, v.ownBlock = some g ∧ w0.heap.size ≤ g)

theorem Acc.start {w : World} {B : Nat} {v : Value} {L : List UInt8} (h : w.ownsRow B 5 1 v L.length (L.map byteV)) : Acc w B v w v L :=
  ⟨h, ⟨rfl, rfl, rfl, Nat.le_refl _, fun _ _ _ => rfl⟩, .inl rfl⟩

theorem Acc.trans {w0 w1 w2 : World} {B : Nat} {v0 v1 v2 : Value} {L1 L2 : List UInt8} (h1 : Acc w0 B v0 w1 v1 L1) (h2 : Acc w1 B v1 w2 v2 L2) : Acc w0 B v0 w2 v2 L2 := by
  obtain ⟨_, g1, o1⟩ := h1
  obtain ⟨a2, g2, o2⟩ := h2
  refine ⟨a2, ⟨g2.os.trans g1.os, g2.tape.trans g1.tape, g2.output.trans g1.output, Nat.le_trans g1.size g2.size, fun k hk hn => ?_⟩, ?_⟩
  · rw [g2.block k (Nat.lt_of_lt_of_le hk g1.size) ?_, g1.block k hk hn]
    rcases o1 with o1 | ⟨g, o1, hg⟩
    · rw [o1]; exact hn
    · rw [o1]; intro h; simp at h; omega
  · rcases o2 with o2 | ⟨g, o2, hg⟩
    · rw [o2]; exact o1
    · exact .inr ⟨g, o2, Nat.le_trans g1.size hg⟩

theorem Acc.alloc {w0 w1 : World} {B : Nat} {v0 v1 : Value} {L1 : List UInt8} (h1 : Acc w0 B v0 w1 v1 L1) (o : Obj) : Acc w0 B v0 (w1.alloc o) v1 L1 :=
  h1.trans ⟨h1.1.alloc o, World.grownBy_alloc _ _ _, .inl rfl⟩

/-- One byte more, from a new block of one cell. -/
theorem Acc.push {w0 w1 w2 : World} {B : Nat} {v0 v1 v2 : Value} {L1 : List UInt8} {b : UInt8} {o : Obj} {xs : List Value} {n : Nat} (h1 : Acc w0 B v0 w1 v1 L1)
    (h : w2.ownsRow B 5 1 v2 n xs) (hn : n = L1.length + 1) (hx : xs = L1.map byteV ++ [byteV b]) (hg : (w1.alloc o).grownBy w2 v1.ownBlock)
    (ho : v2.ownBlock = v1.ownBlock ∨ v2.ownBlock = some (w1.heap.size + 1)) : Acc w0 B v0 w2 v2 (L1 ++ [b]) := by
  refine (h1.alloc o).trans ⟨by rw [List.map_append, List.length_append, List.length_singleton, ← hn]; rw [hx] at h; exact h, hg, ?_⟩
  rcases ho with ho | ho
  · exact .inl ho
  · exact .inr ⟨_, ho, by simp⟩

theorem one_new {w : World} {x : Value} {t : TypeId} {g : Nat} (hg : g = w.heap.size) :
    ∀ (j : Nat) (u : Value), [x][j]? = some u → (w.alloc (.cells #[x] t)).cell? ((⟨g, 0, none⟩ : Addr).add j) = some u := by
  subst hg
  intro j u hj
  have h := cell_of_row _ w.heap.size j _ t _ (heap_alloc_new w (.cells #[x] t))
  have e : ((⟨w.heap.size, 0, none⟩ : Addr).add j) = ⟨w.heap.size, j, none⟩ := by cases j <;> simp [Addr.add]
  rw [e, h]
  simpa using hj

/-- A measure for a counter that goes down to -1. -/
def upOne (v : Value) : Nat := (intOf v + 1).toNat

theorem Acc.alloc0 {w w1 : World} {B : Nat} {v v1 : Value} {L1 : List UInt8} {o : Obj} (h : Acc (w.alloc o) B v w1 v1 L1) : Acc w B v w1 v1 L1 := by
  obtain ⟨h1, h2, h3⟩ := h
  refine ⟨h1, ⟨h2.os, h2.tape, h2.output, Nat.le_trans (by simp) h2.size, fun k hk hn => ?_⟩, ?_⟩
  · rw [h2.block k (by simp; omega) hn, Below.heap_alloc _ _ _ hk]
  · rcases h3 with h3 | ⟨g, h3, h4⟩
    · exact .inl h3
    · exact .inr ⟨g, h3, Nat.le_trans (by simp) h4⟩

/-- A row of bytes of a value, and its length. -/
theorem RepB.slice {w : World} {F : Nat → Prop} {L : List UInt8} {v : Value} (h : RepB w F L v) : ∃ a c, v = .slice a L.length c ∧ L.length ≤ 9223372036854775807 := by
  rcases h with ⟨rfl, a, c, rfl, _, _⟩ | ⟨b, off, c, rfl, _, h1, h2, _⟩
  · exact ⟨a, c, rfl, by simp⟩
  · exact ⟨_, c, rfl, by omega⟩

theorem RepB.yields {w : World} {F : Nat → Prop} {L : List UInt8} {v : Value} (h : RepB w F L v) : Yields w v L.length 1 (L.map byteV) := by
  refine ⟨by simp, ?_, ?_⟩
  · intro u hu
    obtain ⟨b, _, rfl⟩ := List.mem_map.1 hu
    rfl
  · rcases h with ⟨rfl, a, c, rfl, _, ha⟩ | ⟨b, off, c, rfl, _, h1, h2, hc⟩
    · cases a with
      | none => rw [ha rfl]; exact .inl ⟨rfl, rfl⟩
      | some a => exact .inr ⟨a, c, rfl, fun j u hj => by simp at hj⟩
    · refine .inr ⟨_, c, rfl, fun j u hj => ?_⟩
      rw [List.getElem?_map] at hj
      have hj2 : j < L.length := by
        rcases Nat.lt_or_ge j L.length with h3 | h3
        · exact h3
        · rw [List.getElem?_eq_none h3] at hj; simp at hj
      rw [List.getElem?_eq_getElem hj2] at hj
      have := hc j hj2
      simp at hj
      rw [← hj, byteV, ← this]
      cases j <;> simp [Addr.add]

theorem Acc.undrew {w w1 : World} {B : Nat} {v v1 : Value} {L1 : List UInt8} (h : Acc w.drew B v w1 v1 L1) : Acc w B v w1 v1 L1 := ⟨h.1, ⟨h.2.1.os, h.2.1.tape, h.2.1.output, h.2.1.size, h.2.1.block⟩, h.2.2⟩

theorem Acc.of_app {w w1 : World} {B n m : Nat} {v v1 : Value} {L1 L2 : List UInt8} (h : AppLeft w B 5 1 v n m (L1.map byteV) (L2.map byteV) v1 w1) : Acc w B v w1 v1 (L1 ++ L2) := by
  obtain ⟨h1, h2, h3⟩ := h
  have hl := h1.1
  refine ⟨?_, h2, ?_⟩
  · rw [List.map_append, show (L1 ++ L2).length = n + m from by simpa using hl]; exact h1
  · rcases h3 with h3 | h3
    · exact .inl h3
    · exact .inr ⟨_, h3, Nat.le_refl _⟩

theorem block1 {w : World} {g : Nat} {x : Value} {t : TypeId} (h : w.heap[g]? = some (.cells #[x] t)) : w.cell? ⟨g, 0, none⟩ = some x ∧ w.frozen? ⟨g, 0, none⟩ = false ∧ g < w.heap.size :=
  ⟨cell_of_row w g 0 _ t _ h, frozen_of_row w g 0 _ t h, lt_of_heap h⟩

/-- Bytes that a call owns, as bytes in memory. -/
theorem RepB.of_own {w : World} {B : Nat} {L : List UInt8} {v : Value} (h : w.ownsRow B 5 1 v L.length (L.map byteV)) : RepB w (fun b => B ≤ b ∧ b < w.heap.size) L v := by
  have h' := h
  obtain ⟨_, ⟨hv, hn⟩ | ⟨g, cap, cur, rfl, hg, hcur, h1, h2, h3, h4⟩⟩ := h
  · exact .inl ⟨List.length_eq_zero_iff.1 hn, by rw [hv]; exact Bare.nil⟩
  · refine .inr ⟨g, 0, cap, rfl, ⟨hg, lt_of_heap hcur⟩, h1, by unfold maxLen at h2; omega, fun i hi => ?_⟩
    have := h'.cells (g := g) rfl i (byteV L[i]) (by simp [hi])
    rw [byteV] at this
    rw [Nat.zero_add, ← this]
    cases i <;> simp [Addr.add]

/-- Bytes in a new block. -/
theorem RepB.new {w : World} {L : List UInt8} {t : TypeId} {g : Nat} {fr : Nat × Nat} (hg : g = w.heap.size) (hl : L.length ≤ 9223372036854775807) :
    RepB (w.alloc (.cells (L.map byteV).toArray t fr)) (fun b => b = g) L (.slice (some ⟨g, 0, none⟩) L.length L.length) := by
  subst hg
  refine .inr ⟨w.heap.size, 0, L.length, rfl, rfl, Nat.le_refl _, hl, fun i hi => ?_⟩
  have := cell_of_row _ w.heap.size (0 + i) _ t _ (heap_alloc_new w (.cells (L.map byteV).toArray t fr))
  rw [this]
  simp [hi, byteV]

def strOf (L : List UInt8) : ByteArray := ⟨L.toArray⟩

theorem strOf_inj {a b : List UInt8} (h : strOf a = strOf b) : a = b := by
  have := congrArg (fun s => s.data.toList) h
  simpa [strOf] using this

theorem strOf_data (s : ByteArray) : strOf s.data.toList = s := by cases s; simp [strOf]

/-- 'string(b)'. -/
theorem run_string {P : Program} {w : World} {F : Nat → Prop} {L : List UInt8} {v : Value} (h : RepB w F L v) (src e dst : TypeId) (hs : P.underlying src = some (.slice e)) (he : P.underlying e = some (.int .u8))
    (hd : P.underlying dst = some .string) : (convert src dst v).run P w = .ok (.string (strOf L)) w := by
  rcases h with ⟨rfl, a, c, rfl, _, _⟩ | ⟨b, off, c, rfl, _, h1, h2, hc⟩
  · cases a with
    | none => rw [run_convert_bytes_nil w src e hs he 0 c dst hd]; rfl
    | some a =>
      have hl : (loadCells a 0).run P w = .ok (([] : List Int).map (Value.int .u8)).toArray w := by
        have := run_loadCells_list (P := P) w a [] (fun j v hj => by simp at hj)
        simpa using this
      rw [run_convert_bytes_string w src dst e _ 0 c hs he hd, run_bytesToString w _ 0 c [] hl, foldl_push_bytes]
      simp [strOf, ByteArray.empty, ByteArray.emptyWithCapacity]
      rfl
  · have := run_convert_bytes_arg (P := P) w src e hs he b off L.length c (L.map fun x => (x.toNat : Int)) (by simp) (fun i hi => by
      rw [hc i hi]; simp [hi]) dst hd
    rw [this]
    congr 2
    simp [strOfNums, strOf, Function.comp_def]

/-- A cell that is not in the row that grows. -/
theorem grown_cell {w w' : World} {own : Option Nat} {b o : Nat} {v : Value} (h : w.grownBy w' own) (hb : b < w.heap.size) (hn : own ≠ some b) (hc : w.cell? ⟨b, o, none⟩ = some v) : w'.cell? ⟨b, o, none⟩ = some v :=
  (World.cell?_of_block (h.block b hb (fun e => hn e.symm))).trans hc

theorem lt_of_cell {w : World} {a : Addr} {v : Value} (h : w.cell? a = some v) : a.block < w.heap.size ∧ a.spot = none := by
  unfold World.cell? at h
  split at h
  · rename_i c t f hq
    refine ⟨(Array.getElem?_eq_some_iff.1 hq).1, ?_⟩
    split at h
    · cases h
    · rename_i hs; simpa using hs
  · cases h

/-- A list out of its elements, one at a time. -/
theorem list_of {α : Type} {R : Nat → α → Prop} : ∀ (n : Nat), (∀ i, i < n → ∃ x, R i x) → ∃ l : List α, l.length = n ∧ ∀ (i : Nat) (hi : i < l.length), R i l[i]
  | 0, _ => ⟨[], rfl, fun i hi => by simp at hi⟩
  | n + 1, h => by
    obtain ⟨l, hl, hr⟩ := list_of n fun i hi => h i (by omega)
    obtain ⟨x, hx⟩ := h n (by omega)
    refine ⟨l ++ [x], by simp [hl], fun i hi => ?_⟩
    by_cases hn : i < l.length
    · rw [List.getElem_append_left hn]; exact hr i hn
    · obtain rfl : i = n := by simp at hi; omega
      rw [List.getElem_append_right (by omega)]
      simpa [hl] using hx

theorem addr_add (b off i : Nat) : (⟨b, off, none⟩ : Addr).add i = ⟨b, off + i, none⟩ := by cases i <;> simp [Addr.add]
theorem flat_snoc (ls : List (List UInt8)) (k : Nat) (h : k < ls.length) : (ls.take (k + 1)).flatten = (ls.take k).flatten ++ ls[k] := by
  rw [List.take_succ_eq_append_getElem h, List.flatten_append]
  simp

/-- A slice of byte slices. -/
def RepBl (w : World) (F : Nat → Prop) (ls : List (List UInt8)) (v : Value) : Prop :=
  (ls = [] ∧ Bare v) ∨ ∃ b off c, v = .slice (some ⟨b, off, none⟩) ls.length c ∧ F b ∧ ls.length ≤ c ∧ c ≤ 9223372036854775807 ∧
    ∀ (i : Nat) (h : i < ls.length), ∃ u, w.cell? ⟨b, off + i, none⟩ = some u ∧ RepB w F ls[i] u

theorem RepBl.same {w w' : World} {F G : Nat → Prop} (hF : ∀ k, F k → G k) (hw : ∀ k, F k → w'.heap[k]? = w.heap[k]?) {ls : List (List UInt8)} {v : Value} (h : RepBl w F ls v) : RepBl w' G ls v := by
  rcases h with h | ⟨b, off, c, hv, hb, hl, hm, hc⟩
  · exact .inl h
  · refine .inr ⟨b, off, c, hv, hF b hb, hl, hm, fun i hi => ?_⟩
    obtain ⟨u, h1, h2⟩ := hc i hi
    exact ⟨u, by rw [World.cell?_of_block (by exact hw b hb)]; exact h1, h2.same hF hw⟩

theorem RepBl.slice {w : World} {F : Nat → Prop} {ls : List (List UInt8)} {v : Value} (h : RepBl w F ls v) : ∃ a c, v = .slice a ls.length c ∧ ls.length ≤ 9223372036854775807 := by
  rcases h with ⟨rfl, a, c, rfl, _⟩ | ⟨b, off, c, rfl, _, h1, h2, _⟩
  · exact ⟨a, c, rfl, by simp⟩
  · exact ⟨_, c, rfl, by omega⟩

theorem RepBl.elem {w : World} {F : Nat → Prop} {ls : List (List UInt8)} {a : Option Addr} {n c : Nat} (h : RepBl w F ls (.slice a n c)) (i : Nat) (hi : i < ls.length) :
    ∃ b off u, a = some ⟨b, off, none⟩ ∧ F b ∧ w.cell? ⟨b, off + i, none⟩ = some u ∧ RepB w F ls[i] u := by
  rcases h with ⟨h, _⟩ | ⟨b, off, c', h, hb, _, _, hc⟩
  · rw [h] at hi; simp at hi
  · cases h
    obtain ⟨u, h1, h2⟩ := hc i hi
    exact ⟨b, off, u, rfl, hb, h1, h2⟩

/-- Byte slices in a new block. -/
theorem RepBl.new {w : World} {F : Nat → Prop} {ls : List (List UInt8)} {us : List Value} {t : TypeId} {g : Nat} (hg : g = w.heap.size) (hn : us.length = ls.length) (hl : ls.length ≤ 9223372036854775807)
    (hF : ∀ k, F k → k < w.heap.size) (h : ∀ (i : Nat) (h1 : i < ls.length) (h2 : i < us.length), RepB w F ls[i] us[i]) :
    RepBl (w.alloc (.cells us.toArray t)) (fun b => F b ∨ b = g) ls (.slice (some ⟨g, 0, none⟩) ls.length ls.length) := by
  subst hg
  refine .inr ⟨w.heap.size, 0, ls.length, rfl, .inr rfl, Nat.le_refl _, hl, fun i hi => ?_⟩
  refine ⟨us[i], ?_, (h i hi (by omega)).same (fun k hk => .inl hk) fun k hk => Below.heap_alloc _ _ _ (hF k hk)⟩
  have := cell_of_row _ w.heap.size (0 + i) _ t _ (heap_alloc_new w (.cells us.toArray t))
  rw [this]
  simp [hn, hi]

theorem RepBl.one {w : World} {F : Nat → Prop} {L : List UInt8} {u : Value} {t : TypeId} {g : Nat} (h : RepB w F L u) (hg : g = w.heap.size) (hF : ∀ k, F k → k < w.heap.size) :
    RepBl (w.alloc (.cells #[u] t)) (fun b => F b ∨ b = g) [L] (.slice (some ⟨g, 0, none⟩) 1 1) :=
  RepBl.new (us := [u]) hg rfl (by simp) hF fun i h1 h2 => by
    obtain rfl : i = 0 := by simpa using h1
    exact h

/-- Bytes that were there read as they did, in a later world. -/
theorem RepB.later {w wr : World} {F : Nat → Prop} {L : List UInt8} {v : Value} (h : RepB w F L v) (hF : ∀ k, F k → k < w.heap.size) (hB : Below w.heap.size w wr) : RepB wr (fun b => b < wr.heap.size) L v :=
  h.same (fun k hk => Nat.lt_of_lt_of_le (hF k hk) hB.size) fun k hk => hB.block k (hF k hk)

theorem RepBl.later {w wr : World} {F : Nat → Prop} {L : List (List UInt8)} {v : Value} (h : RepBl w F L v) (hF : ∀ k, F k → k < w.heap.size) (hB : Below w.heap.size w wr) : RepBl wr (fun b => b < wr.heap.size) L v :=
  h.same (fun k hk => Nat.lt_of_lt_of_le (hF k hk) hB.size) fun k hk => hB.block k (hF k hk)

theorem RepB.weak {w : World} {F G : Nat → Prop} {L : List UInt8} {v : Value} (h : RepB w F L v) (hF : ∀ k, F k → G k) : RepB w G L v := h.same hF fun _ _ => rfl

/-- Byte slices that are there, in a slice that is made now. -/
theorem RepBl.lay {w : World} {ls : List (List UInt8)} {us : List Value} {t : TypeId} {g n : Nat} (hg : g = w.heap.size) (hn : us.length = ls.length) (hn2 : n = ls.length) (hl : ls.length ≤ 9223372036854775807)
    (h : ∀ (i : Nat) (h1 : i < ls.length) (h2 : i < us.length), RepB w (fun b => b < w.heap.size) ls[i] us[i]) :
    RepBl (w.alloc (.cells us.toArray t)) (fun b => b < w.heap.size + 1) ls (.slice (some ⟨g, 0, none⟩) n n) := by
  subst hn2
  exact (RepBl.new hg hn hl (fun _ h => h) h).same (fun k hk => by rcases hk with hk | hk <;> omega) fun _ _ => rfl
end Go.Proofs.YtgakcaobalfpjaaGreatDoor.M

/- Part: MouldRep. -/
namespace Go.Proofs.YtgakcaobalfpjaaGreatDoor.M
open Go.RowKit

/-- Three cells in a row hold a struct of three. -/
def At3 (w : World) (b off : Nat) (v : Value) : Prop :=
  ∃ x y z, v = .agg #[x, y, z] ∧ w.cell? ⟨b, off, none⟩ = some x ∧ w.cell? ⟨b, off + 1, none⟩ = some y ∧ w.cell? ⟨b, off + 2, none⟩ = some z

theorem At3.same {w w' : World} {b off : Nat} {v : Value} (h : At3 w b off v) (hb : w'.heap[b]? = w.heap[b]?) : At3 w' b off v := by
  obtain ⟨x, y, z, hv, h0, h1, h2⟩ := h
  exact ⟨x, y, z, hv, by rw [World.cell?_of_block (by exact hb)]; exact h0, by rw [World.cell?_of_block (by exact hb)]; exact h1, by rw [World.cell?_of_block (by exact hb)]; exact h2⟩

/-- A block of three cells, known whole. -/
theorem block3 {w : World} {g : Nat} {x y z : Value} {t : TypeId} (h : w.heap[g]? = some (.cells #[x, y, z] t)) :
    w.cell? ⟨g, 0, none⟩ = some x ∧ w.cell? ⟨g, 1, none⟩ = some y ∧ w.cell? ⟨g, 2, none⟩ = some z ∧
    w.frozen? ⟨g, 0, none⟩ = false ∧ w.frozen? ⟨g, 1, none⟩ = false ∧ w.frozen? ⟨g, 2, none⟩ = false ∧ g < w.heap.size := by
  refine ⟨?_, ?_, ?_, ?_, ?_, ?_, ?_⟩
  · exact cell_of_row w g 0 _ t _ h
  · exact cell_of_row w g 1 _ t _ h
  · exact cell_of_row w g 2 _ t _ h
  · exact frozen_of_row w g 0 _ t h
  · exact frozen_of_row w g 1 _ t h
  · exact frozen_of_row w g 2 _ t h
  · rcases Nat.lt_or_ge g w.heap.size with h1 | h1
    · exact h1
    · simp [Array.getElem?_eq_none h1] at h

mutual
/-- A value that stands for a shape: package mould's part. All of its memory lies in blocks of F. -/
def RepS (w : World) (F : Nat → Prop) : Sh → Value → Prop
  | .num, v => v = .agg #[.int .u8 110, .slice none 0 0, .bool true]
  | .blob, v => v = .agg #[.int .u8 98, .slice none 0 0, .bool true]
  | .list s, v => ∃ b off c u, v = .agg #[.int .u8 42, .slice (some ⟨b, off, none⟩) 1 c, .bool true] ∧ F b ∧ At3 w b off u ∧ RepS w F s u
  | .row l, v => ∃ sl, v = .agg #[.int .u8 91, sl, .bool (solids l)] ∧
      ((l = [] ∧ sl = .slice none 0 0) ∨ ∃ b off c, sl = .slice (some ⟨b, off, none⟩) l.length c ∧ F b ∧ RepSs w F l b off)
def RepSs (w : World) (F : Nat → Prop) : List Sh → Nat → Nat → Prop
  | [], _, _ => True
  | s :: l, b, off => (∃ u, At3 w b off u ∧ RepS w F s u) ∧ RepSs w F l b (off + 3)
end

mutual
theorem RepS.same {w w' : World} {F G : Nat → Prop} (hF : ∀ k, F k → G k) (hw : ∀ k, F k → w'.heap[k]? = w.heap[k]?) :
    ∀ (s : Sh) {v : Value}, RepS w F s v → RepS w' G s v
  | .num, v, h => by unfold RepS at h ⊢; exact h
  | .blob, v, h => by unfold RepS at h ⊢; exact h
  | .list s, v, h => by
    unfold RepS at h ⊢
    obtain ⟨b, off, c, u, hv, hb, ha, hu⟩ := h
    exact ⟨b, off, c, u, hv, hF b hb, ha.same (hw b hb), RepS.same hF hw s hu⟩
  | .row l, v, h => by
    unfold RepS at h ⊢
    obtain ⟨sl, hv, h⟩ := h
    refine ⟨sl, hv, ?_⟩
    rcases h with h | ⟨b, off, c, hs, hb, hl⟩
    · exact .inl h
    · exact .inr ⟨b, off, c, hs, hF b hb, RepSs.same hF hw l (hw b hb) hl⟩
theorem RepSs.same {w w' : World} {F G : Nat → Prop} (hF : ∀ k, F k → G k) (hw : ∀ k, F k → w'.heap[k]? = w.heap[k]?) :
    ∀ (l : List Sh) {b off : Nat}, w'.heap[b]? = w.heap[b]? → RepSs w F l b off → RepSs w' G l b off
  | [], b, off, _, h => by unfold RepSs; trivial
  | s :: l, b, off, hb, h => by
    unfold RepSs at h ⊢
    obtain ⟨⟨u, ha, hu⟩, hl⟩ := h
    exact ⟨⟨u, ha.same hb, RepS.same hF hw s hu⟩, RepSs.same hF hw l hb hl⟩
end

def kind : Sh → Int
  | .num => 110
  | .blob => 98
  | .list _ => 42
  | .row _ => 91

theorem RepS.agg {w : World} {F : Nat → Prop} {s : Sh} {v : Value} (h : RepS w F s v) : ∃ a n c, v = .agg #[.int .u8 (kind s), .slice a n c, .bool (solid s)] := by
  cases s with
  | num => unfold RepS at h; exact ⟨_, _, _, h⟩
  | blob => unfold RepS at h; exact ⟨_, _, _, h⟩
  | list s => unfold RepS at h; obtain ⟨b, off, c, u, hv, _⟩ := h; exact ⟨_, _, _, hv⟩
  | row l =>
    unfold RepS at h
    obtain ⟨sl, hv, h | ⟨b, off, c, hs, _⟩⟩ := h
    · rw [h.2] at hv; exact ⟨_, _, _, by simpa [kind, solid] using hv⟩
    · rw [hs] at hv; exact ⟨_, _, _, by simpa [kind, solid] using hv⟩

theorem RepSs.get {w : World} {F : Nat → Prop} : ∀ (l : List Sh) {b off : Nat}, RepSs w F l b off → ∀ (i : Nat) (hi : i < l.length), ∃ u, At3 w b (off + i * 3) u ∧ RepS w F l[i] u
  | [], _, _, _, i, hi => by simp at hi
  | s :: l, b, off, h, i, hi => by
    unfold RepSs at h
    cases i with
    | zero => simpa using h.1
    | succ i =>
      obtain ⟨u, ha, hu⟩ := RepSs.get l h.2 i (by simpa using hi)
      exact ⟨u, by rw [show off + (i + 1) * 3 = off + 3 + i * 3 from by omega]; exact ha, by simpa using hu⟩

theorem RepSs.of {w : World} {F : Nat → Prop} : ∀ (l : List Sh) {b off : Nat}, (∀ (i : Nat) (hi : i < l.length), ∃ u, At3 w b (off + i * 3) u ∧ RepS w F l[i] u) → RepSs w F l b off
  | [], _, _, _ => by unfold RepSs; trivial
  | s :: l, b, off, h => by
    unfold RepSs
    refine ⟨h 0 (by simp), RepSs.of l fun i hi => ?_⟩
    obtain ⟨u, ha, hu⟩ := h (i + 1) (by simpa using hi)
    exact ⟨u, by rw [show off + 3 + i * 3 = off + (i + 1) * 3 from by omega]; exact ha, by simpa using hu⟩

/-- The cells of an array of structs of three, and what the structs stand for. -/
def Kids {α : Type} (R : α → Value → Prop) : List α → List Value → Prop
  | [], xs => xs = []
  | s :: l, xs => ∃ x y z r, xs = x :: y :: z :: r ∧ R s (.agg #[x, y, z]) ∧ Kids R l r

theorem Kids.mono {α : Type} {R Q : α → Value → Prop} (h : ∀ s u, R s u → Q s u) : ∀ {l : List α} {xs : List Value}, Kids R l xs → Kids Q l xs
  | [], _, k => k
  | _ :: _, _, ⟨x, y, z, r, e, a, k⟩ => ⟨x, y, z, r, e, h _ _ a, Kids.mono h k⟩

theorem Kids.snoc {α : Type} {R : α → Value → Prop} {s : α} {x y z : Value} (h : R s (.agg #[x, y, z])) : ∀ {l : List α} {xs : List Value}, Kids R l xs → Kids R (l ++ [s]) (xs ++ [x, y, z])
  | [], _, k => by rw [show _ = [] from k]; exact ⟨x, y, z, [], rfl, h, rfl⟩
  | _ :: _, _, ⟨a, b, c, r, e, ha, k⟩ => ⟨a, b, c, r ++ [x, y, z], by rw [e]; rfl, ha, Kids.snoc h k⟩

theorem Kids.length {α : Type} {R : α → Value → Prop} : ∀ {l : List α} {xs : List Value}, Kids R l xs → xs.length = 3 * l.length
  | [], _, k => by rw [show _ = [] from k]; rfl
  | _ :: l, _, ⟨a, b, c, r, e, _, k⟩ => by rw [e]; have := Kids.length k; simp; omega

theorem Kids.get {α : Type} {R : α → Value → Prop} {w : World} {g : Nat} : ∀ {l : List α} {xs : List Value} {off : Nat}, Kids R l xs →
    (∀ (j : Nat) (u : Value), xs[j]? = some u → w.cell? ⟨g, off + j, none⟩ = some u) → ∀ (i : Nat) (hi : i < l.length), ∃ u, At3 w g (off + i * 3) u ∧ R l[i] u
  | [], _, _, _, _, i, hi => by simp at hi
  | s :: l, xs, off, ⟨a, b, c, r, e, ha, k⟩, hc, i, hi => by
    subst e
    cases i with
    | zero => exact ⟨_, ⟨a, b, c, rfl, hc 0 a rfl, hc 1 b rfl, hc 2 c rfl⟩, ha⟩
    | succ i =>
      obtain ⟨u, h1, h2⟩ := Kids.get (off := off + 3) k (fun j u hj => by rw [show off + 3 + j = off + (j + 3) from by omega]; exact hc (j + 3) u (by simpa using hj)) i (by simpa using hi)
      exact ⟨u, by rw [show off + (i + 1) * 3 = off + 3 + i * 3 from by omega]; exact h1, h2⟩

/-- An array of structs of three that a call owns: at each index what it stands for. -/
theorem owned_kids {α : Type} {R : α → Value → Prop} {w : World} {base t : Nat} {v : Value} {l : List α} {xs : List Value}
    (h : w.ownsRow base t 3 v l.length xs) (k : Kids R l xs) :
    (l = [] ∧ v = .slice none 0 0) ∨ ∃ b c, v = .slice (some ⟨b, 0, none⟩) l.length c ∧ v.ownBlock = some b ∧ base ≤ b ∧ b < w.heap.size ∧ l.length ≤ c ∧ c ≤ 9223372036854775807 ∧
      ∀ (i : Nat) (hi : i < l.length), ∃ u, At3 w b (0 + i * 3) u ∧ R l[i] u := by
  have h' := h
  obtain ⟨hx, h | ⟨g, cap, cur, hv, hg, hcur, h1, h2, h3, h4⟩⟩ := h
  · exact .inl ⟨List.length_eq_zero_iff.1 h.2, h.1⟩
  · refine .inr ⟨g, cap, hv, by rw [hv]; rfl, hg, ?_, h1, h2, fun i hi => ?_⟩
    · exact (h'.lt g (by rw [hv]; rfl)).2
    · refine Kids.get k (fun j u hj => ?_) i hi
      have := h'.cells (g := g) (by rw [hv]; rfl) j u hj
      cases j <;> simpa [Addr.add] using this

/-- The three cells of a block of three that was made last. -/
theorem three_new {w : World} {x y z : Value} {t : TypeId} {g : Nat} (hg : g = w.heap.size) :
    ∀ (j : Nat) (u : Value), [x, y, z][j]? = some u → (w.alloc (.cells #[x, y, z] t)).cell? ((⟨g, 0, none⟩ : Addr).add j) = some u := by
  subst hg
  intro j u hj
  have h := cell_of_row _ w.heap.size j _ t _ (heap_alloc_new w (.cells #[x, y, z] t))
  have e : ((⟨w.heap.size, 0, none⟩ : Addr).add j) = ⟨w.heap.size, j, none⟩ := by cases j <;> simp [Addr.add]
  rw [e, h]
  simpa using hj

mutual
/-- A value of package api's Val. All of its memory lies in blocks of F. -/
def RepV (w : World) (F : Nat → Prop) : V → Value → Prop
  | .mk n b l, v => ∃ vb vl, v = .agg #[.int .u64 (n : Int), vb, vl] ∧ n < 18446744073709551616 ∧ RepB w F b vb ∧
      ((l = [] ∧ Bare vl) ∨ ∃ b off c, vl = .slice (some ⟨b, off, none⟩) l.length c ∧ F b ∧ l.length ≤ c ∧ c ≤ 9223372036854775807 ∧ RepVs w F l b off)
def RepVs (w : World) (F : Nat → Prop) : List V → Nat → Nat → Prop
  | [], _, _ => True
  | s :: l, b, off => (∃ u, At3 w b off u ∧ RepV w F s u) ∧ RepVs w F l b (off + 3)
end

/-- A slice of values. -/
def RepVl (w : World) (F : Nat → Prop) (l : List V) (v : Value) : Prop :=
  (l = [] ∧ Bare v) ∨ ∃ b off c, v = .slice (some ⟨b, off, none⟩) l.length c ∧ F b ∧ l.length ≤ c ∧ c ≤ 9223372036854775807 ∧ RepVs w F l b off

theorem RepV_mk {w : World} {F : Nat → Prop} {n : Nat} {b : List UInt8} {l : List V} {v : Value} :
    RepV w F (.mk n b l) v ↔ ∃ vb vl, v = .agg #[.int .u64 (n : Int), vb, vl] ∧ n < 18446744073709551616 ∧ RepB w F b vb ∧ RepVl w F l vl := by
  unfold RepV RepVl; exact Iff.rfl

mutual
theorem RepV.same {w w' : World} {F G : Nat → Prop} (hF : ∀ k, F k → G k) (hw : ∀ k, F k → w'.heap[k]? = w.heap[k]?) :
    ∀ (s : V) {v : Value}, RepV w F s v → RepV w' G s v
  | .mk n b l, v, h => by
    unfold RepV at h ⊢
    obtain ⟨vb, vl, hv, hn, hb, h⟩ := h
    refine ⟨vb, vl, hv, hn, hb.same hF hw, ?_⟩
    rcases h with h | ⟨b, off, c, hs, hb, h1, h2, hl⟩
    · exact .inl h
    · exact .inr ⟨b, off, c, hs, hF b hb, h1, h2, RepVs.same hF hw l (hw b hb) hl⟩
theorem RepVs.same {w w' : World} {F G : Nat → Prop} (hF : ∀ k, F k → G k) (hw : ∀ k, F k → w'.heap[k]? = w.heap[k]?) :
    ∀ (l : List V) {b off : Nat}, w'.heap[b]? = w.heap[b]? → RepVs w F l b off → RepVs w' G l b off
  | [], b, off, _, h => by unfold RepVs; trivial
  | s :: l, b, off, hb, h => by
    unfold RepVs at h ⊢
    obtain ⟨⟨u, ha, hu⟩, hl⟩ := h
    exact ⟨⟨u, ha.same hb, RepV.same hF hw s hu⟩, RepVs.same hF hw l hb hl⟩
end

theorem RepVl.same {w w' : World} {F G : Nat → Prop} (hF : ∀ k, F k → G k) (hw : ∀ k, F k → w'.heap[k]? = w.heap[k]?) {l : List V} {v : Value} (h : RepVl w F l v) : RepVl w' G l v := by
  rcases h with h | ⟨b, off, c, hs, hb, h1, h2, hl⟩
  · exact .inl h
  · exact .inr ⟨b, off, c, hs, hF b hb, h1, h2, RepVs.same hF hw l (hw b hb) hl⟩

theorem RepVs.get {w : World} {F : Nat → Prop} : ∀ (l : List V) {b off : Nat}, RepVs w F l b off → ∀ (i : Nat) (hi : i < l.length), ∃ u, At3 w b (off + i * 3) u ∧ RepV w F l[i] u
  | [], _, _, _, i, hi => by simp at hi
  | s :: l, b, off, h, i, hi => by
    unfold RepVs at h
    cases i with
    | zero => simpa using h.1
    | succ i =>
      obtain ⟨u, ha, hu⟩ := RepVs.get l h.2 i (by simpa using hi)
      exact ⟨u, by rw [show off + (i + 1) * 3 = off + 3 + i * 3 from by omega]; exact ha, by simpa using hu⟩

theorem RepVs.of {w : World} {F : Nat → Prop} : ∀ (l : List V) {b off : Nat}, (∀ (i : Nat) (hi : i < l.length), ∃ u, At3 w b (off + i * 3) u ∧ RepV w F l[i] u) → RepVs w F l b off
  | [], _, _, _ => by unfold RepVs; trivial
  | s :: l, b, off, h => by
    unfold RepVs
    refine ⟨h 0 (by simp), RepVs.of l fun i hi => ?_⟩
    obtain ⟨u, ha, hu⟩ := h (i + 1) (by simpa using hi)
    exact ⟨u, by rw [show off + 3 + i * 3 = off + (i + 1) * 3 from by omega]; exact ha, by simpa using hu⟩
end Go.Proofs.YtgakcaobalfpjaaGreatDoor.M

/- Part: MouldParse1. -/
namespace Go.Proofs.YtgakcaobalfpjaaGreatDoor.M
open Go.RowKit

/-- What the three parsers answer, at a text, of a reading of what is left of it. -/
def PaPost (s : ByteArray) (w : World) (r : Option (Sh × List UInt8)) (e : Ending) (w' : World) : Prop :=
  Below w.heap.size w w' ∧ match r with
  | none => e = .returned (.tuple #[.agg #[.int .u8 0, .slice none 0 0, .bool false], .int .i64 0, .bool false])
  | some (sh, rest) => ∃ v k, e = .returned (.tuple #[v, .int .i64 (k : Nat), .bool true]) ∧ k ≤ s.size ∧ rest = s.data.toList.drop k ∧ RepS w' (fun b => w.heap.size ≤ b ∧ b < w'.heap.size) sh v

def PartSaid (d : Nat) : Prop := ∀ (s : ByteArray) (k : Nat) (a nest : Int) (w : World), a = (k : Int) → s.size ≤ 64 → k ≤ s.size → nest = 9 - (d : Int) → d ≤ 9 →
  Calls Tryz.prog 152 #[.string s, .int .i64 a, .int .i64 nest] w (PaPost s w (pShape d (s.data.toList.drop k)))

def ListSaid (d : Nat) : Prop := ∀ (s : ByteArray) (k : Nat) (a nest : Int) (w : World), a = (k : Int) → s.size ≤ 64 → k ≤ s.size → nest = 9 - (d : Int) → d ≤ 9 →
  Calls Tryz.prog 170 #[.string s, .int .i64 a, .int .i64 nest] w (PaPost s w ((pShape d (s.data.toList.drop k)).map fun x => (.list x.1, x.2)))

def RowSaid (d : Nat) : Prop := ∀ (s : ByteArray) (k : Nat) (a nest : Int) (w : World), a = (k : Int) → s.size ≤ 64 → k ≤ s.size → nest = 9 - (d : Int) → d ≤ 9 →
  Calls Tryz.prog 171 #[.string s, .int .i64 a, .int .i64 nest] w
    (PaPost s w ((pRow (pShape d) (s.size - k + 1) (s.data.toList.drop k)).map fun x => (.row x.1, x.2)))

theorem drop_cons (s : ByteArray) (k : Nat) (h : k < s.size) : s.data.toList.drop k = s[k] :: s.data.toList.drop (k + 1) := by
  rw [List.drop_eq_getElem_cons (by simpa using h)]; rfl

theorem u8_beq (a b : UInt8) : ((a.toNat : Int) == (b.toNat : Int)) = (a == b) := by
  rw [Bool.eq_iff_iff]; simp [Int.natCast_inj, UInt8.toNat_inj]

/-- What a call that only makes memory leaves of a struct of three that was made just ahead of it. -/
theorem three_kept {w w1 : World} {x y z : Value} {t : TypeId} (hb : Below (w.alloc (.cells #[x, y, z] t)).heap.size (w.alloc (.cells #[x, y, z] t)) w1) :
    w1.cell? ⟨w.heap.size, 0, none⟩ = some x ∧ w1.cell? ⟨w.heap.size, 1, none⟩ = some y ∧ w1.cell? ⟨w.heap.size, 2, none⟩ = some z ∧
    w1.frozen? ⟨w.heap.size, 0, none⟩ = false ∧ w1.frozen? ⟨w.heap.size, 1, none⟩ = false ∧ w1.frozen? ⟨w.heap.size, 2, none⟩ = false ∧ w.heap.size < w1.heap.size := by
  have hc := fun o => hb.cell (p := ⟨w.heap.size, o, none⟩) (by simp)
  have hf := fun o => hb.frozen (p := ⟨w.heap.size, o, none⟩) (by simp)
  have hz := hb.size
  simp only [hc, hf]
  refine ⟨?_, ?_, ?_, ?_, ?_, ?_, ?_⟩ <;> first | (simp [World.cell?_alloc_at, World.frozen?_alloc_at]; done) | (simp at hz; omega)

set_option maxRecDepth 20000 in
set_option maxHeartbeats 400000 in
theorem list_of_part {d : Nat} (hp : PartSaid d) : ListSaid d := by
  rintro s k _ nest w rfl hs hk hn hd
  have H := Lib.hid hn
  clear hn
  go_enter Tryz.func170, Tryz.ntmps170
  go_wp2_with fail
  refine (hp s k _ nest _ rfl hs hk H.out hd).mono ?_
  rintro e w1 ⟨hb, hr⟩
  obtain ⟨c0, c1, c2, f0, f1, f2, hz⟩ := three_kept hb
  cases hq : pShape d (s.data.toList.drop k) with
  | none =>
    rw [hq] at hr
    subst hr
    have Hq := Lib.hid hq
    clear hq
    go_wp2_with fail
    refine bodyPost_ret (v := .tuple #[.agg #[.int .u8 0, .slice none 0 0, .bool false], .int .i64 0, .bool false]) (by simp [results, Tryz.results170, go_sem, c0, c1, c2, hz]) rfl ?_
    rw [Hq.out]
    refine ⟨?_, rfl⟩
    exact (((((below_alloc _ _).trans (hb.mono (by simp))).setCell (by simp) _).setCell (by simp) _).setCell (by simp) _).alloc (by simp; omega) _
  | some x =>
    obtain ⟨sh, rest⟩ := x
    rw [hq] at hr
    obtain ⟨v, k1, rfl, hk1, hrest, hv⟩ := hr
    have Hq := Lib.hid hq
    clear hq
    have Hr := Lib.hid hrest
    clear hrest
    obtain ⟨pa, pn, pc, rfl⟩ := hv.agg
    go_wp2_with fail
    refine bodyPost_ret (v := .tuple #[.agg #[.int .u8 42, .slice (some ⟨w1.heap.size + 1, 0, none⟩) 1 1, .bool true], .int .i64 (k1 : Nat), .bool true]) (by simp [results, Tryz.results170, go_sem, c0, c1, c2, hz]) rfl ?_
    rw [Hq.out]
    refine ⟨(((((below_alloc _ _).trans (hb.mono (by simp))).setCell (by simp) _).setCell (by simp) _).setCell (by simp) _ |>.alloc (by simp; omega) _).alloc (by simp; omega) _, _, k1, rfl, hk1, Hr.out, ?_⟩
    unfold RepS
    refine ⟨w1.heap.size + 1, 0, 1, .agg #[.int .u8 (kind sh), .slice pa pn pc, .bool (solid sh)], rfl, ⟨by omega, by simp⟩, ⟨_, _, _, rfl, ?_, ?_, ?_⟩, hv.same ?_ ?_⟩
    · simp [World.cell?_alloc_at]
    · simp [World.cell?_alloc_at]
    · simp [World.cell?_alloc_at]
    · simp; intro k h1 h2; omega
    · intro k ⟨h1, h2⟩
      simp only [World.size_alloc] at h1
      simp (disch := (simp; omega)) only [heap_alloc_old, heap_setCell_other]

theorem pShape_end {d : Nat} : pShape d [] = none := by cases d <;> simp [pShape]

theorem byte_lit (c : UInt8) (n : Nat) (h : n < 256) : ((c.toNat : Int) == (n : Int)) = decide (c = UInt8.ofNat n) := by
  rw [Bool.eq_iff_iff]
  simp only [beq_iff_eq, decide_eq_true_eq, Int.natCast_inj, ← UInt8.toNat_inj, UInt8.toNat_ofNat_of_lt' h]

/-- A part's first byte, tested as the walk writes its tests. -/
theorem pShape_cons (d : Nat) (c : UInt8) (r : List UInt8) : pShape (d + 1) (c :: r) =
    if ((c.toNat : Int) == 110) = true then some (.num, r)
    else if ((c.toNat : Int) == 98) = true then some (.blob, r)
    else if ((c.toNat : Int) == 42) = true then (pShape d r).map fun x => (.list x.1, x.2)
    else if ((c.toNat : Int) == 91) = true then (pRow (pShape d) (r.length + 1) r).map fun x => (.row x.1, x.2)
    else none := by
  have e1 := byte_lit c 110 (by decide)
  have e2 := byte_lit c 98 (by decide)
  have e3 := byte_lit c 42 (by decide)
  have e4 := byte_lit c 91 (by decide)
  have k1 : (UInt8.ofNat 110) = 110 := rfl
  have k2 : (UInt8.ofNat 98) = 98 := rfl
  have k3 : (UInt8.ofNat 42) = 42 := rfl
  have k4 : (UInt8.ofNat 91) = 91 := rfl
  rw [k1] at e1; rw [k2] at e2; rw [k3] at e3; rw [k4] at e4
  simp only [Int.cast_ofNat_Int] at e1 e2 e3 e4
  rw [pShape, e1, e2, e3, e4]
  simp only [decide_eq_true_eq]
  repeat' split
  all_goals simp_all

set_option maxRecDepth 20000 in
set_option maxHeartbeats 800000 in
theorem part_of {d : Nat} (hl : ∀ e, d = e + 1 → ListSaid e) (hr : ∀ e, d = e + 1 → RowSaid e) : PartSaid d := by
  rintro s k _ nest w rfl hs hk hn hd
  by_cases hk2 : k < s.size
  · by_cases hd0 : d = 0
    · subst hd0
      have H : Hid (pShape 0 (s.data.toList.drop k) = none) := Lib.hid (by simp [pShape])
      have hn1 : 8 < nest := by omega
      clear hn
      go_enter Tryz.func152, Tryz.ntmps152
      go_wp2_with fail
      refine bodyPost_ret (v := .tuple #[.agg #[.int .u8 0, .slice none 0 0, .bool false], .int .i64 0, .bool false]) (by simp [results, Tryz.results152, go_sem]) rfl ?_
      rw [H.out]
      exact ⟨below_alloc _ _, rfl⟩
    · obtain ⟨e, rfl⟩ : ∃ e, d = e + 1 := ⟨d - 1, by omega⟩
      have HC : Hid (s.data.toList.drop k = s[k] :: s.data.toList.drop (k + 1)) := Lib.hid (drop_cons s k hk2)
      have hn1 : nest ≤ 8 := by omega
      have hn0 : 0 ≤ nest := by omega
      have Hn := Lib.hid hn
      have HL : Hid (ListSaid e) := Lib.hid (hl e rfl)
      have HR : Hid (RowSaid e) := Lib.hid (hr e rfl)
      have HLn : Hid ((s.data.toList.drop (k + 1)).length = s.size - (k + 1)) := Lib.hid (by simp)
      clear hn hl hr
      go_enter Tryz.func152, Tryz.ntmps152
      go_wp2_with fail
      · have ht : (s[k].toNat : Int) = 110 := by simpa using ‹((s[k].toNat : Int) == 110) = true›
        refine bodyPost_ret (v := .tuple #[.agg #[.int .u8 (s[k].toNat : Int), .slice none 0 0, .bool true], .int .i64 ((k + 1 : Nat) : Int), .bool true]) (by simp [results, Tryz.results152, go_sem]) rfl ?_
        rw [HC.out, pShape_cons, ht]
        exact ⟨below_alloc _ _, _, k + 1, rfl, by omega, rfl, by unfold RepS; rfl⟩
      · have ht : (s[k].toNat : Int) = 98 := by simpa using ‹((s[k].toNat : Int) == 98) = true›
        refine bodyPost_ret (v := .tuple #[.agg #[.int .u8 (s[k].toNat : Int), .slice none 0 0, .bool true], .int .i64 ((k + 1 : Nat) : Int), .bool true]) (by simp [results, Tryz.results152, go_sem]) rfl ?_
        rw [HC.out, pShape_cons, ht]
        exact ⟨below_alloc _ _, _, k + 1, rfl, by omega, rfl, by unfold RepS; rfl⟩
      · have HT : Hid ((s[k].toNat : Int) = 42) := Lib.hid (by simpa using ‹((s[k].toNat : Int) == 42) = true›)
        refine (HL.out s (k + 1) _ (nest + 1) _ rfl hs (by omega) (by rw [Hn.out]; omega) (by omega)).mono ?_
        rintro e1 w1 ⟨hb, hr⟩
        obtain ⟨c0, c1, c2, f0, f1, f2, hz⟩ := three_kept hb
        cases hq : (pShape e (s.data.toList.drop (k + 1))).map fun x => (Sh.list x.1, x.2) with
        | none =>
          rw [hq] at hr
          subst hr
          have Hq := Lib.hid hq
          clear hq
          go_wp2_with fail
          refine bodyPost_ret (v := .tuple #[.agg #[.int .u8 0, .slice none 0 0, .bool false], .int .i64 0, .bool false]) (by simp [results, Tryz.results152, go_sem, c0, c1, c2, hz]) rfl ?_
          rw [HC.out, pShape_cons, HT.out]
          simp only [Int.reduceBEq, Bool.false_eq_true, if_false, if_true, Hq.out]
          exact ⟨((((below_alloc _ _).trans (hb.mono (by simp))).setCell (by simp) _).setCell (by simp) _).setCell (by simp) _, rfl⟩
        | some x =>
          rw [hq] at hr
          obtain ⟨sh, rest⟩ := x
          obtain ⟨v, k1, rfl, hk1, hrest, hv⟩ := hr
          have Hq := Lib.hid hq
          clear hq
          have Hr := Lib.hid hrest
          clear hrest
          have HV := Lib.hid hv
          obtain ⟨pa, pn, pc, rfl⟩ := hv.agg
          clear hv
          go_wp2_with fail
          refine bodyPost_ret (v := .tuple #[.agg #[.int .u8 (kind _), .slice pa pn pc, .bool (solid _)], .int .i64 (k1 : Nat), .bool true]) (by simp [results, Tryz.results152, go_sem, c0, c1, c2, hz]; exact ⟨rfl, rfl⟩) rfl ?_
          rw [HC.out, pShape_cons, HT.out]
          simp only [Int.reduceBEq, Bool.false_eq_true, if_false, if_true, Hq.out]
          refine ⟨((((below_alloc _ _).trans (hb.mono (by simp))).setCell (by simp) _).setCell (by simp) _).setCell (by simp) _, _, k1, rfl, hk1, Hr.out, HV.out.same ?_ ?_⟩
          · simp; intro k h1 h2; omega
          · intro k ⟨h1, h2⟩
            simp only [World.size_alloc] at h1
            simp (disch := (simp; omega)) only [heap_setCell_other]
      · have HT : Hid ((s[k].toNat : Int) = 91) := Lib.hid (by simpa using ‹((s[k].toNat : Int) == 91) = true›)
        refine (HR.out s (k + 1) _ (nest + 1) _ rfl hs (by omega) (by rw [Hn.out]; omega) (by omega)).mono ?_
        rintro e1 w1 ⟨hb, hr⟩
        obtain ⟨c0, c1, c2, f0, f1, f2, hz⟩ := three_kept hb
        cases hq : (pRow (pShape e) (s.size - (k + 1) + 1) (s.data.toList.drop (k + 1))).map fun x => (Sh.row x.1, x.2) with
        | none =>
          rw [hq] at hr
          subst hr
          have Hq := Lib.hid hq
          clear hq
          go_wp2_with fail
          refine bodyPost_ret (v := .tuple #[.agg #[.int .u8 0, .slice none 0 0, .bool false], .int .i64 0, .bool false]) (by simp [results, Tryz.results152, go_sem, c0, c1, c2, hz]) rfl ?_
          rw [HC.out, pShape_cons, HT.out]
          simp only [Int.reduceBEq, Bool.false_eq_true, if_false, if_true, HLn.out, Hq.out]
          exact ⟨((((below_alloc _ _).trans (hb.mono (by simp))).setCell (by simp) _).setCell (by simp) _).setCell (by simp) _, rfl⟩
        | some x =>
          rw [hq] at hr
          obtain ⟨sh, rest⟩ := x
          obtain ⟨v, k1, rfl, hk1, hrest, hv⟩ := hr
          have Hq := Lib.hid hq
          clear hq
          have Hr := Lib.hid hrest
          clear hrest
          have HV := Lib.hid hv
          obtain ⟨pa, pn, pc, rfl⟩ := hv.agg
          clear hv
          go_wp2_with fail
          refine bodyPost_ret (v := .tuple #[.agg #[.int .u8 (kind _), .slice pa pn pc, .bool (solid _)], .int .i64 (k1 : Nat), .bool true]) (by simp [results, Tryz.results152, go_sem, c0, c1, c2, hz]; exact ⟨rfl, rfl⟩) rfl ?_
          rw [HC.out, pShape_cons, HT.out]
          simp only [Int.reduceBEq, Bool.false_eq_true, if_false, if_true, HLn.out, Hq.out]
          refine ⟨((((below_alloc _ _).trans (hb.mono (by simp))).setCell (by simp) _).setCell (by simp) _).setCell (by simp) _, _, k1, rfl, hk1, Hr.out, HV.out.same ?_ ?_⟩
          · simp; intro k h1 h2; omega
          · intro k ⟨h1, h2⟩
            simp only [World.size_alloc] at h1
            simp (disch := (simp; omega)) only [heap_setCell_other]
      · have h1 : ((s[k].toNat : Int) == 110) = false := by assumption
        have h2 : ((s[k].toNat : Int) == 98) = false := by assumption
        have h3 : ((s[k].toNat : Int) == 42) = false := by assumption
        have h4 : ((s[k].toNat : Int) == 91) = false := by assumption
        refine bodyPost_ret (v := .tuple #[.agg #[.int .u8 0, .slice none 0 0, .bool false], .int .i64 0, .bool false]) (by simp [results, Tryz.results152, go_sem]) rfl ?_
        rw [HC.out, pShape_cons, h1, h2, h3, h4]
        exact ⟨below_alloc _ _, rfl⟩
  · have hk3 : s.size ≤ k := by omega
    have H : Hid (pShape d (s.data.toList.drop k) = none) := Lib.hid (by rw [List.drop_of_length_le (by simpa using hk3)]; exact pShape_end)
    clear hn
    go_enter Tryz.func152, Tryz.ntmps152
    go_wp2_with fail
    refine bodyPost_ret (v := .tuple #[.agg #[.int .u8 0, .slice none 0 0, .bool false], .int .i64 0, .bool false]) (by simp [results, Tryz.results152, go_sem]) rfl ?_
    rw [H.out]
    exact ⟨below_alloc _ _, rfl⟩
end Go.Proofs.YtgakcaobalfpjaaGreatDoor.M

/- Part: MouldParse2. -/
namespace Go.Proofs.YtgakcaobalfpjaaGreatDoor.M
open Go.RowKit

theorem infoPart : (Tryz.prog.info? 188).map (fun i => (i.zero, i.size, i.bytes)) = some (some (.agg #[.int .u8 0, .slice none 0 0, .bool false]), 3, 40) := by kernel_rfl

/-- The state at the head of parseRow's loop: i parts are read, up to place k1. -/
def RowAt (s : ByteArray) (k d : Nat) (w : World) (k1 : Nat) (wr : World) : Prop :=
  ∃ (l : List Sh) (a : Option Addr) (n c : Nat) (xs : List Value), k ≤ k1 ∧ k1 ≤ s.size ∧ l.length ≤ k1 - k ∧
    pRow (pShape d) (s.size - k + 1) (s.data.toList.drop k) = cat l (pRow (pShape d) (s.size - k + 1 - l.length) (s.data.toList.drop k1)) ∧
    Below (w.heap.size + 1) (w.alloc (.cells #[.int .u8 0, .slice none 0 0, .bool false] 188)) wr ∧
    wr.heap[w.heap.size + 1]? = some (.cells #[.int .u8 91, .slice a n c, .bool (solids l)] 188) ∧
    wr.ownsRow (w.heap.size + 2) 188 3 (.slice a n c) l.length xs ∧
    Kids (RepS wr fun b => w.heap.size + 2 ≤ b ∧ b < wr.heap.size ∧ (Value.slice a n c).ownBlock ≠ some b) l xs

set_option maxRecDepth 20000 in
set_option maxHeartbeats 800000 in
theorem row_of_part {d : Nat} (hp : PartSaid d) : RowSaid d := by
  rintro s k _ nest w rfl hs hk hn hd
  have HN := Lib.hid hn
  have HP : Hid (PartSaid d) := Lib.hid hp
  clear hn hp
  go_enter Tryz.func171, Tryz.ntmps171
  go_wp2_with fail
  go_loopw [1] (fun i wr => ∃ k1 : Nat, i = .int .i64 (k1 : Int) ∧ RowAt s k d w k1 wr) (fun i _ => s.size - (intOf i).toNat)
  case atStart =>
    refine ⟨k, rfl, [], none, 0, 0, [], by omega, hk, by simp, cat_nil _, ?_, heap_new _ _ _ (by simp), World.ownsRow_nil _ _ _ _, rfl⟩
    exact (Below.refl _ _).alloc (by simp) _
  case round =>
    obtain ⟨k1, rfl, l, a, n, c, xs, hk1, hk2, hl, hsp, hB, hall, hown, hkids⟩ := hrel
    obtain ⟨c0, c1, c2, f0, f1, f2, hz⟩ := block3 ((hB.block w.heap.size (by omega)).trans (heap_new w _ _ rfl))
    obtain ⟨a0, a1, a2, g0, g1, g2, hz2⟩ := block3 hall
    have HS := Lib.hid hsp
    have HA := Lib.hid hall
    clear hsp hall
    by_cases hk3 : k1 < s.size
    · have HC : Hid (s.data.toList.drop k1 = s[k1] :: s.data.toList.drop (k1 + 1)) := Lib.hid (drop_cons s k1 hk3)
      by_cases h93 : (((s[k1].toNat : Int) != 93) = true)
      · go_wp2_with fail
        refine (HP.out s k1 _ nest _ rfl hs (by omega) HN.out (by omega)).mono ?_
        rintro e1 w1 ⟨hb, hr⟩
        obtain ⟨c0, c1, c2, f0, f1, f2, hz⟩ := block3 ((hb.block w.heap.size (by omega)).trans ((hB.block w.heap.size (by omega)).trans (heap_new w _ _ rfl)))
        have HA1 := Lib.hid ((hb.block (w.heap.size + 1) (by omega)).trans HA.out)
        obtain ⟨a0, a1, a2, g0, g1, g2, hz2⟩ := block3 HA1.out
        have hb9 : s[k1] ≠ 93 := by
          have e := byte_lit s[k1] 93 (by decide)
          simp only [Int.cast_ofNat_Int] at e
          intro h; rw [h] at h93; simp at h93
        cases hq : pShape d (s.data.toList.drop k1) with
        | none =>
          rw [hq] at hr
          subst hr
          have Hq := Lib.hid hq
          clear hq
          go_wp2_with fail
          refine bodyPost_ret (v := .tuple #[.agg #[.int .u8 0, .slice none 0 0, .bool false], .int .i64 0, .bool false]) (by simp [results, Tryz.results171, go_sem, c0, c1, c2, hz]) rfl ?_
          have Hq1 := Hq.out
          rw [HC.out] at Hq1
          rw [HS.out, HC.out, show s.size - k + 1 - l.length = (s.size - k - l.length) + 1 from by omega, cat_fails hb9 Hq1]
          exact ⟨((((below_behind hB).trans (hb.mono (by omega))).setCell (by simp) _).setCell (by simp) _).setCell (by simp) _ |>.alloc (by simp; omega) _, rfl⟩
        | some x =>
          rw [hq] at hr
          obtain ⟨sh, rest⟩ := x
          obtain ⟨u, k2, rfl, hk4, hrest, hu⟩ := hr
          have Hq := Lib.hid hq
          clear hq
          have Hr := Lib.hid hrest
          clear hrest
          have HU := Lib.hid hu
          obtain ⟨pa, pn, pc, rfl⟩ := hu.agg
          clear hu
          have hown1 := hown.kept (grown_of_below hb) (by cases (Value.slice a n c).ownBlock <;> simp)
          obtain ⟨ip, hip, hip0, hip1, hip2⟩ := info_parts infoPart
          go_wp2_with (at_builtin; go_loud (refine wpList_append_own2 _ rfl _ _ 186 rfl (w.heap.size + 2) 188 ip (.agg #[.int .u8 0, .slice none 0 0, .bool false]) 3 40 Tryz.underlying186 hip hip0 hip1 hip2 rfl (by decide) _ _ _ rfl ((hown1.alloc _).alloc _) ⟨w1.heap.size + 1, 0, none⟩ 1 1 [.int .u8 (kind sh), .slice pa pn pc, .bool (solid sh)] rfl rfl ?c1 ?c2 ?c3 ?c4 ?c5 ?_))
          case c1 => exact three_new (by simp)
          case c2 => intro u hu; simp at hu; rcases hu with rfl | rfl | rfl <;> rfl
          case c3 => unfold maxLen; omega
          case c4 => omega
          case c5 => simp; omega
          intro v' w4 hown2 hg _ hwhere
          have hE := grown_keeps ((hown1.alloc _).alloc _) hg (by omega) (old_alloc (old_alloc HA1.out))
          have hE0 := grown_keeps ((hown1.alloc _).alloc _) hg (by omega) (old_alloc (old_alloc (old_below (((hB.block w.heap.size (by omega)).trans (heap_new w _ _ rfl))) hb)))
          obtain ⟨c0, c1, c2, f0, f1, f2, hz⟩ := block3 hE0
          obtain ⟨a0, a1, a2, g0, g1, g2, hz2⟩ := block3 hE
          have HE := Lib.hid hE
          have HE0 := Lib.hid hE0
          clear hE hE0
          obtain ⟨a', c', hv'⟩ := owned_slice hown2
          subst hv'
          have hE2 : w4.heap[w1.heap.size]? = some (.cells #[.int .u8 (kind sh), .slice pa pn pc, .bool (solid sh)] 188) := by
            rw [hg.block w1.heap.size (by simp; omega) ?_]
            · exact old_alloc (heap_new _ _ _ rfl)
            · intro h1
              have := (hown.lt w1.heap.size h1.symm).2
              have := hb.size
              omega
          obtain ⟨b0, b1, b2, _, _, _, hz3⟩ := block3 hE2
          clear hE2
          have hk5 : k1 < k2 := by
            have := pShape_less _ _ _ _ Hq.out
            rw [Hr.out] at this
            simp at this
            omega
          have hstep : ∀ so, so = solids (l ++ [sh]) → RowAt s k d w k2 ((w4.setCell ⟨w.heap.size + 1, 1, none⟩ (.slice a' (l.length + 1) c')).setCell ⟨w.heap.size + 1, 2, none⟩ (.bool so)) := by
            rintro so rfl
            have hq2 := Hq.out
            rw [HC.out] at hq2
            have hbs := hb.size
            refine ⟨l ++ [sh], a', l.length + 1, c', xs ++ [.int .u8 (kind sh), .slice pa pn pc, .bool (solid sh)], by omega, hk4, by simp; omega, ?_, ?_, ?_, ?_, ?_⟩
            · rw [HS.out, HC.out, show s.size - k + 1 - l.length = (s.size - k - l.length) + 1 from by omega, cat_step hb9 hq2, Hr.out]
              simp
            · have h4 : Below (w.heap.size + 1) w1 w4 := (((Below.refl _ w1).alloc (by omega) _).alloc (by simp; omega) _).grown hg (by simp; omega) (fun k hk => by have := (hown.lt k hk).1; omega)
              exact (((hB.trans (hb.mono (by omega))).trans h4).setCell (by simp) _).setCell (by simp) _
            · rw [heap_setCell_same _ _ _ _ _ _ (heap_setCell_same _ _ _ _ _ _ HE.out)]
              simp
            · rw [show (l ++ [sh]).length = l.length + 1 from by simp]
              exact ownsRow_setCell_below (ownsRow_setCell_below hown2 (by simp) _) (by simp) _
            · have hkeep : ∀ b, w.heap.size + 2 ≤ b → b < w1.heap.size → (Value.slice a n c).ownBlock ≠ some b → ((w4.setCell ⟨w.heap.size + 1, 1, none⟩ (.slice a' (l.length + 1) c')).setCell ⟨w.heap.size + 1, 2, none⟩ (.bool (solids (l ++ [sh])))).heap[b]? = w1.heap[b]? := by
                intro b h1 h2 h3
                rw [Below.heap_setCell _ _ _ _ (by simp; omega), Below.heap_setCell _ _ _ _ (by simp; omega), hg.block b (by simp; omega) (fun h => h3 h.symm),
                  Below.heap_alloc _ _ _ (by simp; omega), Below.heap_alloc _ _ _ h2]
              have hnew : ∀ b, b < w1.heap.size → (Value.slice a n c).ownBlock ≠ some b → (Value.slice a' (l.length + 1) c').ownBlock ≠ some b := by
                intro b h2 h3 h4
                rcases hwhere with h5 | h5
                · exact h3 (h5.symm.trans h4)
                · rw [h4] at h5; simp at h5; omega
              have hz9 : w1.heap.size < w4.heap.size := hz3
              refine Kids.snoc (HU.out.same ?_ ?_) (hkids.mono fun s u h => h.same ?_ ?_)
              · intro b ⟨h1, h2⟩
                have h3 : (Value.slice a n c).ownBlock ≠ some b := fun h => by have := (hown.lt b h).2; omega
                exact ⟨by omega, by simp; omega, hnew b h2 h3⟩
              · intro b ⟨h1, h2⟩
                exact hkeep b (by omega) h2 fun h => by have := (hown.lt b h).2; omega
              · intro b ⟨h1, h2, h3⟩
                exact ⟨h1, by simp; omega, hnew b (by omega) h3⟩
              · intro b ⟨h1, h2, h3⟩
                rw [hkeep b h1 (by omega) h3, hb.block b h2]
          have HStep := Lib.hid hstep
          clear hstep
          go_wp2_with fail
          · go_roundw
            case rel => exact ⟨k2, rfl, HStep.out _ (by rw [solids_snoc]; simp [*])⟩
            case measure => simp [intOf]; omega
          · go_roundw
            case rel => exact ⟨k2, rfl, HStep.out _ (by rw [solids_snoc]; simp [*])⟩
            case measure => simp [intOf]; omega
      · have h94 : ((s[k1].toNat : Int) != 93) = false := by simpa using h93
        go_wp2_with fail
        refine bodyPost_ret (v := .tuple #[.agg #[.int .u8 91, .slice a n c, .bool (solids l)], .int .i64 ((k1 + 1 : Nat) : Int), .bool true]) (by simp [results, Tryz.results171, go_sem, c0, c1, c2]) rfl ?_
        have h5 : s[k1] = 93 := by
          have e := byte_lit s[k1] 93 (by decide)
          have e2 : ((s[k1].toNat : Int) == 93) = true := by simpa [bne] using h94
          simp only [Int.cast_ofNat_Int] at e
          rw [e2] at e
          simpa using e.symm
        rw [HS.out, HC.out, h5, show s.size - k + 1 - l.length = (s.size - k - l.length) + 1 from by omega, cat_ends]
        refine ⟨(((below_behind hB).setCell (by simp) _).setCell (by simp) _).setCell (by simp) _, _, k1 + 1, rfl, by omega, rfl, ?_⟩
        unfold RepS
        refine ⟨_, rfl, ?_⟩
        rcases owned_kids hown hkids with h1 | ⟨b, c', hv, ho, hb, hlt, h3, h4, hx⟩
        · exact .inl h1
        · refine .inr ⟨b, 0, c', hv, ⟨by omega, by simp; omega⟩, RepSs.of l fun i hi => ?_⟩
          obtain ⟨u, ha, hu⟩ := hx i hi
          refine ⟨u, ha.same ?_, hu.same ?_ ?_⟩
          · simp (disch := (simp; omega)) only [heap_setCell_other]
          · simp; intro k h1 h2 _; omega
          · intro k ⟨h1, h2, _⟩
            simp (disch := (simp; omega)) only [heap_setCell_other]
    · have HD : Hid (s.data.toList.drop k1 = []) := Lib.hid (List.drop_of_length_le (by simp; omega))
      have hk4 : s.size ≤ k1 := by omega
      go_wp2_with fail
      refine bodyPost_ret (v := .tuple #[.agg #[.int .u8 0, .slice none 0 0, .bool false], .int .i64 0, .bool false]) (by simp [results, Tryz.results171, go_sem, c0, c1, c2]) rfl ?_
      rw [HS.out, HD.out, cat_short]
      exact ⟨(((below_behind hB).setCell (by simp) _).setCell (by simp) _).setCell (by simp) _, rfl⟩

theorem parts : ∀ d, PartSaid d
  | 0 => part_of (by omega) (by omega)
  | d + 1 => part_of (fun e h => by obtain rfl : d = e := by omega
                                    exact list_of_part (parts d)) (fun e h => by obtain rfl : d = e := by omega
                                                                                 exact row_of_part (parts d))
end Go.Proofs.YtgakcaobalfpjaaGreatDoor.M

/- Part: MouldParse3. -/
namespace Go.Proofs.YtgakcaobalfpjaaGreatDoor.M
open Go.RowKit

def ShapePost (w : World) (r : Option Sh) (e : Ending) (w' : World) : Prop :=
  Below w.heap.size w w' ∧ match r with
  | none => e = .returned (.tuple #[.agg #[.int .u8 0, .slice none 0 0, .bool false], .bool false])
  | some sh => ∃ v, e = .returned (.tuple #[v, .bool true]) ∧ RepS w' (fun b => w.heap.size ≤ b ∧ b < w'.heap.size) sh v

set_option maxRecDepth 20000 in
set_option maxHeartbeats 800000 in
theorem parse_any (s : ByteArray) (w : World) (hs : s.size ≤ 9223372036854775807) :
    Calls Tryz.prog 125 #[.string s] w (ShapePost w (shape s.data.toList)) := by
  by_cases hl : 64 < s.size
  · have H : Hid (shape s.data.toList = none) := Lib.hid (by unfold shape; rw [if_pos (by simpa using hl)])
    go_enter Tryz.func125, Tryz.ntmps125
    go_wp2_with fail
    refine bodyPost_ret (v := .tuple #[.agg #[.int .u8 0, .slice none 0 0, .bool false], .bool false]) (by simp [results, Tryz.results125, go_sem]) rfl ?_
    rw [H.out]
    exact ⟨below_alloc _ _, rfl⟩
  · have hl2 : s.size ≤ 64 := by omega
    have H : Hid (shape s.data.toList = match pShape 9 s.data.toList with | some (s, []) => some s | _ => none) := Lib.hid (by unfold shape; rw [if_neg (by simpa using hl)] <;> rfl)
    go_enter Tryz.func125, Tryz.ntmps125
    go_wp2_with fail
    refine (parts 9 s 0 _ 0 _ rfl hl2 (by omega) rfl (by omega)).mono ?_
    rintro e w1 ⟨hb, hr⟩
    obtain ⟨c0, c1, c2, f0, f1, f2, hz⟩ := three_kept hb
    rw [List.drop_zero] at hr
    cases hq : pShape 9 s.data.toList with
    | none =>
      rw [hq] at hr
      subst hr
      have Hq := Lib.hid hq
      clear hq
      go_wp2_with fail
      refine bodyPost_ret (v := .tuple #[.agg #[.int .u8 0, .slice none 0 0, .bool false], .bool false]) (by simp [results, Tryz.results125, go_sem, c0, c1, c2, hz]) rfl ?_
      rw [H.out, Hq.out]
      exact ⟨((((below_alloc _ _).trans (hb.mono (by simp))).setCell (by simp) _).setCell (by simp) _).setCell (by simp) _ |>.alloc (by simp; omega) _, rfl⟩
    | some x =>
      rw [hq] at hr
      obtain ⟨sh, rest⟩ := x
      obtain ⟨u, k2, rfl, hk4, hrest, hu⟩ := hr
      have Hq := Lib.hid hq
      clear hq
      have Hr := Lib.hid hrest
      clear hrest
      have HU := Lib.hid hu
      obtain ⟨pa, pn, pc, rfl⟩ := hu.agg
      clear hu
      by_cases hk : k2 = s.size
      · have HR : Hid (rest = []) := Lib.hid (by rw [Hr.out, hk]; simp)
        have hk2 : ((k2 : Int) != (s.size : Int)) = false := by simp [hk]
        clear hk
        go_wp2_with fail
        refine bodyPost_ret (v := .tuple #[.agg #[.int .u8 (kind sh), .slice pa pn pc, .bool (solid sh)], .bool true]) (by simp [results, Tryz.results125, go_sem, c0, c1, c2, hz]) rfl ?_
        rw [H.out, Hq.out, HR.out]
        refine ⟨((((below_alloc _ _).trans (hb.mono (by simp))).setCell (by simp) _).setCell (by simp) _).setCell (by simp) _ |>.alloc (by simp; omega) _, _, rfl, HU.out.same ?_ ?_⟩
        · simp; intro k h1 h2; omega
        · intro k ⟨h1, h2⟩
          simp only [World.size_alloc] at h1
          rw [Below.heap_alloc _ _ _ (by simp; omega)]
          simp (disch := (simp; omega)) only [Below.heap_setCell]
      · have HR : Hid (∃ c r, rest = c :: r) := Lib.hid (by
          rw [Hr.out, drop_cons s k2 (by omega)]; exact ⟨_, _, rfl⟩)
        have hk2 : ((k2 : Int) != (s.size : Int)) = true := by simp; omega
        clear hk
        go_wp2_with fail
        refine bodyPost_ret (v := .tuple #[.agg #[.int .u8 0, .slice none 0 0, .bool false], .bool false]) (by simp [results, Tryz.results125, go_sem, c0, c1, c2, hz]) rfl ?_
        obtain ⟨c, r, hc⟩ := HR.out
        rw [H.out, Hq.out, hc]
        exact ⟨((((below_alloc _ _).trans (hb.mono (by simp))).setCell (by simp) _).setCell (by simp) _).setCell (by simp) _ |>.alloc (by simp; omega) _, rfl⟩

/-- A slice of strings. -/
def RepT (w : World) (l : List ByteArray) (v : Value) : Prop :=
  ∃ a c, v = .slice a l.length c ∧ l.length ≤ 9223372036854775807 ∧ ∀ (i : Nat) (hi : i < l.length), ∃ b off, a = some ⟨b, off, none⟩ ∧ w.cell? ⟨b, off + i, none⟩ = some (.string l[i]) ∧ l[i].size ≤ 9223372036854775807

end Go.Proofs.YtgakcaobalfpjaaGreatDoor.M

/- Part: Bits. -/
namespace Go.Proofs.YtgakcaobalfpjaaGreatDoor.M
open Go.RowKit

theorem table (T : ByteArray) (hT : T.data.toList = (List.range 256).map (fun i => UInt8.ofNat (blen i))) (i : Nat) (h : i < T.size) : ((T[i].toNat : Int)) = (blen i : Int) := by
  have hs : T.size = 256 := by rw [show T.size = T.data.toList.length from by rw [Array.length_toList]; rfl, hT]; simp
  have e : T[i] = UInt8.ofNat (blen i) := by
    have : T[i] = T.data.toList[i]'(by simpa using h) := rfl
    rw [this]
    simp only [hT, List.getElem_map, List.getElem_range]
  have hb : blen i ≤ 8 := by rw [blen_le]; omega
  rw [e, UInt8.toNat_ofNat_of_lt' (by show blen i < 256; omega)]

theorem bits_add (c : Int) (k m n : Nat) (hc : c = (k : Int)) (hk : k ≤ 56) (h : 2 ^ k ≤ n) (hm : m = n / 2 ^ k) (hm2 : m < 256) : wrap64 (c + wrap64 (blen m : Int)) = (blen n : Int) := by
  have hb : blen m ≤ 8 := by rw [blen_le]; omega
  rw [blen_shift n k h, ← hm, hc, IntWalk.wrap64_in (blen m : Int) (by omega), IntWalk.wrap64_in _ (by omega)]
  simp

theorem bits_none (n : Nat) (hm2 : n < 256) : wrap64 (wrap64 (blen n : Int)) = (blen n : Int) := by
  have hb : blen n ≤ 8 := by rw [blen_le]; omega
  rw [IntWalk.wrap64_in (blen n : Int) (by omega), IntWalk.wrap64_in _ (by omega)]

set_option maxRecDepth 100000 in
set_option maxHeartbeats 800000 in
theorem Len64_any (n : Int) (h0 : 0 ≤ n) (h1 : Hid (n < 18446744073709551616)) (w : World) :
    Calls Tryz.prog 143 #[.int .u64 n] w fun e w' => e = .returned (.int .i64 (blen n.toNat : Int)) ∧ w = w' := by
  go_enter Tryz.func143, Tryz.ntmps143
  go_wp2_with fail
  all_goals go_ret
  all_goals refine ⟨?_, rfl⟩
  all_goals have h2 := h1.out
  · exact congrArg (fun x => Ending.returned (.int .i64 x)) (by rw [table _ (by decide +kernel)]; refine bits_add 56 56 _ _ rfl (by omega) (by omega) (by omega) (by omega))
  · exact congrArg (fun x => Ending.returned (.int .i64 x)) (by rw [table _ (by decide +kernel)]; refine bits_add 48 48 _ _ rfl (by omega) (by omega) (by omega) (by omega))
  · exact congrArg (fun x => Ending.returned (.int .i64 x)) (by rw [table _ (by decide +kernel)]; refine bits_add 40 40 _ _ rfl (by omega) (by omega) (by omega) (by omega))
  · exact congrArg (fun x => Ending.returned (.int .i64 x)) (by rw [table _ (by decide +kernel)]; refine bits_add 32 32 _ _ rfl (by omega) (by omega) (by omega) (by omega))
  · exact congrArg (fun x => Ending.returned (.int .i64 x)) (by rw [table _ (by decide +kernel)]; refine bits_add 24 24 _ _ rfl (by omega) (by omega) (by omega) (by omega))
  · exact congrArg (fun x => Ending.returned (.int .i64 x)) (by rw [table _ (by decide +kernel)]; refine bits_add 16 16 _ _ rfl (by omega) (by omega) (by omega) (by omega))
  · exact congrArg (fun x => Ending.returned (.int .i64 x)) (by rw [table _ (by decide +kernel)]; refine bits_add 8 8 _ _ rfl (by omega) (by omega) (by omega) (by omega))
  · exact congrArg (fun x => Ending.returned (.int .i64 x)) (by rw [table _ (by decide +kernel)]; refine bits_none _ (by omega))
end Go.Proofs.YtgakcaobalfpjaaGreatDoor.M

/- Part: MouldPut1. -/
namespace Go.Proofs.YtgakcaobalfpjaaGreatDoor.M
open Go.RowKit

set_option maxRecDepth 20000 in
set_option maxHeartbeats 800000 in
theorem layNumber_any (B : Nat) (v : Value) (L : List UInt8) (n : Nat) (w : World) (hn : Hid ((n : Int) < 18446744073709551616)) (hown : w.ownsRow B 5 1 v L.length (L.map byteV))
    (hB : B ≤ w.heap.size) (hL : L.length ≤ 1099511627776) :
    Calls Tryz.prog 153 #[v, .int .u64 (n : Int)] w fun e w' => ∃ v', e = .returned v' ∧ Acc w B v w' v' (L ++ num n) := by
  obtain ⟨a, c, rfl⟩ := owned_slice hown
  obtain ⟨ib, hib, hib0, hib1, hib2⟩ := info_parts infoByte
  have hn2 : Hid (n < 18446744073709551616) := Lib.hid (by have := hn.out; omega)
  have hl8 := dig_length_le n hn2.out
  have HD : Hid ((dig 8 n).length = (blen n + 7) / 8) := Lib.hid (dig_length 8 n (by have := hn.out; omega))
  have HT : Hid (∀ j, j < (dig 8 n).length → (dig 8 n).take ((dig 8 n).length - j) = (dig 8 n).take ((dig 8 n).length - (j + 1)) ++ [UInt8.ofNat (n / 2 ^ (8 * j) % 256)]) := Lib.hid fun j hj => dig_take hn2.out hj
  have hb64 : blen n ≤ 64 := by have := hn.out; rw [blen_le]; omega
  have hlen := Len64_any n (by omega) hn w
  rw [Int.toNat_natCast] at hlen
  have HLEN := Lib.hid hlen
  rw [show num n = UInt8.ofNat (dig 8 n).length :: dig 8 n from rfl]
  clear hn2 hlen hn
  generalize dig 8 n = D at *
  generalize blen n = bl at *
  have HDI : Hid (((bl : Int) + 7) / 8 = (D.length : Int)) := Lib.hid (by rw [HD.out]; omega)
  have hdl : ((bl : Int) + 7) / 8 ≤ 8 := by omega
  go_enter Tryz.func153, Tryz.ntmps153
  go_wp2_with fail
  refine HLEN.out.mono ?_
  rintro e w1 ⟨rfl, rfl⟩
  go_wp2_with (at_builtin; refine wpList_append_own2 _ rfl (.tmp 11) (.tmp 14) 35 rfl B 5 ib (.int .u8 0) 1 1 Tryz.underlying35 hib hib0 hib1 hib2 rfl (by decide) _ _ _ rfl (hown.alloc _) ⟨w.heap.size, 0, none⟩ 1 1 [.int .u8 (((bl : Int) + 7) / 8)] rfl rfl ?c1 ?c2 ?c3 ?c4 ?c5 ?_)
  case c1 => exact one_new rfl
  case c2 => intro u hu; simp at hu; rw [hu]; rfl
  case c3 => unfold maxLen; omega
  case c4 => omega
  case c5 => simp; omega
  intro v1 w2 hown2 hg _ hwhere
  have hacc : Acc w B (.slice a L.length c) w2 v1 (L ++ [UInt8.ofNat D.length]) := by
    refine (Acc.start hown).push hown2 (by simp) ?_ hg (by simpa using hwhere)
    have : (UInt8.ofNat D.length).toNat = D.length := UInt8.toNat_ofNat_of_lt' (by show _ < 256; omega)
    rw [byteV, this, HDI.out]
  clear hwhere hg hown2
  go_wp2_with fail
  go_loopw [0, 6] (fun o i wr => ∃ (x : Int) (j : Nat) (v2 : Value), o = v2 ∧ i = .int .i64 x ∧ Hid (x = (j : Int) - 1) ∧ j ≤ D.length ∧
      Acc w B (.slice a L.length c) wr v2 (L ++ [UInt8.ofNat D.length] ++ D.take (D.length - j))) (fun _ i _ => upOne i)
  case atStart => exact ⟨_, D.length, v1, rfl, rfl, Lib.hid (by rw [HDI.out]), Nat.le_refl _, by simpa using hacc⟩
  case round =>
    obtain ⟨x, j, v2, rfl, rfl, HX, hj, hacc⟩ := hrel
    by_cases hj0 : 0 < j
    · have hx0 : 0 ≤ x := by have := HX.out; omega
      have hx8 : x ≤ 7 := by have := HX.out; omega
      clear hj0
      go_wp2_with (at_builtin; refine wpList_append_own2 _ rfl (.tmp 22) (.tmp 28) 35 rfl B 5 ib (.int .u8 0) 1 1 Tryz.underlying35 hib hib0 hib1 hib2 rfl (by decide) _ _ _ rfl (hacc.1.alloc _) ⟨wr.heap.size, 0, none⟩ 1 1 [.int .u8 ((n : Int) / 2 ^ (8 * x).toNat % 256)] rfl rfl ?d1 ?d2 ?d3 ?d4 ?d5 ?_)
      case d1 => exact one_new rfl
      case d2 => intro u hu; simp at hu; rw [hu]; rfl
      case d3 => simp; unfold maxLen; omega
      case d4 => simp; omega
      case d5 => have := hacc.2.1.size; simp; omega
      intro v3 w3 hown3 hg3 _ hwhere3
      have hacc3 : Acc w B (.slice a L.length c) w3 v3 (L ++ [UInt8.ofNat D.length] ++ D.take (D.length - (j - 1))) := by
        have hx := HX.out
        have e := HT.out (j - 1) (by omega)
        rw [show j - 1 + 1 = j from by omega] at e
        rw [e, ← List.append_assoc]
        have e2 : (8 * x).toNat = 8 * (j - 1) := by omega
        have e3 : byteV (UInt8.ofNat (n / 2 ^ (8 * (j - 1)) % 256)) = .int .u8 ((n : Int) / 2 ^ (8 * x).toNat % 256) := by
          rw [e2, byteV, UInt8.toNat_ofNat_of_lt' (by show _ < 256; omega)]
          simp
        exact hacc.push hown3 (by simp) (by rw [e3]; simp) hg3 (by simpa using hwhere3)
      have HX3 : Hid (x - 1 = ((j - 1 : Nat) : Int) - 1) := Lib.hid (by have := HX.out; omega)
      have hj3 : j - 1 ≤ D.length := by omega
      clear hwhere3 hg3 hown3
      go_wp2_with fail
      go_roundw
      case rel => exact ⟨x - 1, j - 1, v3, rfl, rfl, HX3, hj3, hacc3⟩
      case measure => simp [upOne, intOf]; omega
    · have hx0 : x < 0 := by have := HX.out; omega
      have HJ : Hid (D.length - j = D.length) := Lib.hid (by omega)
      clear hj0
      go_wp2_with fail
      go_ret
      refine ⟨_, rfl, ?_⟩
      rw [HJ.out, List.take_length, List.append_assoc] at hacc
      exact hacc
end Go.Proofs.YtgakcaobalfpjaaGreatDoor.M
