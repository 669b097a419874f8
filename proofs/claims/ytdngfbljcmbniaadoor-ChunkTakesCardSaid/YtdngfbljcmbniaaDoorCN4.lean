/- The register of CRC-32C, as plain numbers: it is linear, and leads nothing but 0 to 0. No program is named here. Chunk, over plain lists: pieces, what a heap takes, how bytes are cut. Bits that say which bytes of a block are there. What a heap has, over plain lists: its invariant, and the pieces of a cut. -/
import Derived.WalkKit
import Derived.Lib.TrailingZeros
/- Part: SumPure. -/
namespace Go.Proofs.YtdngfbljcmbniaaDoor.C

/-- The polynomial, as the document's register has it. -/
def poly : Nat := 2197175160

/-- One bit's step of the register. -/
def rnd (r : Nat) : Nat := if r % 2 = 1 then (r / 2) ^^^ poly else r / 2

def rnds : Nat → Nat → Nat
  | 0, r => r
  | k + 1, r => rnds k (rnd r)

/-- The register led on by a byte. -/
def step (r : Nat) (c : UInt8) : Nat := rnds 8 (r ^^^ c.toNat)

def lead (r : Nat) (l : List UInt8) : Nat := l.foldl step r

def ones : Nat := 4294967295

/-- The sum of bytes. -/
def sumOf (l : List UInt8) : Nat := lead ones l ^^^ ones

/-- A register led on by so many noughts. -/
def zeros : Nat → Nat → Nat
  | 0, r => r
  | k + 1, r => zeros k (rnds 8 r)

theorem xor_div2 (a b : Nat) : (a ^^^ b) / 2 = a / 2 ^^^ b / 2 := by
  apply Nat.eq_of_testBit_eq
  intro i
  simp only [Nat.testBit_div_two, Nat.testBit_xor]

theorem xor_mod2 (a b : Nat) : (a ^^^ b) % 2 = (a % 2 + b % 2) % 2 := by
  have h := Nat.testBit_xor a b 0
  simp only [Nat.testBit_zero] at h
  have ha := Nat.mod_two_eq_zero_or_one a
  have hb := Nat.mod_two_eq_zero_or_one b
  have hc := Nat.mod_two_eq_zero_or_one (a ^^^ b)
  rcases ha with ha | ha <;> rcases hb with hb | hb <;> rcases hc with hc | hc <;> simp [ha, hb, hc] at h ⊢

theorem xor_swap (a b c d : Nat) : (a ^^^ b) ^^^ (c ^^^ d) = (a ^^^ c) ^^^ (b ^^^ d) := by
  rw [Nat.xor_assoc, Nat.xor_assoc, ← Nat.xor_assoc b c d, Nat.xor_comm b c, Nat.xor_assoc c b d]

theorem rnd_xor (a b : Nat) : rnd (a ^^^ b) = rnd a ^^^ rnd b := by
  unfold rnd
  rw [xor_mod2, xor_div2]
  rcases Nat.mod_two_eq_zero_or_one a with ha | ha <;> rcases Nat.mod_two_eq_zero_or_one b with hb | hb <;> simp only [ha, hb]
  · rfl
  · simp [Nat.xor_assoc]
  · simp [Nat.xor_assoc]; rw [Nat.xor_comm poly]
  · simp
    rw [xor_swap, Nat.xor_self, Nat.xor_zero]

theorem rnd_zero : rnd 0 = 0 := rfl

theorem rnd_lt {r : Nat} (h : r < 4294967296) : rnd r < 4294967296 := by
  unfold rnd
  split
  · have : r / 2 < 2 ^ 32 := by omega
    exact Nat.xor_lt_two_pow this (by decide)
  · omega

theorem rnd_eq_zero {r : Nat} (h : r < 4294967296) (h0 : rnd r = 0) : r = 0 := by
  unfold rnd at h0
  split at h0
  · have h1 : r / 2 = poly := by
      have := congrArg (· ^^^ poly) h0
      simpa [Nat.xor_assoc] using this
    unfold poly at h1
    omega
  · omega

theorem rnds_xor : ∀ (k a b : Nat), rnds k (a ^^^ b) = rnds k a ^^^ rnds k b
  | 0, _, _ => rfl
  | k + 1, a, b => by rw [rnds, rnd_xor, rnds_xor k]; rfl

theorem rnds_zero : ∀ k, rnds k 0 = 0
  | 0 => rfl
  | k + 1 => by rw [rnds, rnd_zero, rnds_zero k]

theorem rnds_lt : ∀ (k : Nat) {r : Nat}, r < 4294967296 → rnds k r < 4294967296
  | 0, _, h => h
  | k + 1, _, h => rnds_lt k (rnd_lt h)

theorem rnds_eq_zero : ∀ (k : Nat) {r : Nat}, r < 4294967296 → rnds k r = 0 → r = 0
  | 0, _, _, h => h
  | k + 1, _, hr, h => rnd_eq_zero hr (rnds_eq_zero k (rnd_lt hr) h)

theorem rnds_add (j : Nat) : ∀ (k r : Nat), rnds (k + j) r = rnds j (rnds k r)
  | 0, r => by rw [Nat.zero_add]; rfl
  | k + 1, r => by rw [Nat.add_right_comm]; exact rnds_add j k (rnd r)

theorem byte_lt (c : UInt8) : c.toNat < 4294967296 := Nat.lt_trans c.toNat_lt (by decide)

theorem step_lt {r : Nat} (c : UInt8) (h : r < 4294967296) : step r c < 4294967296 := by
  unfold step
  exact rnds_lt 8 (Nat.xor_lt_two_pow (n := 32) h (byte_lt c))

theorem lead_lt : ∀ (l : List UInt8) {r : Nat}, r < 4294967296 → lead r l < 4294967296
  | [], _, h => h
  | c :: l, _, h => lead_lt l (step_lt c h)

theorem lead_append (r : Nat) (a b : List UInt8) : lead r (a ++ b) = lead (lead r a) b := by simp [lead]

theorem sumOf_lt (l : List UInt8) : sumOf l < 4294967296 := Nat.xor_lt_two_pow (n := 32) (lead_lt l (by decide)) (by decide)

theorem lead_sum (l : List UInt8) : lead ones l = sumOf l ^^^ ones := by
  unfold sumOf
  rw [Nat.xor_assoc, Nat.xor_self, Nat.xor_zero]

/-- A register that differs is led on by the difference, as by noughts. -/
theorem lead_xor : ∀ (l : List UInt8) (a b : Nat), lead (a ^^^ b) l = zeros l.length a ^^^ lead b l
  | [], _, _ => rfl
  | c :: l, a, b => by
    show lead (step (a ^^^ b) c) l = _
    have e : step (a ^^^ b) c = rnds 8 a ^^^ step b c := by
      unfold step
      rw [Nat.xor_assoc, rnds_xor]
    rw [e, lead_xor l]
    rfl

theorem zeros_zero : ∀ k, zeros k 0 = 0
  | 0 => rfl
  | k + 1 => by rw [zeros, rnds_zero, zeros_zero k]

theorem zeros_eq_zero : ∀ (k : Nat) {r : Nat}, r < 4294967296 → zeros k r = 0 → r = 0
  | 0, _, _, h => h
  | k + 1, _, hr, h => rnds_eq_zero 8 hr (zeros_eq_zero k (rnds_lt 8 hr) h)

theorem zeros_lt : ∀ (k : Nat) {r : Nat}, r < 4294967296 → zeros k r < 4294967296
  | 0, _, h => h
  | k + 1, _, h => zeros_lt k (rnds_lt 8 h)

theorem zeros_add : ∀ (j k r : Nat), zeros (j + k) r = zeros k (zeros j r)
  | 0, k, r => by rw [Nat.zero_add]; rfl
  | j + 1, k, r => by rw [Nat.add_right_comm]; exact zeros_add j k (rnds 8 r)

/-- The sums of two pieces, joined. -/
theorem sum_join (a b : List UInt8) : sumOf (a ++ b) = zeros b.length (sumOf a) ^^^ sumOf b := by
  conv => lhs; unfold sumOf
  rw [lead_append, lead_sum a, lead_xor b, Nat.xor_assoc]
  rfl

/-- Two registers, led on by the same bytes, stay apart. -/
theorem lead_inj (l : List UInt8) {a b : Nat} (ha : a < 4294967296) (hb : b < 4294967296) (h : lead a l = lead b l) : a = b := by
  have h1 : lead ((a ^^^ b) ^^^ b) l = zeros l.length (a ^^^ b) ^^^ lead b l := lead_xor l _ _
  rw [Nat.xor_assoc, Nat.xor_self, Nat.xor_zero, h] at h1
  have h2 : zeros l.length (a ^^^ b) = 0 := by
    have := congrArg (· ^^^ lead b l) h1
    simp only [Nat.xor_self, Nat.xor_assoc, Nat.xor_zero] at this
    exact this.symm
  have h3 := zeros_eq_zero _ (Nat.xor_lt_two_pow (n := 32) ha hb) h2
  have := congrArg (· ^^^ b) h3
  simpa [Nat.xor_assoc] using this

/-- Bytes as one number, the first one lowest. -/
def num : List UInt8 → Nat
  | [] => 0
  | c :: l => c.toNat + 256 * num l

theorem low_high (c M : Nat) (h : c < 256) : c + 256 * M = c ^^^ (256 * M) := by
  have := Nat.two_pow_add_eq_or_of_lt (i := 8) h M
  rw [Nat.add_comm, this]
  apply Nat.eq_of_testBit_eq
  intro i
  rw [Nat.testBit_or, Nat.testBit_xor, Nat.testBit_two_pow_mul]
  by_cases hi : 8 ≤ i
  · rw [Nat.testBit_lt_two_pow (Nat.lt_of_lt_of_le h (show 2 ^ 8 ≤ 2 ^ i from Nat.pow_le_pow_right (by omega) hi))]
    simp
  · simp [hi]

theorem low_high' (c M : Nat) (h : c < 16) : c + 16 * M = c ^^^ (2 ^ 4 * M) := by
  have := Nat.two_pow_add_eq_or_of_lt (i := 4) h M
  rw [show c + 16 * M = 2 ^ 4 * M + c from by omega, this]
  apply Nat.eq_of_testBit_eq
  intro i
  rw [Nat.testBit_or, Nat.testBit_xor, Nat.testBit_two_pow_mul]
  by_cases hi : 4 ≤ i
  · rw [Nat.testBit_lt_two_pow (Nat.lt_of_lt_of_le h (show 2 ^ 4 ≤ 2 ^ i from Nat.pow_le_pow_right (by omega) hi))]
    simp
  · simp [hi]

theorem rnds_shift : ∀ (k M : Nat), rnds k (2 ^ k * M) = M
  | 0, M => by simp [rnds]
  | k + 1, M => by
    have e : 2 ^ (k + 1) * M = 2 * (2 ^ k * M) := by rw [Nat.pow_succ]; rw [Nat.mul_comm (2 ^ k) 2, Nat.mul_assoc]
    rw [rnds, e]
    have h : rnd (2 * (2 ^ k * M)) = 2 ^ k * M := by
      unfold rnd
      rw [if_neg (by omega)]
      omega
    rw [h, rnds_shift k M]

/-- A register led on by bytes is the number of them, reduced bit by bit. -/
theorem lead_num : ∀ (l : List UInt8) (r : Nat), lead r l = rnds (8 * l.length) (r ^^^ num l)
  | [], r => by simp [lead, num, rnds]
  | c :: l, r => by
    show lead (step r c) l = _
    rw [lead_num l, List.length_cons, show 8 * (l.length + 1) = 8 + 8 * l.length from by omega, rnds_add]
    congr 1
    rw [num, low_high _ _ c.toNat_lt, ← Nat.xor_assoc, rnds_xor, show (256 : Nat) = 2 ^ 8 from rfl, rnds_shift]
    rfl

theorem num_lt : ∀ (l : List UInt8), num l < 256 ^ l.length
  | [] => by simp [num]
  | c :: l => by
    have h1 := num_lt l
    have h2 := c.toNat_lt
    rw [num, List.length_cons, Nat.pow_succ]
    omega

theorem num_inj : ∀ (a b : List UInt8), a.length = b.length → num a = num b → a = b
  | [], [], _, _ => rfl
  | [], _ :: _, h, _ => by simp at h
  | _ :: _, [], h, _ => by simp at h
  | c :: a, d :: b, h, e => by
    have h1 := c.toNat_lt
    have h2 := d.toNat_lt
    rw [num, num] at e
    have h3 : c = d := UInt8.toNat_inj.1 (by omega)
    have h4 := num_inj a b (by simpa using h) (by omega)
    rw [h3, h4]

/-- Four bytes are told by what they make of a register. -/
theorem four_inj {r : Nat} {f o : List UInt8} (hf : f.length = 4) (ho : o.length = 4) (h : lead r f = lead r o) : f = o := by
  rw [lead_num, lead_num, hf, ho, rnds_xor, rnds_xor] at h
  have h1 : rnds (8 * 4) (num f ^^^ num o) = 0 := by
    rw [rnds_xor]
    have := congrArg (rnds (8 * 4) r ^^^ ·) h
    simp only [← Nat.xor_assoc, Nat.xor_self, Nat.zero_xor] at this
    rw [this, Nat.xor_self]
  have h2 := num_lt f
  have h3 := num_lt o
  rw [hf] at h2
  rw [ho] at h3
  have h4 := rnds_eq_zero _ (Nat.xor_lt_two_pow (n := 32) (by omega) (by omega)) h1
  have h5 : num f = num o := by
    have := congrArg (· ^^^ num o) h4
    simpa [Nat.xor_assoc] using this
  exact num_inj f o (by omega) h5

theorem xor_two_mul (a b k : Nat) : 2 ^ k * (a ^^^ b) = 2 ^ k * a ^^^ 2 ^ k * b := by
  apply Nat.eq_of_testBit_eq
  intro i
  rw [Nat.testBit_xor, Nat.testBit_two_pow_mul, Nat.testBit_two_pow_mul, Nat.testBit_two_pow_mul, Nat.testBit_xor]
  by_cases h : k ≤ i <;> simp [h]

/-- One bit of bytes turned. -/
theorem num_flip : ∀ (l : List UInt8) (j m : Nat) (h : j < l.length) (d : UInt8), m < 8 → d.toNat = l[j].toNat ^^^ 2 ^ m → num (l.set j d) = num l ^^^ 2 ^ (8 * j + m)
  | c :: l, 0, m, _, d, hm, hd => by
    simp only [List.getElem_cons_zero] at hd
    have h8 : (2 : Nat) ^ m < 2 ^ 8 := Nat.pow_lt_pow_right (by omega) hm
    have hd8 := d.toNat_lt
    rw [List.set_cons_zero, num, num, low_high _ _ d.toNat_lt, low_high _ _ c.toNat_lt, hd, Nat.mul_zero, Nat.zero_add, Nat.xor_assoc, Nat.xor_assoc]
    congr 1
    rw [Nat.xor_comm]
  | c :: l, j + 1, m, h, d, hm, hd => by
    have ih := num_flip l j m (by simpa using h) d hm (by simpa using hd)
    rw [List.set_cons_succ, num, num, ih, low_high _ _ c.toNat_lt, low_high _ _ c.toNat_lt, show (256 : Nat) = 2 ^ 8 from rfl, xor_two_mul, Nat.xor_assoc]
    congr 2
    rw [← Nat.pow_add]
    congr 1
    omega

/-- The lowest bits of a number, one more. -/
theorem low_bits (b i : Nat) : b % 2 ^ (i + 1) = (b % 2 ^ i) ^^^ (if b.testBit i then 2 ^ i else 0) := by
  apply Nat.eq_of_testBit_eq
  intro j
  rw [Nat.testBit_xor, Nat.testBit_mod_two_pow, Nat.testBit_mod_two_pow]
  by_cases hb : b.testBit i
  · rw [if_pos hb, Nat.testBit_two_pow]
    by_cases h1 : j < i
    · simp [h1, show j < i + 1 from by omega, show i ≠ j from by omega]
    · by_cases h2 : j = i
      · subst h2; simp [hb]
      · simp [h1, show ¬ j < i + 1 from by omega, show i ≠ j from by omega]
  · rw [if_neg hb]
    by_cases h1 : j < i
    · simp [h1, show j < i + 1 from by omega]
    · by_cases h2 : j = i
      · subst h2; simp [hb]
      · simp [h1, show ¬ j < i + 1 from by omega]

/-- Bytes that differ in a burst have another sum. -/
theorem burst {a b : List UInt8} {at' bits : Nat} (hl : a.length = b.length) (h : num b = num a ^^^ (2 ^ at' * bits)) (hb : bits < 4294967296) (h0 : bits ≠ 0) (hat : at' ≤ 8 * a.length) : sumOf a ≠ sumOf b := by
  intro he
  have h1 : lead ones a = lead ones b := by
    rw [lead_sum, lead_sum, he]
  rw [lead_num, lead_num, ← hl, h, ← Nat.xor_assoc, rnds_xor _ (ones ^^^ num a)] at h1
  have h2 : rnds (8 * a.length) (2 ^ at' * bits) = 0 := by
    have := congrArg (rnds (8 * a.length) (ones ^^^ num a) ^^^ ·) h1
    simp only [← Nat.xor_assoc, Nat.xor_self, Nat.zero_xor] at this
    exact this.symm
  rw [show 8 * a.length = at' + (8 * a.length - at') from by omega, rnds_add, rnds_shift] at h2
  exact h0 (rnds_eq_zero _ hb h2)
end Go.Proofs.YtdngfbljcmbniaaDoor.C

/- Part: ChPure. -/
namespace Go.Proofs.YtdngfbljcmbniaaDoor.M

/-- A piece. -/
structure Pc where
  idx : Int
  term : Int
  sum : Int
  tot : Int
  pos : Int
  b : List UInt8

def okMark (i t : Int) : Bool := decide (1 ≤ i ∧ i < 10000000000 ∧ 1 ≤ t ∧ t < 10000000000)

/-- Is it right? -/
def okPc (most : Int) (p : Pc) : Bool := okMark p.idx p.term && decide (0 ≤ p.tot ∧ p.tot ≤ most ∧ (p.b.length = 0 ↔ p.tot = 0) ∧ 0 ≤ p.pos ∧ p.pos + p.b.length ≤ p.tot)

/-- Do two go together? -/
def alike (p q : Pc) : Bool := decide (p.idx = q.idx ∧ p.term = q.term ∧ p.sum = q.sum ∧ p.tot = q.tot)

/-- Bytes laid over what is there. -/
def ov (f : Nat → Option UInt8) (pos : Nat) (b : List UInt8) (k : Nat) : Option UInt8 := if pos ≤ k ∧ k < pos + b.length then b[k - pos]? else f k

/-- The byte at a place: the first piece's that has one. -/
def byteL : List Pc → Nat → Option UInt8
  | [], _ => none
  | p :: L, k => if p.pos.toNat ≤ k ∧ k < p.pos.toNat + p.b.length then p.b[k - p.pos.toNat]? else byteL L k

/-- The first place, of n, where there is none. -/
def fnone (f : Nat → Option UInt8) : Nat → Nat → Nat
  | 0, k => k
  | n + 1, k => if (f k).isSome then fnone f n (k + 1) else k

theorem fnone_spec (f : Nat → Option UInt8) : ∀ (n k : Nat), k ≤ fnone f n k ∧ fnone f n k ≤ k + n ∧ (∀ i, k ≤ i → i < fnone f n k → (f i).isSome = true) ∧ (fnone f n k < k + n → (f (fnone f n k)).isSome = false)
  | 0, k => ⟨Nat.le_refl _, Nat.le_refl _, fun i h1 h2 => by simp only [fnone] at h2; omega, fun h => by simp only [fnone] at h; omega⟩
  | n + 1, k => by
    simp only [fnone]
    split
    · rename_i h
      obtain ⟨h1, h2, h3, h4⟩ := fnone_spec f n (k + 1)
      refine ⟨by omega, by omega, fun i hi hj => ?_, fun hx => h4 (by omega)⟩
      by_cases e : i = k
      · rw [e]; exact h
      · exact h3 i (by omega) hj
    · rename_i h
      exact ⟨Nat.le_refl _, by omega, fun i h1 h2 => by omega, fun _ => by simpa using h⟩

/-- It is the only such place. -/
theorem fnone_is {f : Nat → Option UInt8} {n r : Nat} (h1 : r ≤ n) (h2 : ∀ i, i < r → (f i).isSome = true) (h3 : r < n → (f r).isSome = false) : fnone f n 0 = r := by
  obtain ⟨a, b, c, d⟩ := fnone_spec f n 0
  rcases Nat.lt_trichotomy (fnone f n 0) r with h | h | h
  · have := d (by omega); rw [h2 _ h] at this; cases this
  · exact h
  · have := h3 (by omega); rw [c r (by omega) h] at this; cases this

def totN : List Pc → Nat
  | [] => 0
  | p :: _ => p.tot.toNat

def missing (L : List Pc) : Nat := fnone (byteL L) (totN L) 0

def bytesOf (f : Nat → Option UInt8) (n : Nat) : List UInt8 := (List.range n).map fun i => (f i).getD 0

def wholeB (L : List Pc) : Bool := !L.isEmpty && decide (missing L = totN L)

/-- Is a byte of the piece there, and another one? -/
def clashAt (f : Nat → Option UInt8) (pos : Nat) (b : List UInt8) : Bool := (List.range b.length).any fun i => (f (pos + i)).isSome && (f (pos + i) != b[i]?)

/-- What a heap does with a piece: the error, and what it has then. -/
def takeE (most : Int) (L : List Pc) (p : Pc) : Int × List Pc :=
  if okPc most p = false then (2, L) else
    let stale : Bool := match L with
      | [] => false
      | f :: _ => decide (p.idx ≤ f.idx) && !alike p f
    if stale = true then (70, L) else
      let L0 := match L with
        | [] => []
        | f :: _ => if p.idx > f.idx then [] else L
      if clashAt (byteL L0) p.pos.toNat p.b = true then (71, L0) else
        let L1 := L0 ++ [p]
        if wholeB L1 && !decide ((C.sumOf (bytesOf (byteL L1) (totN L1)) : Int) = p.sum) then (51, []) else (0, L1)

theorem byteL_append (L M : List Pc) (k : Nat) : byteL (L ++ M) k = match byteL L k with
    | some c => some c
    | none => byteL M k := by
  induction L with
  | nil => rfl
  | cons p L ih =>
    simp only [List.cons_append, byteL]
    split
    · rename_i h
      rw [List.getElem?_eq_getElem (by omega)]
    · exact ih

theorem byteL_one (p : Pc) (k : Nat) : byteL [p] k = ov (fun _ => none) p.pos.toNat p.b k := rfl

theorem clashAt_iff {f : Nat → Option UInt8} {pos : Nat} {b : List UInt8} : clashAt f pos b = true ↔ ∃ i, i < b.length ∧ (f (pos + i)).isSome = true ∧ f (pos + i) ≠ b[i]? := by
  unfold clashAt
  rw [List.any_eq_true]
  constructor
  · rintro ⟨i, hi, h⟩
    simp only [List.mem_range] at hi
    rw [Bool.and_eq_true] at h
    exact ⟨i, hi, h.1, by simpa using h.2⟩
  · rintro ⟨i, hi, h1, h2⟩
    exact ⟨i, List.mem_range.2 hi, by rw [Bool.and_eq_true]; exact ⟨h1, by simpa using h2⟩⟩

/-- Where nothing clashes, laying is the same as coming behind. -/
theorem ov_byteL {L : List Pc} {p : Pc} (h : clashAt (byteL L) p.pos.toNat p.b = false) : byteL (L ++ [p]) = ov (byteL L) p.pos.toNat p.b := by
  funext k
  rw [byteL_append]
  unfold ov
  cases hk : byteL L k with
  | none => rfl
  | some c =>
    by_cases hc : p.pos.toNat ≤ k ∧ k < p.pos.toNat + p.b.length
    · rw [if_pos hc]
      by_cases he : p.b[k - p.pos.toNat]? = some c
      · exact he.symm
      · exfalso
        have : clashAt (byteL L) p.pos.toNat p.b = true := clashAt_iff.2 ⟨k - p.pos.toNat, by omega, by rw [show p.pos.toNat + (k - p.pos.toNat) = k by omega, hk]; rfl, by rw [show p.pos.toNat + (k - p.pos.toNat) = k by omega, hk]; exact fun e => he e.symm⟩
        rw [h] at this; cases this
    · rw [if_neg hc]

theorem ov_nil (f : Nat → Option UInt8) (pos : Nat) : ov f pos [] = f := by
  funext k; unfold ov; rw [if_neg (by rintro ⟨a, b⟩; simp at b; omega)]

/-- .. bit by bit. -/
theorem ov_take {f : Nat → Option UInt8} {pos : Nat} {b : List UInt8} {d e : Nat} (h : d ≤ e) (he : e ≤ b.length) : ov (ov f pos (b.take d)) (pos + d) ((b.take e).drop d) = ov f pos (b.take e) := by
  funext k
  unfold ov
  simp only [List.length_drop, List.length_take]
  by_cases h1 : pos + d ≤ k ∧ k < pos + d + (min e b.length - d)
  · rw [if_pos h1, if_pos (by omega), List.getElem?_drop]
    congr 1
    omega
  · rw [if_neg h1]
    by_cases h2 : pos ≤ k ∧ k < pos + min d b.length
    · rw [if_pos h2, if_pos (by omega), List.getElem?_take_of_lt (by omega), List.getElem?_take_of_lt (by omega)]
    · rw [if_neg h2, if_neg (by omega)]

/-- The k-th place where bytes are cut, that begin at a place and are n: at the blocks' ends. -/
def dn (pos n k : Nat) : Nat := min (64 * (pos / 64 + k) - pos) n

/-- How many parts. -/
def dns (pos n : Nat) : Nat := if n = 0 then 0 else (pos + n + 63) / 64 - pos / 64

theorem dn_zero (pos n : Nat) : dn pos n 0 = 0 := by unfold dn; omega

theorem dn_end (pos n : Nat) : dn pos n (dns pos n) = n := by unfold dn dns; split <;> omega

theorem dn_lt {pos n k : Nat} (h : k < dns pos n) : dn pos n k < n := by
  unfold dn; unfold dns at h
  split at h <;> omega

theorem dn_at {pos n k : Nat} (h : k < dns pos n) : (pos + dn pos n k) / 64 = pos / 64 + k := by
  unfold dn; unfold dns at h
  split at h <;> omega

theorem dn_succ {pos n k : Nat} (h : k < dns pos n) : dn pos n (k + 1) = min (dn pos n k + 64 - (pos + dn pos n k) % 64) n := by
  unfold dn; unfold dns at h
  split at h <;> omega

theorem dn_part {pos n k : Nat} (h : k < dns pos n) : dn pos n k < dn pos n (k + 1) ∧ (pos + dn pos n k) % 64 + (dn pos n (k + 1) - dn pos n k) ≤ 64 := by
  unfold dn; unfold dns at h
  split at h <;> omega

theorem dn_not {pos n k : Nat} (h : ¬ k < dns pos n) : n ≤ dn pos n k := by
  unfold dn; unfold dns at h
  split at h <;> omega

/-- The pieces that bytes are cut into. -/
def cutN (n size : Nat) : Nat := if n = 0 then 1 else (n + size - 1) / size

def cutPc (i t : Int) (b : List UInt8) (size k : Nat) : Pc := ⟨i, t, (C.sumOf b : Int), (b.length : Int), ((k * size : Nat) : Int), (b.drop (k * size)).take size⟩

def cutPcs (i t : Int) (b : List UInt8) (size : Nat) : List Pc := (List.range (cutN b.length size)).map (cutPc i t b size)

theorem cutN_pos {n size : Nat} (h : 0 < size) : 0 < cutN n size := by
  unfold cutN
  split
  · omega
  · exact Nat.div_pos (by omega) h

theorem cutN_lt {n size k : Nat} (h : 0 < size) (hn : n ≠ 0) : k < cutN n size ↔ k * size < n := by
  unfold cutN
  rw [if_neg hn, Nat.lt_iff_add_one_le, Nat.le_div_iff_mul_le h, Nat.add_mul]
  omega

theorem cutN_le {n size : Nat} (h : 0 < size) : cutN n size ≤ n + 1 := by
  unfold cutN
  split
  · omega
  · rename_i hn
    rw [Nat.div_le_iff_le_mul_add_pred h]
    have : n ≤ size * n := Nat.le_mul_of_pos_left n h
    rw [Nat.mul_add]
    omega

theorem cutPcs_length (i t : Int) (b : List UInt8) (size : Nat) : (cutPcs i t b size).length = cutN b.length size := by simp [cutPcs]

theorem cutPcs_get (i t : Int) (b : List UInt8) (size k : Nat) (h : k < (cutPcs i t b size).length) : (cutPcs i t b size)[k] = cutPc i t b size k := by simp [cutPcs]
end Go.Proofs.YtdngfbljcmbniaaDoor.M

/- Part: ChBits. -/
namespace Go.Proofs.YtdngfbljcmbniaaDoor.M

/-- What a block's bits and bytes say of bytes that are there. -/
def AgreeB (f : Nat → Option UInt8) (q T : Nat) (bs : List UInt8) : Prop :=
  T < 18446744073709551616 ∧ bs.length = 64 ∧ ∀ i, i < 64 → T.testBit i = (f (64 * q + i)).isSome ∧ ∀ c, f (64 * q + i) = some c → bs[i]? = some c

def maskN (frm n : Nat) : Nat := (2 ^ n - 1) * 2 ^ frm

theorem mask_bit (frm n j : Nat) : (maskN frm n).testBit j = decide (frm ≤ j ∧ j < frm + n) := by
  unfold maskN
  rw [Nat.mul_comm, Nat.testBit_two_pow_mul, Nat.testBit_two_pow_sub_one]
  by_cases h : frm ≤ j
  · simp [h]; omega
  · simp [h]

theorem mask_lt {frm n : Nat} (h : frm + n ≤ 64) : maskN frm n < 18446744073709551616 := by
  unfold maskN
  have h1 : (2 : Nat) ^ n * 2 ^ frm ≤ 2 ^ 64 := by rw [← Nat.pow_add]; exact Nat.pow_le_pow_right (by omega) (by omega)
  have h2 : 0 < (2 : Nat) ^ frm := Nat.pow_pos (by omega)
  have h3 : 0 < (2 : Nat) ^ n := Nat.pow_pos (by omega)
  rw [Nat.sub_mul]
  omega

theorem or_lt {a b : Nat} (ha : a < 18446744073709551616) (hb : b < 18446744073709551616) : a ||| b < 18446744073709551616 := Nat.or_lt_two_pow (n := 64) ha hb

/-- Bytes over a block's. -/
def spliceB (bs : List UInt8) (frm : Nat) (b : List UInt8) : List UInt8 := bs.take frm ++ b ++ bs.drop (frm + b.length)

theorem spliceB_length {bs b : List UInt8} {frm : Nat} (h : frm + b.length ≤ bs.length) : (spliceB bs frm b).length = bs.length := by
  unfold spliceB; simp; omega

theorem spliceB_get {bs b : List UInt8} {frm i : Nat} (h : frm + b.length ≤ bs.length) : (spliceB bs frm b)[i]? = if frm ≤ i ∧ i < frm + b.length then b[i - frm]? else bs[i]? := by
  unfold spliceB
  by_cases h1 : i < frm
  · rw [if_neg (by omega), List.append_assoc, List.getElem?_append_left (by simp; omega), List.getElem?_take_of_lt h1]
  · by_cases h2 : i < frm + b.length
    · rw [if_pos (by omega), List.append_assoc, List.getElem?_append_right (by simp; omega), List.getElem?_append_left (by simp; omega)]
      congr 1
      simp; omega
    · rw [if_neg (by omega), List.getElem?_append_right (by simp; omega), List.getElem?_drop]
      congr 1
      simp; omega

theorem AgreeB.laid {f : Nat → Option UInt8} {q T frm : Nat} {bs b : List UInt8} (h : AgreeB f q T bs) (hl : frm + b.length ≤ 64) : AgreeB (ov f (64 * q + frm) b) q (T ||| maskN frm b.length) (spliceB bs frm b) := by
  obtain ⟨h1, h2, h3⟩ := h
  refine ⟨or_lt h1 (mask_lt hl), by rw [spliceB_length (by omega), h2], fun i hi => ?_⟩
  obtain ⟨h4, h5⟩ := h3 i hi
  rw [Nat.testBit_or, mask_bit, spliceB_get (by omega), h4]
  unfold ov
  by_cases hc : frm ≤ i ∧ i < frm + b.length
  · rw [if_pos (by omega), if_pos hc, List.getElem?_eq_getElem (by omega)]
    refine ⟨by simp [hc], fun c hcc => ?_⟩
    rw [← hcc, List.getElem?_eq_getElem (by omega)]
    congr 2
    omega
  · rw [if_neg (by omega), if_neg hc]
    refine ⟨?_, h5⟩
    rw [decide_eq_false hc, Bool.or_false]

theorem AgreeB.other {f : Nat → Option UInt8} {q r T frm : Nat} {bs b : List UInt8} (h : AgreeB f r T bs) (hl : frm + b.length ≤ 64) (hq : r ≠ q) : AgreeB (ov f (64 * q + frm) b) r T bs := by
  obtain ⟨h1, h2, h3⟩ := h
  refine ⟨h1, h2, fun i hi => ?_⟩
  unfold ov
  rw [if_neg (by omega)]
  exact h3 i hi

theorem AgreeB.empty {f : Nat → Option UInt8} {q : Nat} (h : ∀ i, i < 64 → f (64 * q + i) = none) : AgreeB f q 0 (List.replicate 64 0) :=
  ⟨by omega, by simp, fun i hi => ⟨by rw [h i hi]; simp, fun c hc => by rw [h i hi] at hc; cases hc⟩⟩

/-- Does a block hold another byte? -/
def blkClash (T : Nat) (bs : List UInt8) (frm : Nat) (b : List UInt8) : Bool := (List.range b.length).any fun i => T.testBit (frm + i) && (bs[frm + i]? != b[i]?)

theorem AgreeB.clash {f : Nat → Option UInt8} {q T frm : Nat} {bs b : List UInt8} (h : AgreeB f q T bs) (hl : frm + b.length ≤ 64) : blkClash T bs frm b = clashAt f (64 * q + frm) b := by
  obtain ⟨h1, h2, h3⟩ := h
  unfold blkClash clashAt
  rw [Bool.eq_iff_iff, List.any_eq_true, List.any_eq_true]
  have key : ∀ i, i ∈ List.range b.length → ((T.testBit (frm + i) && (bs[frm + i]? != b[i]?)) = ((f (64 * q + frm + i)).isSome && (f (64 * q + frm + i) != b[i]?))) := fun i hi => by
    simp only [List.mem_range] at hi
    obtain ⟨h4, h5⟩ := h3 (frm + i) (by omega)
    rw [h4, show 64 * q + frm + i = 64 * q + (frm + i) by omega]
    cases hf : f (64 * q + (frm + i)) with
    | none => rfl
    | some c => rw [h5 c hf]
  exact ⟨fun ⟨i, hi, h⟩ => ⟨i, hi, by rw [← key i hi]; exact h⟩, fun ⟨i, hi, h⟩ => ⟨i, hi, by rw [key i hi]; exact h⟩⟩

theorem blkClash_iff {T : Nat} {bs : List UInt8} {frm : Nat} {b : List UInt8} : blkClash T bs frm b = true ↔ ∃ i, i < b.length ∧ T.testBit (frm + i) = true ∧ bs[frm + i]? ≠ b[i]? := by
  unfold blkClash
  rw [List.any_eq_true]
  constructor
  · rintro ⟨i, hi, h⟩
    simp only [List.mem_range] at hi
    rw [Bool.and_eq_true] at h
    exact ⟨i, hi, h.1, by simpa using h.2⟩
  · rintro ⟨i, hi, h1, h2⟩
    exact ⟨i, List.mem_range.2 hi, by rw [Bool.and_eq_true]; exact ⟨h1, by simpa using h2⟩⟩

/-- The k-th part. -/
def partOf (pos : Nat) (b : List UInt8) (k : Nat) : List UInt8 := (b.take (dn pos b.length (k + 1))).drop (dn pos b.length k)

theorem dn_le (pos n k : Nat) : dn pos n k ≤ n := Nat.min_le_right _ _

theorem partOf_length (pos : Nat) (b : List UInt8) (k : Nat) : (partOf pos b k).length = dn pos b.length (k + 1) - dn pos b.length k := by
  unfold partOf
  have := dn_le pos b.length (k + 1)
  simp; omega

theorem partOf_get (pos : Nat) (b : List UInt8) (k i : Nat) (h : i < (partOf pos b k).length) : (partOf pos b k)[i]? = b[dn pos b.length k + i]? := by
  rw [partOf_length] at h
  unfold partOf
  rw [List.getElem?_drop, List.getElem?_take_of_lt (by omega)]

/-- .. laid on. -/
theorem ov_part (f : Nat → Option UInt8) (pos : Nat) (b : List UInt8) {k : Nat} (h : k < dns pos b.length) : ov (ov f pos (b.take (dn pos b.length k))) (pos + dn pos b.length k) (partOf pos b k) = ov f pos (b.take (dn pos b.length (k + 1))) :=
  ov_take (Nat.le_of_lt (dn_part h).1) (dn_le _ _ _)

theorem ov_all (f : Nat → Option UInt8) (pos : Nat) (b : List UInt8) : ov f pos (b.take (dn pos b.length (dns pos b.length))) = ov f pos b := by
  rw [dn_end, List.take_length]

/-- Which part a byte is in. -/
theorem part_of_byte {pos n i : Nat} (h : i < n) : ∃ k, k < dns pos n ∧ dn pos n k ≤ i ∧ i < dn pos n (k + 1) := by
  refine ⟨(pos + i) / 64 - pos / 64, ?_, ?_, ?_⟩
  · unfold dns; rw [if_neg (by omega)]; omega
  · unfold dn; omega
  · unfold dn; omega

theorem clash_parts {f : Nat → Option UInt8} {pos : Nat} {b : List UInt8} : clashAt f pos b = true ↔ ∃ k, k < dns pos b.length ∧ clashAt f (pos + dn pos b.length k) (partOf pos b k) = true := by
  rw [clashAt_iff]
  constructor
  · rintro ⟨i, hi, h1, h2⟩
    obtain ⟨k, hk, h3, h4⟩ := part_of_byte (pos := pos) hi
    have hl : i - dn pos b.length k < (partOf pos b k).length := by rw [partOf_length]; omega
    refine ⟨k, hk, clashAt_iff.2 ⟨i - dn pos b.length k, hl, ?_, ?_⟩⟩
    · rw [show pos + dn pos b.length k + (i - dn pos b.length k) = pos + i by omega]; exact h1
    · rw [show pos + dn pos b.length k + (i - dn pos b.length k) = pos + i by omega, partOf_get _ _ _ _ hl, show dn pos b.length k + (i - dn pos b.length k) = i by omega]; exact h2
  · rintro ⟨k, hk, h⟩
    obtain ⟨i, hi, h1, h2⟩ := clashAt_iff.1 h
    rw [partOf_get _ _ _ _ hi] at h2
    have hi2 := hi
    rw [partOf_length] at hi2
    have := dn_le pos b.length (k + 1)
    refine ⟨dn pos b.length k + i, by omega, ?_, ?_⟩
    · rw [← Nat.add_assoc]; exact h1
    · rw [← Nat.add_assoc]; exact h2

/-- How many bits from the lowest one on are nought. -/
theorem ctz_spec {Y : Nat} (h : Y < 18446744073709551616) : Lib.ctz 64 Y ≤ 64 ∧ (∀ j, j < Lib.ctz 64 Y → Y.testBit j = false) ∧ (Lib.ctz 64 Y < 64 → Y.testBit (Lib.ctz 64 Y) = true) := by
  unfold Lib.ctz
  split
  · rename_i h0
    subst h0
    exact ⟨Nat.le_refl _, fun j _ => Nat.zero_testBit j, fun h => absurd h (by omega)⟩
  · rename_i h0
    obtain ⟨m, h1, h2⟩ := Lib.ctzFrom_spec 64 Y (by omega) h
    generalize Lib.ctzFrom 64 Y = c at *
    refine ⟨by omega, fun j hj => ?_, fun _ => ?_⟩
    · rw [h1, Nat.testBit_two_pow_mul]; simp; omega
    · rw [h1, Nat.testBit_two_pow_mul]; simp [Nat.testBit_zero]

/-- How many bits from a place on are set. -/
theorem ones_spec {T s : Nat} (h : T < 18446744073709551616) (hs : s < 64) : let n := Lib.ctz 64 (18446744073709551615 - T / 2 ^ s)
    n ≤ 64 - s + 0 * n ∧ (∀ j, j < n → T.testBit (s + j) = true) ∧ (n < 64 - s → T.testBit (s + n) = false) := by
  intro n
  have hX : T / 2 ^ s < 2 ^ 64 := Nat.lt_of_le_of_lt (Nat.div_le_self _ _) h
  have hY : ∀ j, (18446744073709551615 - T / 2 ^ s).testBit j = (decide (j < 64) && !T.testBit (s + j)) := fun j => by
    have := Nat.testBit_two_pow_sub_succ hX j
    rw [show 2 ^ 64 - (T / 2 ^ s + 1) = 18446744073709551615 - T / 2 ^ s by omega, Nat.testBit_div_two_pow] at this
    rw [this, Nat.add_comm]
  obtain ⟨h1, h2, h3⟩ := ctz_spec (Y := 18446744073709551615 - T / 2 ^ s) (Nat.lt_of_le_of_lt (Nat.sub_le _ _) (by decide))
  have hT : ∀ j, 64 ≤ j → T.testBit j = false := fun j hj => Nat.testBit_lt_two_pow (Nat.lt_of_lt_of_le h (show 18446744073709551616 ≤ 2 ^ j from Nat.le_trans (show 18446744073709551616 ≤ 2 ^ 64 by decide) (Nat.pow_le_pow_right (by omega) hj)))
  have ha : ∀ j, j < n → T.testBit (s + j) = true := fun j hj => by
    have := h2 j hj
    rw [hY, decide_eq_true (by show j < 64; have : n ≤ 64 := h1; omega)] at this
    simpa using this
  refine ⟨?_, ha, fun hn => ?_⟩
  · rcases Nat.lt_or_ge (64 - s) n with hg | hg
    · have := ha (64 - s) hg
      rw [hT _ (by omega)] at this
      cases this
    · omega
  · have h4 : (18446744073709551615 - T / 2 ^ s).testBit n = true := h3 (by show n < 64; omega)
    rw [hY] at h4
    rw [Bool.and_eq_true] at h4
    simpa using h4.2
end Go.Proofs.YtdngfbljcmbniaaDoor.M

/- Part: ChHeap. -/
namespace Go.Proofs.YtdngfbljcmbniaaDoor.M

theorem okPc_iff {most : Int} {p : Pc} : okPc most p = true ↔ (1 ≤ p.idx ∧ p.idx < 10000000000 ∧ 1 ≤ p.term ∧ p.term < 10000000000) ∧ 0 ≤ p.tot ∧ p.tot ≤ most ∧ (p.b.length = 0 ↔ p.tot = 0) ∧ 0 ≤ p.pos ∧ p.pos + p.b.length ≤ p.tot := by
  unfold okPc okMark
  rw [Bool.and_eq_true, decide_eq_true_eq, decide_eq_true_eq]

theorem alike_iff {p q : Pc} : alike p q = true ↔ p.idx = q.idx ∧ p.term = q.term ∧ p.sum = q.sum ∧ p.tot = q.tot := by
  unfold alike
  rw [decide_eq_true_eq]

/-- What a heap keeps to. -/
structure HInv (most : Int) (L : List Pc) : Prop where
  ok : ∀ p ∈ L, okPc most p = true
  like : ∀ p ∈ L, ∀ q ∈ L, alike p q = true
  sum : wholeB L = true → ∀ p ∈ L, (C.sumOf (bytesOf (byteL L) (totN L)) : Int) = p.sum

/-- .. but for the sum. -/
structure HPre (most : Int) (L : List Pc) : Prop where
  ok : ∀ p ∈ L, okPc most p = true
  like : ∀ p ∈ L, ∀ q ∈ L, alike p q = true

theorem HInv.pre {most : Int} {L : List Pc} (h : HInv most L) : HPre most L := ⟨h.ok, h.like⟩

theorem HInv.nil (most : Int) : HInv most [] := ⟨fun _ h => (by cases h), fun _ h => (by cases h), fun _ _ h => (by cases h)⟩

/-- A piece laid on pieces that it goes together with: the end of a take. -/
def layE (L : List Pc) (p : Pc) : Int × List Pc :=
  if wholeB (L ++ [p]) && !decide ((C.sumOf (bytesOf (byteL (L ++ [p])) (totN (L ++ [p]))) : Int) = p.sum) then (51, []) else (0, L ++ [p])

theorem take_wrong {most : Int} {L : List Pc} {p : Pc} (h : okPc most p = false) : takeE most L p = (2, L) := by
  unfold takeE; rw [if_pos h]

theorem take_first {most : Int} {p : Pc} (h : okPc most p = true) : takeE most [] p = layE [] p := by
  unfold takeE layE
  rw [if_neg (by rw [h]; decide)]
  simp only [Bool.false_eq_true, if_false]
  rw [if_neg (by rw [Bool.not_eq_true]; unfold clashAt; rw [List.any_eq_false]; intro i _; simp [byteL])]

theorem take_newer {most : Int} {L : List Pc} {f p : Pc} (h : okPc most p = true) (hi : p.idx > f.idx) : takeE most (f :: L) p = layE [] p := by
  unfold takeE layE
  rw [if_neg (by rw [h]; decide)]
  have h1 : decide (p.idx ≤ f.idx) = false := decide_eq_false (by omega)
  simp only [h1, Bool.false_and, Bool.false_eq_true, if_false, if_pos hi]
  rw [if_neg (by rw [Bool.not_eq_true]; unfold clashAt; rw [List.any_eq_false]; intro i _; simp [byteL])]

theorem take_stale {most : Int} {L : List Pc} {f p : Pc} (h : okPc most p = true) (hi : p.idx ≤ f.idx) (ha : alike p f = false) : takeE most (f :: L) p = (70, f :: L) := by
  unfold takeE
  rw [if_neg (by rw [h]; decide)]
  simp only [decide_eq_true hi, ha, Bool.not_false, Bool.and_self, if_true]

theorem take_clash {most : Int} {L : List Pc} {f p : Pc} (h : okPc most p = true) (ha : alike p f = true) (hc : clashAt (byteL (f :: L)) p.pos.toNat p.b = true) : takeE most (f :: L) p = (71, f :: L) := by
  have hi := (alike_iff.1 ha).1
  unfold takeE
  rw [if_neg (by rw [h]; decide)]
  have h2 : ¬ p.idx > f.idx := by omega
  simp only [ha, Bool.not_true, Bool.and_false, Bool.false_eq_true, if_false, h2]
  rw [if_pos hc]

theorem take_lay {most : Int} {L : List Pc} {f p : Pc} (h : okPc most p = true) (ha : alike p f = true) (hc : clashAt (byteL (f :: L)) p.pos.toNat p.b = false) : takeE most (f :: L) p = layE (f :: L) p := by
  have hi := (alike_iff.1 ha).1
  unfold takeE layE
  rw [if_neg (by rw [h]; decide)]
  have h2 : ¬ p.idx > f.idx := by omega
  simp only [ha, Bool.not_true, Bool.and_false, Bool.false_eq_true, if_false, h2]
  rw [if_neg (by rw [hc]; decide)]

/-- The places where there are bytes lie below the total. -/
theorem HPre.below {most : Int} {L : List Pc} (h : HPre most L) {k : Nat} (hk : (byteL L k).isSome = true) : k < totN L := by
  have key : ∀ M : List Pc, (∀ p ∈ M, p.pos.toNat + p.b.length ≤ totN L) → (byteL M k).isSome = true → k < totN L := by
    intro M
    induction M with
    | nil => intro _ h; cases h
    | cons q M ih =>
      intro hM hs
      simp only [byteL] at hs
      split at hs
      · have := hM q (by simp); omega
      · exact ih (fun p hp => hM p (by simp [hp])) hs
  refine key L (fun p hp => ?_) hk
  cases L with
  | nil => cases hp
  | cons f L =>
    have h1 := (alike_iff.1 (h.like p hp f (by simp))).2.2.2
    have h2 := okPc_iff.1 (h.ok p hp)
    show p.pos.toNat + p.b.length ≤ f.tot.toNat
    omega

theorem missing_spec (L : List Pc) : missing L ≤ totN L ∧ (∀ i, i < missing L → (byteL L i).isSome = true) ∧ (missing L < totN L → (byteL L (missing L)).isSome = false) := by
  obtain ⟨h1, h2, h3, h4⟩ := fnone_spec (byteL L) (totN L) 0
  exact ⟨by unfold missing; omega, fun i hi => h3 i (Nat.zero_le _) hi, fun h => h4 (by unfold missing at h; omega)⟩

/-- The first place where there is none, wherever the total. -/
theorem HPre.first {most : Int} {L : List Pc} (h : HPre most L) : (byteL L (missing L)).isSome = false := by
  obtain ⟨h1, h2, h3⟩ := missing_spec L
  rcases Nat.lt_or_ge (missing L) (totN L) with hl | hl
  · exact h3 hl
  · rw [Bool.eq_false_iff]
    intro hs
    have := h.below hs
    omega

theorem HPre.missing_is {most : Int} {L : List Pc} (h : HPre most L) {r : Nat} (h1 : ∀ i, i < r → (byteL L i).isSome = true) (h2 : (byteL L r).isSome = false) : missing L = r := by
  rcases Nat.lt_trichotomy (missing L) r with hl | hl | hl
  · have := h1 _ hl; rw [h.first] at this; cases this
  · exact hl
  · have := (missing_spec L).2.1 r hl; rw [h2] at this; cases this

/-- Behind a whole heap nothing turns. -/
theorem whole_same {most : Int} {f p : Pc} {L : List Pc} (h : HInv most (f :: L)) (hw : wholeB (f :: L) = true) (hp : okPc most p = true) (ha : alike p f = true) :
    wholeB (f :: L ++ [p]) = true ∧ bytesOf (byteL (f :: L ++ [p])) (totN (f :: L ++ [p])) = bytesOf (byteL (f :: L)) (totN (f :: L)) := by
  obtain ⟨h1, h2, h3⟩ := missing_spec (f :: L)
  have hm : missing (f :: L) = totN (f :: L) := by
    unfold wholeB at hw
    simpa using hw
  have hb : ∀ i, i < totN (f :: L) → byteL (f :: L ++ [p]) i = byteL (f :: L) i := fun i hi => by
    rw [byteL_append]
    have := h2 i (by omega)
    cases hx : byteL (f :: L) i with
    | none => rw [hx] at this; cases this
    | some c => rfl
  have ht : totN (f :: L ++ [p]) = totN (f :: L) := rfl
  refine ⟨?_, ?_⟩
  · unfold wholeB
    have : missing (f :: L ++ [p]) = totN (f :: L ++ [p]) := by
      unfold missing
      rw [ht]
      refine fnone_is (Nat.le_refl _) (fun i hi => ?_) (fun h => absurd h (Nat.lt_irrefl _))
      rw [hb i hi]
      exact h2 i (by omega)
    rw [this]
    simp
  · unfold bytesOf
    rw [ht]
    exact List.map_congr_left fun i hi => by rw [hb i (by simpa using hi)]

theorem layE_whole {most : Int} {f p : Pc} {L : List Pc} (h : HInv most (f :: L)) (hw : wholeB (f :: L) = true) (hp : okPc most p = true) (ha : alike p f = true) : layE (f :: L) p = (0, f :: L ++ [p]) := by
  obtain ⟨h1, h2⟩ := whole_same h hw hp ha
  unfold layE
  rw [h1, h2, h.sum hw f (by simp), (alike_iff.1 ha).2.2.1]
  simp

theorem HPre.snoc {most : Int} {L : List Pc} {p : Pc} (h : HPre most L) (hp : okPc most p = true) (ha : ∀ q ∈ L, alike p q = true) : HPre most (L ++ [p]) := by
  refine ⟨fun q hq => ?_, fun q hq r hr => ?_⟩
  · rcases List.mem_append.1 hq with hq | hq
    · exact h.ok q hq
    · rw [List.mem_singleton.1 hq]; exact hp
  · have hpp : alike p p = true := alike_iff.2 ⟨rfl, rfl, rfl, rfl⟩
    have sym : ∀ a b, alike a b = true → alike b a = true := fun a b hab => by
      obtain ⟨e1, e2, e3, e4⟩ := alike_iff.1 hab
      exact alike_iff.2 ⟨e1.symm, e2.symm, e3.symm, e4.symm⟩
    rcases List.mem_append.1 hq with hq | hq <;> rcases List.mem_append.1 hr with hr | hr
    · exact h.like q hq r hr
    · rw [List.mem_singleton.1 hr]; exact sym _ _ (ha q hq)
    · rw [List.mem_singleton.1 hq]; exact ha r hr
    · rw [List.mem_singleton.1 hq, List.mem_singleton.1 hr]; exact hpp

theorem HInv.alike_all {most : Int} {f p : Pc} {L : List Pc} (h : HInv most (f :: L)) (ha : alike p f = true) : ∀ q ∈ f :: L, alike p q = true := fun q hq => by
  obtain ⟨e1, e2, e3, e4⟩ := alike_iff.1 ha
  obtain ⟨g1, g2, g3, g4⟩ := alike_iff.1 (h.like f (by simp) q hq)
  exact alike_iff.2 ⟨e1.trans g1, e2.trans g2, e3.trans g3, e4.trans g4⟩

theorem layE_inv {most : Int} {L : List Pc} {p : Pc} (h : HInv most L) (hp : okPc most p = true) (ha : ∀ q ∈ L, alike p q = true) : HInv most (layE L p).2 := by
  unfold layE
  split
  · exact HInv.nil _
  · rename_i hn
    refine ⟨fun q hq => ?_, fun q hq r hr => ?_, fun hw q hq => ?_⟩
    · rcases List.mem_append.1 hq with hq | hq
      · exact h.ok q hq
      · rw [List.mem_singleton.1 hq]; exact hp
    · have hpp : alike p p = true := alike_iff.2 ⟨rfl, rfl, rfl, rfl⟩
      have sym : ∀ a b, alike a b = true → alike b a = true := fun a b hab => by
        obtain ⟨e1, e2, e3, e4⟩ := alike_iff.1 hab
        exact alike_iff.2 ⟨e1.symm, e2.symm, e3.symm, e4.symm⟩
      rcases List.mem_append.1 hq with hq | hq <;> rcases List.mem_append.1 hr with hr | hr
      · exact h.like q hq r hr
      · rw [List.mem_singleton.1 hr]; exact sym _ _ (ha q hq)
      · rw [List.mem_singleton.1 hq]; exact ha r hr
      · rw [List.mem_singleton.1 hq, List.mem_singleton.1 hr]; exact hpp
    · rw [hw] at hn
      have hs : (C.sumOf (bytesOf (byteL (L ++ [p])) (totN (L ++ [p]))) : Int) = p.sum := by simpa using hn
      rw [hs]
      rcases List.mem_append.1 hq with hq | hq
      · exact (alike_iff.1 (ha q hq)).2.2.1
      · rw [List.mem_singleton.1 hq]

theorem take_inv {most : Int} {L : List Pc} (p : Pc) (h : HInv most L) : HInv most (takeE most L p).2 := by
  cases hp : okPc most p with
  | false => rw [take_wrong hp]; exact h
  | true =>
    cases L with
    | nil => rw [take_first hp]; exact layE_inv h hp fun q hq => by cases hq
    | cons f L =>
      by_cases hi : p.idx > f.idx
      · rw [take_newer hp hi]; exact layE_inv (HInv.nil _) hp fun q hq => by cases hq
      · cases ha : alike p f with
        | false => rw [take_stale hp (by omega) ha]; exact h
        | true =>
          cases hc : clashAt (byteL (f :: L)) p.pos.toNat p.b with
          | true => rw [take_clash hp ha hc]; exact h
          | false =>
            rw [take_lay hp ha hc]
            refine layE_inv h hp fun q hq => ?_
            obtain ⟨e1, e2, e3, e4⟩ := alike_iff.1 ha
            obtain ⟨g1, g2, g3, g4⟩ := alike_iff.1 (h.like f (by simp) q hq)
            exact alike_iff.2 ⟨e1.trans g1, e2.trans g2, e3.trans g3, e4.trans g4⟩

theorem take_len (most : Int) (L : List Pc) (p : Pc) : (takeE most L p).2.length ≤ L.length + 1 := by
  have hl : ∀ M : List Pc, (layE M p).2.length ≤ M.length + 1 := fun M => by
    unfold layE
    split
    · simp
    · simp
  cases hp : okPc most p with
  | false => rw [take_wrong hp]; simp
  | true =>
    cases L with
    | nil => rw [take_first hp]; exact hl []
    | cons f L =>
      by_cases hi : p.idx > f.idx
      · rw [take_newer hp hi]; have := hl []; simp at this ⊢; omega
      · cases ha : alike p f with
        | false => rw [take_stale hp (by omega) ha]; simp
        | true =>
          cases hc : clashAt (byteL (f :: L)) p.pos.toNat p.b with
          | true => rw [take_clash hp ha hc]; simp
          | false => rw [take_lay hp ha hc]; exact hl _
end Go.Proofs.YtdngfbljcmbniaaDoor.M
