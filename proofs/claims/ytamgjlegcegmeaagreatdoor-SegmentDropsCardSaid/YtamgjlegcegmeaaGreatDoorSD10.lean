/- The register of CRC-32C, as plain numbers: it is linear, and leads nothing but 0 to 0. No program is named here. -/
import Derived.WalkKit
namespace Go.Proofs.YtamgjlegcegmeaaGreatDoor.C

/-- The polynomial, as the document's register has it. -/
def poly : Nat := 2197175160

/-- One bit's step of the register. -/
def rnd (r : Nat) : Nat := if r % 2 = 1 then (r / 2) ^^^ poly else r / 2

def rnds : Nat → Nat → Nat
  | 0, r => r
  | k + 1, r => rnds k (rnd r)

/-- The register led on by a byte. -/
def step (r : Nat) (c : UInt8) : Nat := rnds 8 (r ^^^ c.toNat)

def lead (r : Nat) (l : List UInt8) : Nat := l.foldl step r

def ones : Nat := 4294967295

/-- The sum of bytes. -/
def sumOf (l : List UInt8) : Nat := lead ones l ^^^ ones

/-- A register led on by so many noughts. -/
def zeros : Nat → Nat → Nat
  | 0, r => r
  | k + 1, r => zeros k (rnds 8 r)

theorem xor_div2 (a b : Nat) : (a ^^^ b) / 2 = a / 2 ^^^ b / 2 := by
  apply Nat.eq_of_testBit_eq
  intro i
  simp only [Nat.testBit_div_two, Nat.testBit_xor]

theorem xor_mod2 (a b : Nat) : (a ^^^ b) % 2 = (a % 2 + b % 2) % 2 := by
  have h := Nat.testBit_xor a b 0
  simp only [Nat.testBit_zero] at h
  have ha := Nat.mod_two_eq_zero_or_one a
  have hb := Nat.mod_two_eq_zero_or_one b
  have hc := Nat.mod_two_eq_zero_or_one (a ^^^ b)
  rcases ha with ha | ha <;> rcases hb with hb | hb <;> rcases hc with hc | hc <;> simp [ha, hb, hc] at h ⊢

theorem xor_swap (a b c d : Nat) : (a ^^^ b) ^^^ (c ^^^ d) = (a ^^^ c) ^^^ (b ^^^ d) := by
  rw [Nat.xor_assoc, Nat.xor_assoc, ← Nat.xor_assoc b c d, Nat.xor_comm b c, Nat.xor_assoc c b d]

theorem rnd_xor (a b : Nat) : rnd (a ^^^ b) = rnd a ^^^ rnd b := by
  unfold rnd
  rw [xor_mod2, xor_div2]
  rcases Nat.mod_two_eq_zero_or_one a with ha | ha <;> rcases Nat.mod_two_eq_zero_or_one b with hb | hb <;> simp only [ha, hb]
  · rfl
  · simp [Nat.xor_assoc]
  · simp [Nat.xor_assoc]; rw [Nat.xor_comm poly]
  · simp
    rw [xor_swap, Nat.xor_self, Nat.xor_zero]

theorem rnd_zero : rnd 0 = 0 := rfl

theorem rnd_lt {r : Nat} (h : r < 4294967296) : rnd r < 4294967296 := by
  unfold rnd
  split
  · have : r / 2 < 2 ^ 32 := by omega
    exact Nat.xor_lt_two_pow this (by decide)
  · omega

theorem rnd_eq_zero {r : Nat} (h : r < 4294967296) (h0 : rnd r = 0) : r = 0 := by
  unfold rnd at h0
  split at h0
  · have h1 : r / 2 = poly := by
      have := congrArg (· ^^^ poly) h0
      simpa [Nat.xor_assoc] using this
    unfold poly at h1
    omega
  · omega

theorem rnds_xor : ∀ (k a b : Nat), rnds k (a ^^^ b) = rnds k a ^^^ rnds k b
  | 0, _, _ => rfl
  | k + 1, a, b => by rw [rnds, rnd_xor, rnds_xor k]; rfl

theorem rnds_zero : ∀ k, rnds k 0 = 0
  | 0 => rfl
  | k + 1 => by rw [rnds, rnd_zero, rnds_zero k]

theorem rnds_lt : ∀ (k : Nat) {r : Nat}, r < 4294967296 → rnds k r < 4294967296
  | 0, _, h => h
  | k + 1, _, h => rnds_lt k (rnd_lt h)

theorem rnds_eq_zero : ∀ (k : Nat) {r : Nat}, r < 4294967296 → rnds k r = 0 → r = 0
  | 0, _, _, h => h
  | k + 1, _, hr, h => rnd_eq_zero hr (rnds_eq_zero k (rnd_lt hr) h)

theorem rnds_add (j : Nat) : ∀ (k r : Nat), rnds (k + j) r = rnds j (rnds k r)
  | 0, r => by rw [Nat.zero_add]; rfl
  | k + 1, r => by rw [Nat.add_right_comm]; exact rnds_add j k (rnd r)

theorem byte_lt (c : UInt8) : c.toNat < 4294967296 := Nat.lt_trans c.toNat_lt (by decide)

theorem step_lt {r : Nat} (c : UInt8) (h : r < 4294967296) : step r c < 4294967296 := by
  unfold step
  exact rnds_lt 8 (Nat.xor_lt_two_pow (n := 32) h (byte_lt c))

theorem lead_lt : ∀ (l : List UInt8) {r : Nat}, r < 4294967296 → lead r l < 4294967296
  | [], _, h => h
  | c :: l, _, h => lead_lt l (step_lt c h)

theorem lead_append (r : Nat) (a b : List UInt8) : lead r (a ++ b) = lead (lead r a) b := by simp [lead]

theorem sumOf_lt (l : List UInt8) : sumOf l < 4294967296 := Nat.xor_lt_two_pow (n := 32) (lead_lt l (by decide)) (by decide)

theorem lead_sum (l : List UInt8) : lead ones l = sumOf l ^^^ ones := by
  unfold sumOf
  rw [Nat.xor_assoc, Nat.xor_self, Nat.xor_zero]

/-- A register that differs is led on by the difference, as by noughts. -/
theorem lead_xor : ∀ (l : List UInt8) (a b : Nat), lead (a ^^^ b) l = zeros l.length a ^^^ lead b l
  | [], _, _ => rfl
  | c :: l, a, b => by
    show lead (step (a ^^^ b) c) l = _
    have e : step (a ^^^ b) c = rnds 8 a ^^^ step b c := by
      unfold step
      rw [Nat.xor_assoc, rnds_xor]
    rw [e, lead_xor l]
    rfl

theorem zeros_zero : ∀ k, zeros k 0 = 0
  | 0 => rfl
  | k + 1 => by rw [zeros, rnds_zero, zeros_zero k]

theorem zeros_eq_zero : ∀ (k : Nat) {r : Nat}, r < 4294967296 → zeros k r = 0 → r = 0
  | 0, _, _, h => h
  | k + 1, _, hr, h => rnds_eq_zero 8 hr (zeros_eq_zero k (rnds_lt 8 hr) h)

theorem zeros_lt : ∀ (k : Nat) {r : Nat}, r < 4294967296 → zeros k r < 4294967296
  | 0, _, h => h
  | k + 1, _, h => zeros_lt k (rnds_lt 8 h)

theorem zeros_add : ∀ (j k r : Nat), zeros (j + k) r = zeros k (zeros j r)
  | 0, k, r => by rw [Nat.zero_add]; rfl
  | j + 1, k, r => by rw [Nat.add_right_comm]; exact zeros_add j k (rnds 8 r)

/-- The sums of two pieces, joined. -/
theorem sum_join (a b : List UInt8) : sumOf (a ++ b) = zeros b.length (sumOf a) ^^^ sumOf b := by
  conv => lhs; unfold sumOf
  rw [lead_append, lead_sum a, lead_xor b, Nat.xor_assoc]
  rfl

/-- Two registers, led on by the same bytes, stay apart. -/
theorem lead_inj (l : List UInt8) {a b : Nat} (ha : a < 4294967296) (hb : b < 4294967296) (h : lead a l = lead b l) : a = b := by
  have h1 : lead ((a ^^^ b) ^^^ b) l = zeros l.length (a ^^^ b) ^^^ lead b l := lead_xor l _ _
  rw [Nat.xor_assoc, Nat.xor_self, Nat.xor_zero, h] at h1
  have h2 : zeros l.length (a ^^^ b) = 0 := by
    have := congrArg (· ^^^ lead b l) h1
    simp only [Nat.xor_self, Nat.xor_assoc, Nat.xor_zero] at this
    exact this.symm
  have h3 := zeros_eq_zero _ (Nat.xor_lt_two_pow (n := 32) ha hb) h2
  have := congrArg (· ^^^ b) h3
  simpa [Nat.xor_assoc] using this

/-- Bytes as one number, the first one lowest. -/
def num : List UInt8 → Nat
  | [] => 0
  | c :: l => c.toNat + 256 * num l

theorem low_high (c M : Nat) (h : c < 256) : c + 256 * M = c ^^^ (256 * M) := by
  have := Nat.two_pow_add_eq_or_of_lt (i := 8) h M
  rw [Nat.add_comm, this]
  apply Nat.eq_of_testBit_eq
  intro i
  rw [Nat.testBit_or, Nat.testBit_xor, Nat.testBit_two_pow_mul]
  by_cases hi : 8 ≤ i
  · rw [Nat.testBit_lt_two_pow (Nat.lt_of_lt_of_le h (show 2 ^ 8 ≤ 2 ^ i from Nat.pow_le_pow_right (by omega) hi))]
    simp
  · simp [hi]

theorem low_high' (c M : Nat) (h : c < 16) : c + 16 * M = c ^^^ (2 ^ 4 * M) := by
  have := Nat.two_pow_add_eq_or_of_lt (i := 4) h M
  rw [show c + 16 * M = 2 ^ 4 * M + c from by omega, this]
  apply Nat.eq_of_testBit_eq
  intro i
  rw [Nat.testBit_or, Nat.testBit_xor, Nat.testBit_two_pow_mul]
  by_cases hi : 4 ≤ i
  · rw [Nat.testBit_lt_two_pow (Nat.lt_of_lt_of_le h (show 2 ^ 4 ≤ 2 ^ i from Nat.pow_le_pow_right (by omega) hi))]
    simp
  · simp [hi]

theorem rnds_shift : ∀ (k M : Nat), rnds k (2 ^ k * M) = M
  | 0, M => by simp [rnds]
  | k + 1, M => by
    have e : 2 ^ (k + 1) * M = 2 * (2 ^ k * M) := by rw [Nat.pow_succ]; rw [Nat.mul_comm (2 ^ k) 2, Nat.mul_assoc]
    rw [rnds, e]
    have h : rnd (2 * (2 ^ k * M)) = 2 ^ k * M := by
      unfold rnd
      rw [if_neg (by omega)]
      omega
    rw [h, rnds_shift k M]

/-- A register led on by bytes is the number of them, reduced bit by bit. -/
theorem lead_num : ∀ (l : List UInt8) (r : Nat), lead r l = rnds (8 * l.length) (r ^^^ num l)
  | [], r => by simp [lead, num, rnds]
  | c :: l, r => by
    show lead (step r c) l = _
    rw [lead_num l, List.length_cons, show 8 * (l.length + 1) = 8 + 8 * l.length from by omega, rnds_add]
    congr 1
    rw [num, low_high _ _ c.toNat_lt, ← Nat.xor_assoc, rnds_xor, show (256 : Nat) = 2 ^ 8 from rfl, rnds_shift]
    rfl

theorem num_lt : ∀ (l : List UInt8), num l < 256 ^ l.length
  | [] => by simp [num]
  | c :: l => by
    have h1 := num_lt l
    have h2 := c.toNat_lt
    rw [num, List.length_cons, Nat.pow_succ]
    omega

theorem num_inj : ∀ (a b : List UInt8), a.length = b.length → num a = num b → a = b
  | [], [], _, _ => rfl
  | [], _ :: _, h, _ => by simp at h
  | _ :: _, [], h, _ => by simp at h
  | c :: a, d :: b, h, e => by
    have h1 := c.toNat_lt
    have h2 := d.toNat_lt
    rw [num, num] at e
    have h3 : c = d := UInt8.toNat_inj.1 (by omega)
    have h4 := num_inj a b (by simpa using h) (by omega)
    rw [h3, h4]

/-- Four bytes are told by what they make of a register. -/
theorem four_inj {r : Nat} {f o : List UInt8} (hf : f.length = 4) (ho : o.length = 4) (h : lead r f = lead r o) : f = o := by
  rw [lead_num, lead_num, hf, ho, rnds_xor, rnds_xor] at h
  have h1 : rnds (8 * 4) (num f ^^^ num o) = 0 := by
    rw [rnds_xor]
    have := congrArg (rnds (8 * 4) r ^^^ ·) h
    simp only [← Nat.xor_assoc, Nat.xor_self, Nat.zero_xor] at this
    rw [this, Nat.xor_self]
  have h2 := num_lt f
  have h3 := num_lt o
  rw [hf] at h2
  rw [ho] at h3
  have h4 := rnds_eq_zero _ (Nat.xor_lt_two_pow (n := 32) (by omega) (by omega)) h1
  have h5 : num f = num o := by
    have := congrArg (· ^^^ num o) h4
    simpa [Nat.xor_assoc] using this
  exact num_inj f o (by omega) h5

theorem xor_two_mul (a b k : Nat) : 2 ^ k * (a ^^^ b) = 2 ^ k * a ^^^ 2 ^ k * b := by
  apply Nat.eq_of_testBit_eq
  intro i
  rw [Nat.testBit_xor, Nat.testBit_two_pow_mul, Nat.testBit_two_pow_mul, Nat.testBit_two_pow_mul, Nat.testBit_xor]
  by_cases h : k ≤ i <;> simp [h]

/-- One bit of bytes turned. -/
theorem num_flip : ∀ (l : List UInt8) (j m : Nat) (h : j < l.length) (d : UInt8), m < 8 → d.toNat = l[j].toNat ^^^ 2 ^ m → num (l.set j d) = num l ^^^ 2 ^ (8 * j + m)
  | c :: l, 0, m, _, d, hm, hd => by
    simp only [List.getElem_cons_zero] at hd
    have h8 : (2 : Nat) ^ m < 2 ^ 8 := Nat.pow_lt_pow_right (by omega) hm
    have hd8 := d.toNat_lt
    rw [List.set_cons_zero, num, num, low_high _ _ d.toNat_lt, low_high _ _ c.toNat_lt, hd, Nat.mul_zero, Nat.zero_add, Nat.xor_assoc, Nat.xor_assoc]
    congr 1
    rw [Nat.xor_comm]
  | c :: l, j + 1, m, h, d, hm, hd => by
    have ih := num_flip l j m (by simpa using h) d hm (by simpa using hd)
    rw [List.set_cons_succ, num, num, ih, low_high _ _ c.toNat_lt, low_high _ _ c.toNat_lt, show (256 : Nat) = 2 ^ 8 from rfl, xor_two_mul, Nat.xor_assoc]
    congr 2
    rw [← Nat.pow_add]
    congr 1
    omega

/-- The lowest bits of a number, one more. -/
theorem low_bits (b i : Nat) : b % 2 ^ (i + 1) = (b % 2 ^ i) ^^^ (if b.testBit i then 2 ^ i else 0) := by
  apply Nat.eq_of_testBit_eq
  intro j
  rw [Nat.testBit_xor, Nat.testBit_mod_two_pow, Nat.testBit_mod_two_pow]
  by_cases hb : b.testBit i
  · rw [if_pos hb, Nat.testBit_two_pow]
    by_cases h1 : j < i
    · simp [h1, show j < i + 1 from by omega, show i ≠ j from by omega]
    · by_cases h2 : j = i
      · subst h2; simp [hb]
      · simp [h1, show ¬ j < i + 1 from by omega, show i ≠ j from by omega]
  · rw [if_neg hb]
    by_cases h1 : j < i
    · simp [h1, show j < i + 1 from by omega]
    · by_cases h2 : j = i
      · subst h2; simp [hb]
      · simp [h1, show ¬ j < i + 1 from by omega]

/-- Bytes that differ in a burst have another sum. -/
theorem burst {a b : List UInt8} {at' bits : Nat} (hl : a.length = b.length) (h : num b = num a ^^^ (2 ^ at' * bits)) (hb : bits < 4294967296) (h0 : bits ≠ 0) (hat : at' ≤ 8 * a.length) : sumOf a ≠ sumOf b := by
  intro he
  have h1 : lead ones a = lead ones b := by
    rw [lead_sum, lead_sum, he]
  rw [lead_num, lead_num, ← hl, h, ← Nat.xor_assoc, rnds_xor _ (ones ^^^ num a)] at h1
  have h2 : rnds (8 * a.length) (2 ^ at' * bits) = 0 := by
    have := congrArg (rnds (8 * a.length) (ones ^^^ num a) ^^^ ·) h1
    simp only [← Nat.xor_assoc, Nat.xor_self, Nat.zero_xor] at this
    exact this.symm
  rw [show 8 * a.length = at' + (8 * a.length - at') from by omega, rnds_add, rnds_shift] at h2
  exact h0 (rnds_eq_zero _ hb h2)
end Go.Proofs.YtamgjlegcegmeaaGreatDoor.C
