/- The register of CRC-32C, as plain numbers: it is linear, and leads nothing but 0 to 0. No program is named here. A disk, as plain lists: the document's layer 3 by definition. No program is named here. -/
import Derived.WalkKit
/- Part: SumPure. -/
namespace Go.Proofs.YtbcpcopapbgcdaaGreatDoor.C

/-- The polynomial, as the document's register has it. -/
def poly : Nat := 2197175160

/-- One bit's step of the register. -/
def rnd (r : Nat) : Nat := if r % 2 = 1 then (r / 2) ^^^ poly else r / 2

def rnds : Nat → Nat → Nat
  | 0, r => r
  | k + 1, r => rnds k (rnd r)

/-- The register led on by a byte. -/
def step (r : Nat) (c : UInt8) : Nat := rnds 8 (r ^^^ c.toNat)

def lead (r : Nat) (l : List UInt8) : Nat := l.foldl step r

def ones : Nat := 4294967295

/-- The sum of bytes. -/
def sumOf (l : List UInt8) : Nat := lead ones l ^^^ ones

/-- A register led on by so many noughts. -/
def zeros : Nat → Nat → Nat
  | 0, r => r
  | k + 1, r => zeros k (rnds 8 r)

theorem xor_div2 (a b : Nat) : (a ^^^ b) / 2 = a / 2 ^^^ b / 2 := by
  apply Nat.eq_of_testBit_eq
  intro i
  simp only [Nat.testBit_div_two, Nat.testBit_xor]

theorem xor_mod2 (a b : Nat) : (a ^^^ b) % 2 = (a % 2 + b % 2) % 2 := by
  have h := Nat.testBit_xor a b 0
  simp only [Nat.testBit_zero] at h
  have ha := Nat.mod_two_eq_zero_or_one a
  have hb := Nat.mod_two_eq_zero_or_one b
  have hc := Nat.mod_two_eq_zero_or_one (a ^^^ b)
  rcases ha with ha | ha <;> rcases hb with hb | hb <;> rcases hc with hc | hc <;> simp [ha, hb, hc] at h ⊢

theorem xor_swap (a b c d : Nat) : (a ^^^ b) ^^^ (c ^^^ d) = (a ^^^ c) ^^^ (b ^^^ d) := by
  rw [Nat.xor_assoc, Nat.xor_assoc, ← Nat.xor_assoc b c d, Nat.xor_comm b c, Nat.xor_assoc c b d]

theorem rnd_xor (a b : Nat) : rnd (a ^^^ b) = rnd a ^^^ rnd b := by
  unfold rnd
  rw [xor_mod2, xor_div2]
  rcases Nat.mod_two_eq_zero_or_one a with ha | ha <;> rcases Nat.mod_two_eq_zero_or_one b with hb | hb <;> simp only [ha, hb]
  · rfl
  · simp [Nat.xor_assoc]
  · simp [Nat.xor_assoc]; rw [Nat.xor_comm poly]
  · simp
    rw [xor_swap, Nat.xor_self, Nat.xor_zero]

theorem rnd_zero : rnd 0 = 0 := rfl

theorem rnd_lt {r : Nat} (h : r < 4294967296) : rnd r < 4294967296 := by
  unfold rnd
  split
  · have : r / 2 < 2 ^ 32 := by omega
    exact Nat.xor_lt_two_pow this (by decide)
  · omega

theorem rnd_eq_zero {r : Nat} (h : r < 4294967296) (h0 : rnd r = 0) : r = 0 := by
  unfold rnd at h0
  split at h0
  · have h1 : r / 2 = poly := by
      have := congrArg (· ^^^ poly) h0
      simpa [Nat.xor_assoc] using this
    unfold poly at h1
    omega
  · omega

theorem rnds_xor : ∀ (k a b : Nat), rnds k (a ^^^ b) = rnds k a ^^^ rnds k b
  | 0, _, _ => rfl
  | k + 1, a, b => by rw [rnds, rnd_xor, rnds_xor k]; rfl

theorem rnds_zero : ∀ k, rnds k 0 = 0
  | 0 => rfl
  | k + 1 => by rw [rnds, rnd_zero, rnds_zero k]

theorem rnds_lt : ∀ (k : Nat) {r : Nat}, r < 4294967296 → rnds k r < 4294967296
  | 0, _, h => h
  | k + 1, _, h => rnds_lt k (rnd_lt h)

theorem rnds_eq_zero : ∀ (k : Nat) {r : Nat}, r < 4294967296 → rnds k r = 0 → r = 0
  | 0, _, _, h => h
  | k + 1, _, hr, h => rnd_eq_zero hr (rnds_eq_zero k (rnd_lt hr) h)

theorem rnds_add (j : Nat) : ∀ (k r : Nat), rnds (k + j) r = rnds j (rnds k r)
  | 0, r => by rw [Nat.zero_add]; rfl
  | k + 1, r => by rw [Nat.add_right_comm]; exact rnds_add j k (rnd r)

theorem byte_lt (c : UInt8) : c.toNat < 4294967296 := Nat.lt_trans c.toNat_lt (by decide)

theorem step_lt {r : Nat} (c : UInt8) (h : r < 4294967296) : step r c < 4294967296 := by
  unfold step
  exact rnds_lt 8 (Nat.xor_lt_two_pow (n := 32) h (byte_lt c))

theorem lead_lt : ∀ (l : List UInt8) {r : Nat}, r < 4294967296 → lead r l < 4294967296
  | [], _, h => h
  | c :: l, _, h => lead_lt l (step_lt c h)

theorem lead_append (r : Nat) (a b : List UInt8) : lead r (a ++ b) = lead (lead r a) b := by simp [lead]

theorem sumOf_lt (l : List UInt8) : sumOf l < 4294967296 := Nat.xor_lt_two_pow (n := 32) (lead_lt l (by decide)) (by decide)

theorem lead_sum (l : List UInt8) : lead ones l = sumOf l ^^^ ones := by
  unfold sumOf
  rw [Nat.xor_assoc, Nat.xor_self, Nat.xor_zero]

/-- A register that differs is led on by the difference, as by noughts. -/
theorem lead_xor : ∀ (l : List UInt8) (a b : Nat), lead (a ^^^ b) l = zeros l.length a ^^^ lead b l
  | [], _, _ => rfl
  | c :: l, a, b => by
    show lead (step (a ^^^ b) c) l = _
    have e : step (a ^^^ b) c = rnds 8 a ^^^ step b c := by
      unfold step
      rw [Nat.xor_assoc, rnds_xor]
    rw [e, lead_xor l]
    rfl

theorem zeros_zero : ∀ k, zeros k 0 = 0
  | 0 => rfl
  | k + 1 => by rw [zeros, rnds_zero, zeros_zero k]

theorem zeros_eq_zero : ∀ (k : Nat) {r : Nat}, r < 4294967296 → zeros k r = 0 → r = 0
  | 0, _, _, h => h
  | k + 1, _, hr, h => rnds_eq_zero 8 hr (zeros_eq_zero k (rnds_lt 8 hr) h)

theorem zeros_lt : ∀ (k : Nat) {r : Nat}, r < 4294967296 → zeros k r < 4294967296
  | 0, _, h => h
  | k + 1, _, h => zeros_lt k (rnds_lt 8 h)

theorem zeros_add : ∀ (j k r : Nat), zeros (j + k) r = zeros k (zeros j r)
  | 0, k, r => by rw [Nat.zero_add]; rfl
  | j + 1, k, r => by rw [Nat.add_right_comm]; exact zeros_add j k (rnds 8 r)

/-- The sums of two pieces, joined. -/
theorem sum_join (a b : List UInt8) : sumOf (a ++ b) = zeros b.length (sumOf a) ^^^ sumOf b := by
  conv => lhs; unfold sumOf
  rw [lead_append, lead_sum a, lead_xor b, Nat.xor_assoc]
  rfl

/-- Two registers, led on by the same bytes, stay apart. -/
theorem lead_inj (l : List UInt8) {a b : Nat} (ha : a < 4294967296) (hb : b < 4294967296) (h : lead a l = lead b l) : a = b := by
  have h1 : lead ((a ^^^ b) ^^^ b) l = zeros l.length (a ^^^ b) ^^^ lead b l := lead_xor l _ _
  rw [Nat.xor_assoc, Nat.xor_self, Nat.xor_zero, h] at h1
  have h2 : zeros l.length (a ^^^ b) = 0 := by
    have := congrArg (· ^^^ lead b l) h1
    simp only [Nat.xor_self, Nat.xor_assoc, Nat.xor_zero] at this
    exact this.symm
  have h3 := zeros_eq_zero _ (Nat.xor_lt_two_pow (n := 32) ha hb) h2
  have := congrArg (· ^^^ b) h3
  simpa [Nat.xor_assoc] using this

/-- Bytes as one number, the first one lowest. -/
def num : List UInt8 → Nat
  | [] => 0
  | c :: l => c.toNat + 256 * num l

theorem low_high (c M : Nat) (h : c < 256) : c + 256 * M = c ^^^ (256 * M) := by
  have := Nat.two_pow_add_eq_or_of_lt (i := 8) h M
  rw [Nat.add_comm, this]
  apply Nat.eq_of_testBit_eq
  intro i
  rw [Nat.testBit_or, Nat.testBit_xor, Nat.testBit_two_pow_mul]
  by_cases hi : 8 ≤ i
  · rw [Nat.testBit_lt_two_pow (Nat.lt_of_lt_of_le h (show 2 ^ 8 ≤ 2 ^ i from Nat.pow_le_pow_right (by omega) hi))]
    simp
  · simp [hi]

theorem low_high' (c M : Nat) (h : c < 16) : c + 16 * M = c ^^^ (2 ^ 4 * M) := by
  have := Nat.two_pow_add_eq_or_of_lt (i := 4) h M
  rw [show c + 16 * M = 2 ^ 4 * M + c from by omega, this]
  apply Nat.eq_of_testBit_eq
  intro i
  rw [Nat.testBit_or, Nat.testBit_xor, Nat.testBit_two_pow_mul]
  by_cases hi : 4 ≤ i
  · rw [Nat.testBit_lt_two_pow (Nat.lt_of_lt_of_le h (show 2 ^ 4 ≤ 2 ^ i from Nat.pow_le_pow_right (by omega) hi))]
    simp
  · simp [hi]

theorem rnds_shift : ∀ (k M : Nat), rnds k (2 ^ k * M) = M
  | 0, M => by simp [rnds]
  | k + 1, M => by
    have e : 2 ^ (k + 1) * M = 2 * (2 ^ k * M) := by rw [Nat.pow_succ]; rw [Nat.mul_comm (2 ^ k) 2, Nat.mul_assoc]
    rw [rnds, e]
    have h : rnd (2 * (2 ^ k * M)) = 2 ^ k * M := by
      unfold rnd
      rw [if_neg (by omega)]
      omega
    rw [h, rnds_shift k M]

/-- A register led on by bytes is the number of them, reduced bit by bit. -/
theorem lead_num : ∀ (l : List UInt8) (r : Nat), lead r l = rnds (8 * l.length) (r ^^^ num l)
  | [], r => by simp [lead, num, rnds]
  | c :: l, r => by
    show lead (step r c) l = _
    rw [lead_num l, List.length_cons, show 8 * (l.length + 1) = 8 + 8 * l.length from by omega, rnds_add]
    congr 1
    rw [num, low_high _ _ c.toNat_lt, ← Nat.xor_assoc, rnds_xor, show (256 : Nat) = 2 ^ 8 from rfl, rnds_shift]
    rfl

theorem num_lt : ∀ (l : List UInt8), num l < 256 ^ l.length
  | [] => by simp [num]
  | c :: l => by
    have h1 := num_lt l
    have h2 := c.toNat_lt
    rw [num, List.length_cons, Nat.pow_succ]
    omega

theorem num_inj : ∀ (a b : List UInt8), a.length = b.length → num a = num b → a = b
  | [], [], _, _ => rfl
  | [], _ :: _, h, _ => by simp at h
  | _ :: _, [], h, _ => by simp at h
  | c :: a, d :: b, h, e => by
    have h1 := c.toNat_lt
    have h2 := d.toNat_lt
    rw [num, num] at e
    have h3 : c = d := UInt8.toNat_inj.1 (by omega)
    have h4 := num_inj a b (by simpa using h) (by omega)
    rw [h3, h4]

/-- Four bytes are told by what they make of a register. -/
theorem four_inj {r : Nat} {f o : List UInt8} (hf : f.length = 4) (ho : o.length = 4) (h : lead r f = lead r o) : f = o := by
  rw [lead_num, lead_num, hf, ho, rnds_xor, rnds_xor] at h
  have h1 : rnds (8 * 4) (num f ^^^ num o) = 0 := by
    rw [rnds_xor]
    have := congrArg (rnds (8 * 4) r ^^^ ·) h
    simp only [← Nat.xor_assoc, Nat.xor_self, Nat.zero_xor] at this
    rw [this, Nat.xor_self]
  have h2 := num_lt f
  have h3 := num_lt o
  rw [hf] at h2
  rw [ho] at h3
  have h4 := rnds_eq_zero _ (Nat.xor_lt_two_pow (n := 32) (by omega) (by omega)) h1
  have h5 : num f = num o := by
    have := congrArg (· ^^^ num o) h4
    simpa [Nat.xor_assoc] using this
  exact num_inj f o (by omega) h5

theorem xor_two_mul (a b k : Nat) : 2 ^ k * (a ^^^ b) = 2 ^ k * a ^^^ 2 ^ k * b := by
  apply Nat.eq_of_testBit_eq
  intro i
  rw [Nat.testBit_xor, Nat.testBit_two_pow_mul, Nat.testBit_two_pow_mul, Nat.testBit_two_pow_mul, Nat.testBit_xor]
  by_cases h : k ≤ i <;> simp [h]

/-- One bit of bytes turned. -/
theorem num_flip : ∀ (l : List UInt8) (j m : Nat) (h : j < l.length) (d : UInt8), m < 8 → d.toNat = l[j].toNat ^^^ 2 ^ m → num (l.set j d) = num l ^^^ 2 ^ (8 * j + m)
  | c :: l, 0, m, _, d, hm, hd => by
    simp only [List.getElem_cons_zero] at hd
    have h8 : (2 : Nat) ^ m < 2 ^ 8 := Nat.pow_lt_pow_right (by omega) hm
    have hd8 := d.toNat_lt
    rw [List.set_cons_zero, num, num, low_high _ _ d.toNat_lt, low_high _ _ c.toNat_lt, hd, Nat.mul_zero, Nat.zero_add, Nat.xor_assoc, Nat.xor_assoc]
    congr 1
    rw [Nat.xor_comm]
  | c :: l, j + 1, m, h, d, hm, hd => by
    have ih := num_flip l j m (by simpa using h) d hm (by simpa using hd)
    rw [List.set_cons_succ, num, num, ih, low_high _ _ c.toNat_lt, low_high _ _ c.toNat_lt, show (256 : Nat) = 2 ^ 8 from rfl, xor_two_mul, Nat.xor_assoc]
    congr 2
    rw [← Nat.pow_add]
    congr 1
    omega

/-- The lowest bits of a number, one more. -/
theorem low_bits (b i : Nat) : b % 2 ^ (i + 1) = (b % 2 ^ i) ^^^ (if b.testBit i then 2 ^ i else 0) := by
  apply Nat.eq_of_testBit_eq
  intro j
  rw [Nat.testBit_xor, Nat.testBit_mod_two_pow, Nat.testBit_mod_two_pow]
  by_cases hb : b.testBit i
  · rw [if_pos hb, Nat.testBit_two_pow]
    by_cases h1 : j < i
    · simp [h1, show j < i + 1 from by omega, show i ≠ j from by omega]
    · by_cases h2 : j = i
      · subst h2; simp [hb]
      · simp [h1, show ¬ j < i + 1 from by omega, show i ≠ j from by omega]
  · rw [if_neg hb]
    by_cases h1 : j < i
    · simp [h1, show j < i + 1 from by omega]
    · by_cases h2 : j = i
      · subst h2; simp [hb]
      · simp [h1, show ¬ j < i + 1 from by omega]

/-- Bytes that differ in a burst have another sum. -/
theorem burst {a b : List UInt8} {at' bits : Nat} (hl : a.length = b.length) (h : num b = num a ^^^ (2 ^ at' * bits)) (hb : bits < 4294967296) (h0 : bits ≠ 0) (hat : at' ≤ 8 * a.length) : sumOf a ≠ sumOf b := by
  intro he
  have h1 : lead ones a = lead ones b := by
    rw [lead_sum, lead_sum, he]
  rw [lead_num, lead_num, ← hl, h, ← Nat.xor_assoc, rnds_xor _ (ones ^^^ num a)] at h1
  have h2 : rnds (8 * a.length) (2 ^ at' * bits) = 0 := by
    have := congrArg (rnds (8 * a.length) (ones ^^^ num a) ^^^ ·) h1
    simp only [← Nat.xor_assoc, Nat.xor_self, Nat.zero_xor] at this
    exact this.symm
  rw [show 8 * a.length = at' + (8 * a.length - at') from by omega, rnds_add, rnds_shift] at h2
  exact h0 (rnds_eq_zero _ hb h2)
end Go.Proofs.YtbcpcopapbgcdaaGreatDoor.C

/- Part: DiskPure. -/
namespace Go.Proofs.YtbcpcopapbgcdaaGreatDoor.D

/-- A file: its name, its bytes, how many are safe. -/
structure Fl where
  nm : ByteArray
  b : List UInt8
  safe : Nat

/-- A disk: the room, the files, their names rising; with 'ends', so many calls more are done. -/
structure Dk where
  room : Int
  fs : List Fl
  ends : Bool
  calls : Nat

/-- A byte of a name. -/
def okByte (c : UInt8) : Bool := (97 ≤ c && c ≤ 122) || (48 ≤ c && c ≤ 57) || c == 45 || c == 46

def okName (s : ByteArray) : Bool := s.data.toList.all okByte && decide (0 < s.size ∧ s.size ≤ 32)

/-- Where a file is: the number of all, if it isn't there. -/
def find (fs : List Fl) (s : ByteArray) : Nat := fs.findIdx fun f => f.nm.toList == s.toList

def used (fs : List Fl) : Nat := (fs.map fun f => f.b.length).sum

def Dk.free (d : Dk) : Int := d.room - used d.fs

/-- Where a new name belongs. -/
def place (fs : List Fl) (s : ByteArray) : Nat := fs.findIdx fun f => !Op.bytesLess f.nm.toList s.toList

def add (fs : List Fl) (f : Fl) : List Fl := fs.take (place fs f.nm) ++ f :: fs.drop (place fs f.nm)

def stop (d : Dk) (n : Int) : Dk := { d with ends := decide (0 ≤ n), calls := n.toNat }

/-- Is a call refused, and what becomes of the disk? -/
def Dk.stopped (d : Dk) : Bool := d.ends && d.calls == 0

def Dk.tick (d : Dk) : Dk := if d.ends = true ∧ d.calls ≠ 0 then { d with calls := d.calls - 1 } else d

def isThere (fs : List Fl) (s : ByteArray) : Bool := decide (find fs s < fs.length)

/-- Bytes behind a file's. -/
def layAt (fs : List Fl) (i : Nat) (l : List UInt8) : List Fl := fs.modify i fun f => { f with b := f.b ++ l }

def append (d : Dk) (s : ByteArray) (bs : List (List UInt8)) : Int × Dk :=
  if d.stopped then (32, d)
  else
    let e := d.tick
    if okName s = false then (30, e)
    else if (bs.flatten.length : Int) > e.free ∨ (isThere e.fs s = false ∧ 4096 ≤ e.fs.length) then (31, e)
    else
      let fs := if isThere e.fs s then e.fs else add e.fs ⟨s, [], 0⟩
      (0, { e with fs := layAt fs (find fs s) bs.flatten })

def syncAt (fs : List Fl) (i : Nat) : List Fl := fs.modify i fun f => { f with safe := f.b.length }

def sync (d : Dk) (names : List ByteArray) : Int × Dk :=
  if d.stopped then (32, d)
  else
    let e := d.tick
    if names.all (isThere e.fs) = false then (30, e)
    else (0, { e with fs := names.foldl (fun fs s => syncAt fs (find fs s)) e.fs })

def rename (d : Dk) (a b : ByteArray) : Int × Dk :=
  if d.stopped then (32, d)
  else
    let e := d.tick
    if isThere e.fs a = false ∨ okName b = false then (30, e)
    else
      match e.fs[find e.fs a]? with
      | none => (30, e)
      | some f =>
        let fs := e.fs.eraseIdx (find e.fs a)
        let fs := fs.eraseIdx (find fs b)
        (0, { e with fs := add fs { f with nm := b } })

/-- Are they all there, none of them twice? -/
def eachOnce (fs : List Fl) : List ByteArray → Bool
  | [] => true
  | s :: r => isThere fs s && !(r.any fun t => t.toList == s.toList) && eachOnce fs r

def remove (d : Dk) (names : List ByteArray) : Int × Dk :=
  if d.stopped then (32, d)
  else
    let e := d.tick
    if eachOnce e.fs names = false then (30, e)
    else (0, { e with fs := names.foldl (fun fs s => fs.eraseIdx (find fs s)) e.fs })

def cut (d : Dk) (s : ByteArray) (n : Int) : Int × Dk :=
  if d.stopped then (32, d)
  else
    let e := d.tick
    match e.fs[find e.fs s]? with
    | none => (30, e)
    | some f =>
      if n < 0 ∨ (f.b.length : Int) < n then (2, e)
      else (0, { e with fs := e.fs.modify (find e.fs s) fun f => { f with b := f.b.take n.toNat, safe := min f.safe n.toNat } })

/-- How many bytes stay of a file, by what keep says at its place. -/
def stays (f : Fl) (k : Option Int) : Nat :=
  match k with
  | none => f.safe
  | some k => if 0 < k then f.safe + min k.toNat (f.b.length - f.safe) else f.safe

def crashFs : List Fl → List Int → List Fl
  | [], _ => []
  | f :: r, ks => { f with b := f.b.take (stays f ks.head?), safe := stays f ks.head? } :: crashFs r ks.tail

def crash (d : Dk) (ks : List Int) : Nat × Dk :=
  (used d.fs - used (crashFs d.fs ks), { d with fs := crashFs d.fs ks, ends := false })

theorem okByte_iff (c : UInt8) : okByte c = true ↔ (97 ≤ c.toNat ∧ c.toNat ≤ 122) ∨ (48 ≤ c.toNat ∧ c.toNat ≤ 57) ∨ c.toNat = 45 ∨ c.toNat = 46 := by
  unfold okByte
  simp only [Bool.or_eq_true, Bool.and_eq_true, decide_eq_true_eq, UInt8.le_iff_toNat_le, beq_iff_eq, ← UInt8.toNat_inj]
  simp
  omega

theorem used_take (fs : List Fl) (k : Nat) (h : k < fs.length) : used (fs.take (k + 1)) = used (fs.take k) + fs[k].b.length := by
  unfold used
  rw [List.take_succ_eq_append_getElem h, List.map_append, List.sum_append]
  simp

theorem used_le (fs : List Fl) (k : Nat) : used (fs.take k) ≤ used fs := by
  have h : used fs = used (fs.take k) + used (fs.drop k) := by
    unfold used
    rw [← List.sum_append, ← List.map_append, List.take_append_drop]
  omega

theorem idx_hit {α : Type} (p : α → Bool) (l : List α) (k : Nat) (hk : k < l.length) (h : k ≤ l.findIdx p) (hp : p l[k] = true) : l.findIdx p = k := by
  rcases Nat.lt_or_ge k (l.findIdx p) with h1 | h1
  · have := List.not_of_lt_findIdx h1
    rw [hp] at this; cases this
  · omega

theorem idx_next {α : Type} (p : α → Bool) (l : List α) (k : Nat) (hk : k < l.length) (h : k ≤ l.findIdx p) (hp : p l[k] = false) : k + 1 ≤ l.findIdx p := by
  rcases Nat.lt_or_ge k (l.findIdx p) with h1 | h1
  · omega
  · have e : l.findIdx p = k := by omega
    have := List.findIdx_getElem (p := p) (xs := l) (w := by omega)
    simp only [e, hp] at this
    cases this

theorem find_le (fs : List Fl) (s : ByteArray) : find fs s ≤ fs.length := List.findIdx_le_length

theorem find_hit (fs : List Fl) (s : ByteArray) (k : Nat) (hk : k < fs.length) (h : k ≤ find fs s) (hp : (fs[k].nm.toList == s.toList) = true) : find fs s = k := idx_hit _ fs k hk h hp

theorem find_next (fs : List Fl) (s : ByteArray) (k : Nat) (hk : k < fs.length) (h : k ≤ find fs s) (hp : (fs[k].nm.toList == s.toList) = false) : k + 1 ≤ find fs s := idx_next _ fs k hk h hp

/-- The answer of find. -/
def findR (fs : List Fl) (s : ByteArray) : Int := if find fs s < fs.length then (find fs s : Int) else -1

theorem used_add (fs : List Fl) (f : Fl) : used (add fs f) = used fs + f.b.length := by
  unfold used add
  rw [List.map_append, List.map_cons, List.sum_append, List.sum_cons]
  have : (fs.map fun f => f.b.length).sum = ((fs.take (place fs f.nm)).map fun f => f.b.length).sum + ((fs.drop (place fs f.nm)).map fun f => f.b.length).sum := by
    rw [← List.sum_append, ← List.map_append, List.take_append_drop]
  omega

theorem isThere_add (fs : List Fl) (f : Fl) : isThere (add fs f) f.nm = true := by
  unfold isThere find
  rw [decide_eq_true_eq, List.findIdx_lt_length]
  exact ⟨f, by unfold add; simp, by simp⟩

/-- The first so many are all there, none of them twice. -/
def OnceTo (fs : List Fl) (l : List ByteArray) (k : Nat) : Prop := ∀ (i : Nat) (hi : i < l.length), i < k → isThere fs l[i] = true ∧ ∀ (j : Nat) (hj : j < i), (l[j].toList == l[i].toList) = false

theorem beq_comm_toList (a b : ByteArray) : (a.toList == b.toList) = (b.toList == a.toList) := by
  rw [Bool.eq_iff_iff, beq_iff_eq, beq_iff_eq]
  exact ⟨Eq.symm, Eq.symm⟩

theorem once_of (fs : List Fl) : ∀ (l : List ByteArray), OnceTo fs l l.length → eachOnce fs l = true
  | [], _ => rfl
  | s :: r, h => by
    have h0 := (h 0 (by simp) (by simp)).1
    simp only [List.getElem_cons_zero] at h0
    unfold eachOnce
    rw [h0, once_of fs r fun i hi hk => ?_]
    · have : (r.any fun t => t.toList == s.toList) = false := by
        rw [List.any_eq_false]
        intro t ht
        obtain ⟨i, hi, rfl⟩ := List.mem_iff_getElem.1 ht
        have := (h (i + 1) (by simpa using hi) (by simpa using hi)).2 0 (by omega)
        simp only [List.getElem_cons_zero, List.getElem_cons_succ] at this
        rw [beq_comm_toList, this]; simp
      rw [this]; rfl
    · have := h (i + 1) (by simpa using hi) (by simpa using hk)
      refine ⟨by simpa using this.1, fun j hj => ?_⟩
      have := this.2 (j + 1) (by omega)
      simpa using this

theorem not_once (fs : List Fl) : ∀ (l : List ByteArray), eachOnce fs l = true → OnceTo fs l l.length
  | [], _ => fun i hi => by simp at hi
  | s :: r, h => by
    unfold eachOnce at h
    simp only [Bool.and_eq_true, Bool.not_eq_true'] at h
    obtain ⟨⟨h0, h1⟩, h2⟩ := h
    have ih := not_once fs r h2
    intro i hi _
    cases i with
    | zero => exact ⟨by simpa using h0, fun j hj => by omega⟩
    | succ i =>
      have hi' : i < r.length := by simpa using hi
      refine ⟨by simpa using (ih i hi' hi').1, fun j hj => ?_⟩
      cases j with
      | zero =>
        have := (List.any_eq_false.1 h1) r[i] (List.getElem_mem hi')
        simp only [List.getElem_cons_zero, List.getElem_cons_succ]
        rw [beq_comm_toList]
        simpa using this
      | succ j => simpa using (ih i hi' hi').2 j (by omega)

theorem isThere_iff (fs : List Fl) (s : ByteArray) : isThere fs s = true ↔ ∃ (j : Nat) (h : j < fs.length), (fs[j].nm.toList == s.toList) = true := by
  unfold isThere find
  rw [decide_eq_true_eq, List.findIdx_lt_length]
  constructor
  · rintro ⟨f, hf, h⟩
    obtain ⟨j, hj, rfl⟩ := List.mem_iff_getElem.1 hf
    exact ⟨j, hj, h⟩
  · rintro ⟨j, hj, h⟩
    exact ⟨_, List.getElem_mem hj, h⟩

theorem find_at (fs : List Fl) (s : ByteArray) (h : find fs s < fs.length) : (fs[find fs s].nm.toList == s.toList) = true := List.findIdx_getElem (w := h)

/-- What is there stays there when another name is taken out. -/
theorem isThere_erase {fs : List Fl} {a s : ByteArray} (ha : isThere fs a = true) (hs : isThere fs s = true) (hne : (a.toList == s.toList) = false) : isThere (fs.eraseIdx (find fs a)) s = true := by
  have ha' : find fs a < fs.length := by unfold isThere at ha; simpa using ha
  obtain ⟨j, hj, h⟩ := (isThere_iff fs s).1 hs
  have hja : j ≠ find fs a := fun e => by
    subst e
    have h1 := find_at fs a ha'
    simp only [beq_iff_eq, beq_eq_false_iff_ne, ne_eq] at h h1 hne
    exact hne (h1.symm.trans h)
  rw [isThere_iff]
  rcases Nat.lt_or_ge j (find fs a) with h1 | h1
  · exact ⟨j, by rw [List.length_eraseIdx, if_pos ha']; omega, by rw [List.getElem_eraseIdx_of_lt (h' := h1)]; exact h⟩
  · exact ⟨j - 1, by rw [List.length_eraseIdx, if_pos ha']; omega, by
      rw [List.getElem_eraseIdx_of_ge (h' := by omega)]
      simp only [show j - 1 + 1 = j by omega]
      exact h⟩

theorem isThere_erases {fs : List Fl} {l : List ByteArray} (h : eachOnce fs l = true) : ∀ (k : Nat) (hk : k < l.length), isThere ((l.take k).foldl (fun fs s => fs.eraseIdx (find fs s)) fs) l[k] = true := by
  have ho := not_once fs l h
  have key : ∀ (m : Nat), m ≤ l.length → ∀ (i : Nat) (hi : i < l.length), m ≤ i → isThere ((l.take m).foldl (fun fs s => fs.eraseIdx (find fs s)) fs) l[i] = true := by
    intro m
    induction m with
    | zero => intro _ i hi _; simpa using (ho i hi hi).1
    | succ m ih =>
      intro hm i hi hmi
      rw [List.take_succ_eq_append_getElem (by omega), List.foldl_append]
      simp only [List.foldl_cons, List.foldl_nil]
      exact isThere_erase (ih (by omega) m (by omega) (Nat.le_refl _)) (ih (by omega) i hi (by omega)) ((ho i hi hi).2 m (by omega))
  intro k hk
  exact key k (by omega) k hk (Nat.le_refl _)
end Go.Proofs.YtbcpcopapbgcdaaGreatDoor.D
