/- Snapshots on a disk, over plain lists: their bytes, their files' names, the newest, a put, a cleaning. Names of snapshots' files, and which snapshot is the newest. What calls on a disk do to its files, one by one. The program's disk in a law's own memory; the document's examples. The document's examples, as law 3's statements begin with them. -/
import Derived.Test.YtbcpcopapbgcdaaGreatDoorSW23
import Derived.Test.YtbcpcopapbgcdaaGreatDoorSW24
import Derived.Test.YtbcpcopapbgcdaaGreatDoorSW11
import Derived.Test.YtbcpcopapbgcdaaGreatDoorSW18
import Derived.Lib.SlBytesConst
/- Part: ShelfPure. -/
namespace Go.Proofs.YtbcpcopapbgcdaaGreatDoor.M
open Go.RowKit
open D (Fl Dk)

/-- A snapshot. -/
structure Sn where
  idx : Int
  term : Int
  conf : List UInt8
  body : List UInt8

def Sn.zero : Sn := ⟨0, 0, [], []⟩

theorem Sn.ext {x y : Sn} (h1 : x.idx = y.idx) (h2 : x.term = y.term) (h3 : x.conf = y.conf) (h4 : x.body = y.body) : x = y := by
  obtain ⟨a, b, c, d⟩ := x
  obtain ⟨a', b', c', d'⟩ := y
  simp only at h1 h2 h3 h4
  subst h1 h2 h3 h4
  rfl

/-- An int as bits. -/
def u64 (n : Int) : Nat := (n % 18446744073709551616).toNat

theorem u64_lt (n : Int) : u64 n < 18446744073709551616 := by unfold u64; omega
theorem u64_nn {n : Int} (h : 0 ≤ n) (h2 : n < 18446744073709551616) : u64 n = n.toNat := by unfold u64; omega

def snForm (x : Sn) : List UInt8 := num (u64 x.idx) ++ (num (u64 x.term) ++ (num x.conf.length ++ (x.conf ++ (num x.body.length ++ x.body))))

def snBytes (x : Sn) : List UInt8 := four (C.sumOf (snForm x)) ++ snForm x

def okSn (m : Int × Int) : Bool := decide (1 ≤ m.1 ∧ m.1 < 10000000000 ∧ 1 ≤ m.2 ∧ m.2 < 10000000000)

/-- Bytes at the front, behind their number. -/
def takeB (b : List UInt8) : Except Int (List UInt8 × List UInt8) :=
  match takeNum b with
  | .error e => .error e
  | .ok (n, r) => if r.length < n then .error 11 else .ok (r.take n, r.drop n)

/-- A form at the front. -/
def snParts (b : List UInt8) : Except Int ((Nat × Nat × List UInt8 × List UInt8) × List UInt8) :=
  match takeNum b with
  | .error e => .error e
  | .ok (x, b1) => match takeNum b1 with
    | .error e => .error e
    | .ok (y, b2) => match takeB b2 with
      | .error e => .error e
      | .ok (c, b3) => match takeB b3 with
        | .error e => .error e
        | .ok (d, b4) => .ok ((x, y, c, d), b4)

def snTake (b : List UInt8) : Except Int Sn :=
  match snParts b with
  | .error e => .error e
  | .ok (_, _ :: _) => .error 12
  | .ok ((x, y, c, d), []) => if 1 ≤ x ∧ x < 10000000000 ∧ 1 ≤ y ∧ y < 10000000000 then .ok ⟨x, y, c, d⟩ else .error 13

def snParse (b : List UInt8) : Except Int Sn :=
  if b.length < 4 then .error 11
  else if b.take 4 ≠ four (C.sumOf (b.drop 4)) then .error 51
  else snTake (b.drop 4)

def snName (i : Int) : ByteArray := ⟨([115, 110, 97, 112, 45] ++ dg 10 i.toNat).toArray⟩

/-- What is aside. -/
def nmNew : ByteArray := ⟨#[115, 110, 97, 112, 45, 110, 101, 119]⟩

/-- A row of digits as a number. -/
def digs (l : List UInt8) : Nat := l.foldl (fun n c => 10 * n + (c.toNat - 48)) 0

def isDig (c : UInt8) : Bool := decide (48 ≤ c.toNat ∧ c.toNat ≤ 57)

/-- The Index that a file's name says. -/
def snIdx (s : ByteArray) : Option Nat :=
  if s.size = 15 ∧ s.data.toList.take 5 = [115, 110, 97, 112, 45] ∧ (s.data.toList.drop 5).all isDig = true then some (digs (s.data.toList.drop 5)) else none

/-- What a file has, if it is whole. -/
def readF (f : Fl) : Option Sn :=
  match snIdx f.nm with
  | none => none
  | some n => match snParse f.b with
    | .error _ => none
    | .ok x => if x.idx = n then some x else none

def newestF (fs : List Fl) : Option Sn := (fs.filterMap readF).getLast?

/-- .. as it is kept: of Index 0, if there is none. -/
def newestS (fs : List Fl) : Sn := (newestF fs).getD Sn.zero

def dropNew (d : Dk) : Int × Dk := if D.isThere d.fs nmNew then D.remove d [nmNew] else (0, d)

def writeF (d : Dk) (nm : ByteArray) (b : List UInt8) : Int × Dk :=
  let s := saveF d nmNew b
  if s.1 ≠ 0 then s else D.rename s.2 nmNew nm

def hasS (top : Sn) (i : Int) : Bool := decide (top.idx ≠ 0 ∧ i ≤ top.idx)

def putS (d : Dk) (top x : Sn) : Int × Dk :=
  if okSn (x.idx, x.term) = false ∨ hasS top x.idx = true then (2, d) else writeF d (snName x.idx) (snBytes x)

def elder (top : Int) (s : ByteArray) : Bool := match snIdx s with
  | none => false
  | some n => decide ((n : Int) < top)

def removeEach (d : Dk) : List ByteArray → Int × Dk
  | [] => (0, d)
  | s :: l =>
    let r := D.remove d [s]
    if r.1 ≠ 0 then r else removeEach r.2 l

def cleanS (d : Dk) (top : Int) : Int × Dk :=
  let r := removeEach d ((d.fs.map (·.nm)).filter (elder top))
  if r.1 ≠ 0 then r else dropNew r.2

/-! There and back. -/

theorem dig_fold : ∀ (k : Nat) (l : List UInt8), l.length ≤ k → l.head? ≠ some 0 → dig k (fold256 l) = l
  | 0, l, h, _ => by
    obtain rfl : l = [] := List.eq_nil_of_length_eq_zero (by omega)
    rfl
  | k + 1, l, h, h0 => by
    rcases List.eq_nil_or_concat l with rfl | ⟨t, c, rfl⟩
    · simp [fold256, dig]
    · simp only [List.concat_eq_append] at h h0 ⊢
      rw [List.length_append, List.length_singleton] at h
      have hc := c.toNat_lt
      have ht : t.head? ≠ some 0 := by
        cases t with
        | nil => simp
        | cons a t => simpa using h0
      have ih := dig_fold k t (by omega) ht
      rw [fold256_snoc, dig]
      have hne : fold256 t * 256 + c.toNat ≠ 0 := by
        intro h1
        have h2 : fold256 t = 0 := by omega
        have h3 : c.toNat = 0 := by omega
        rw [h2] at ih
        have h4 : t = [] := by rw [← ih]; cases k <;> simp [dig]
        rw [h4] at h0
        apply h0
        simp only [List.nil_append, List.head?_cons, Option.some.injEq]
        exact UInt8.toNat_inj.1 (by rw [h3]; rfl)
      rw [if_neg hne, show (fold256 t * 256 + c.toNat) / 256 = fold256 t by omega, show (fold256 t * 256 + c.toNat) % 256 = c.toNat by omega, ih]
      simp

/-- A number that is read off bytes stands there in its form. -/
theorem takeNum_inv {b r : List UInt8} {n : Nat} (h : takeNum b = .ok (n, r)) : b = num n ++ r := by
  cases b with
  | nil => rw [takeNum] at h; cases h
  | cons c b =>
    rw [takeNum] at h
    split at h
    · cases h
    · rename_i h1
      split at h
      · cases h
      · rename_i h2
        split at h
        · cases h
        · rename_i h3
          simp only [Except.ok.injEq, Prod.mk.injEq] at h
          obtain ⟨rfl, rfl⟩ := h
          have hd := dig_fold 8 (b.take c.toNat) (by rw [List.length_take]; omega) (by
            rw [List.head?_take]
            split
            · simp
            · intro h4
              exact h2 ⟨by omega, h4⟩)
          have hf : (b.take c.toNat).foldl (fun n d => n * 256 + d.toNat) 0 = fold256 (b.take c.toNat) := rfl
          rw [hf, num, hd, List.length_take, Nat.min_eq_left (by omega)]
          simp

theorem takeB_inv {b r c : List UInt8} (h : takeB b = .ok (c, r)) : b = num c.length ++ (c ++ r) := by
  unfold takeB at h
  cases h1 : takeNum b with
  | error e => rw [h1] at h; cases h
  | ok p =>
    obtain ⟨n, q⟩ := p
    rw [h1] at h
    simp only at h
    split at h
    · cases h
    · rename_i h2
      simp only [Except.ok.injEq, Prod.mk.injEq] at h
      obtain ⟨rfl, rfl⟩ := h
      rw [takeNum_inv h1, List.length_take, Nat.min_eq_left (by omega), List.take_append_drop]

theorem takeB_form {c r : List UInt8} (h : c.length < 18446744073709551616) : takeB (num c.length ++ (c ++ r)) = .ok (c, r) := by
  unfold takeB
  rw [take_num _ _ h]
  simp only
  rw [if_neg (by simp), List.take_left, List.drop_left]

theorem snParts_form (x y : Nat) (c d r : List UInt8) (hx : x < 18446744073709551616) (hy : y < 18446744073709551616) (hc : c.length < 18446744073709551616) (hd : d.length < 18446744073709551616) :
    snParts (num x ++ (num y ++ (num c.length ++ (c ++ (num d.length ++ (d ++ r)))))) = .ok ((x, y, c, d), r) := by
  unfold snParts
  rw [take_num x _ hx]
  simp only
  rw [take_num y _ hy]
  simp only
  rw [takeB_form hc]
  simp only
  rw [takeB_form hd]

theorem snParts_inv {b r : List UInt8} {x y : Nat} {c d : List UInt8} (h : snParts b = .ok ((x, y, c, d), r)) : b = num x ++ (num y ++ (num c.length ++ (c ++ (num d.length ++ (d ++ r))))) := by
  unfold snParts at h
  cases h1 : takeNum b with
  | error e => rw [h1] at h; cases h
  | ok p =>
    obtain ⟨x', b1⟩ := p
    rw [h1] at h
    simp only at h
    cases h2 : takeNum b1 with
    | error e => rw [h2] at h; cases h
    | ok p =>
      obtain ⟨y', b2⟩ := p
      rw [h2] at h
      simp only at h
      cases h3 : takeB b2 with
      | error e => rw [h3] at h; cases h
      | ok p =>
        obtain ⟨c', b3⟩ := p
        rw [h3] at h
        simp only at h
        cases h4 : takeB b3 with
        | error e => rw [h4] at h; cases h
        | ok p =>
          obtain ⟨d', b4⟩ := p
          rw [h4] at h
          simp only [Except.ok.injEq, Prod.mk.injEq] at h
          obtain ⟨⟨rfl, rfl, rfl, rfl⟩, rfl⟩ := h
          rw [takeNum_inv h1, takeNum_inv h2, takeB_inv h3, takeB_inv h4]

theorem snTake_inv {b : List UInt8} {x : Sn} (h : snTake b = .ok x) : b = snForm x ∧ okSn (x.idx, x.term) = true := by
  unfold snTake at h
  cases h1 : snParts b with
  | error e => rw [h1] at h; cases h
  | ok p =>
    obtain ⟨⟨i, t, c, d⟩, r⟩ := p
    rw [h1] at h
    cases r with
    | cons a r => cases h
    | nil =>
      simp only at h
      split at h
      · rename_i h2
        cases h
        refine ⟨?_, by unfold okSn; simp; omega⟩
        have h3 := snParts_inv h1
        rw [List.append_nil] at h3
        rw [h3]
        unfold snForm
        simp only
        rw [u64_nn (by omega) (by omega), u64_nn (by omega) (by omega)]
        rfl
      · cases h

/-- What is read off bytes has these bytes. -/
theorem snParse_inv {b : List UInt8} {x : Sn} (h : snParse b = .ok x) : b = snBytes x ∧ okSn (x.idx, x.term) = true := by
  unfold snParse at h
  split at h
  · cases h
  · split at h
    · cases h
    · rename_i h1 h2
      obtain ⟨h3, h4⟩ := snTake_inv h
      refine ⟨?_, h4⟩
      unfold snBytes
      rw [← h3]
      have h5 : b.take 4 = four (C.sumOf (b.drop 4)) := by
        simp only [ne_eq, Decidable.not_not] at h2
        exact h2
      rw [← h5, List.take_append_drop]

theorem okSn_iff {m : Int × Int} : okSn m = true ↔ 1 ≤ m.1 ∧ m.1 < 10000000000 ∧ 1 ≤ m.2 ∧ m.2 < 10000000000 := by unfold okSn; exact decide_eq_true_iff

/-- A snapshot's bytes are the snapshot's. -/
theorem snParse_back {x : Sn} (h : okSn (x.idx, x.term) = true) (hc : x.conf.length < 18446744073709551616) (hb : x.body.length < 18446744073709551616) : snParse (snBytes x) = .ok x := by
  have h := okSn_iff.1 h
  simp only at h
  have e4 : (snBytes x).drop 4 = snForm x := List.drop_left' rfl
  have e5 : (snBytes x).take 4 = four (C.sumOf (snForm x)) := List.take_left' rfl
  have e6 : snParts (snForm x) = .ok ((u64 x.idx, u64 x.term, x.conf, x.body), []) := by
    have := snParts_form (u64 x.idx) (u64 x.term) x.conf x.body [] (u64_lt _) (u64_lt _) hc hb
    rw [List.append_nil] at this
    exact this
  unfold snParse
  rw [if_neg (by unfold snBytes; rw [List.length_append, four_length]; omega), e4, e5, if_neg (by simp)]
  unfold snTake
  rw [e6]
  simp only
  have h1 := u64_nn (n := x.idx) (by omega) (by omega)
  have h2 := u64_nn (n := x.term) (by omega) (by omega)
  rw [h1, h2, if_pos (by omega)]
  congr 1
  exact Sn.ext (by simp only; omega) (by simp only; omega) rfl rfl

theorem snBytes_le (x : Sn) : (snBytes x).length ≤ 40 + (x.conf.length + x.body.length) := by
  unfold snBytes snForm
  have h1 := num_le (u64 x.idx)
  have h2 := num_le (u64 x.term)
  have h3 := num_le x.conf.length
  have h4 := num_le x.body.length
  simp only [List.length_append, four_length]
  omega

theorem snBytes_ge (x : Sn) : 4 ≤ (snBytes x).length := by
  unfold snBytes
  rw [List.length_append, four_length]; omega
end Go.Proofs.YtbcpcopapbgcdaaGreatDoor.M

/- Part: ShelfName. -/
namespace Go.Proofs.YtbcpcopapbgcdaaGreatDoor.M
open Go.RowKit
open D (Fl Dk)

theorem digs_snoc (l : List UInt8) (c : UInt8) : digs (l ++ [c]) = 10 * digs l + (c.toNat - 48) := by simp [digs]

theorem digs_dg : ∀ (k n : Nat), n < 10 ^ k → digs (dg k n) = n
  | 0, n, h => by
    obtain rfl : n = 0 := by simpa using h
    rfl
  | k + 1, n, h => by
    rw [dg, digs_snoc, digs_dg k (n / 10) (by rw [Nat.pow_succ] at h; omega)]
    simp only [UInt8.toNat_ofNat']
    omega

theorem dg_isDig : ∀ (k n : Nat), (dg k n).all isDig = true
  | 0, _ => rfl
  | k + 1, n => by
    rw [dg, List.all_append, dg_isDig k]
    simp only [List.all_cons, List.all_nil, Bool.and_true, Bool.true_and]
    unfold isDig
    apply decide_eq_true
    simp only [UInt8.toNat_ofNat']
    omega

/-- Digits, as many as one likes, are those of their number. -/
theorem dg_digs : ∀ (k : Nat) (l : List UInt8), l.length = k → l.all isDig = true → dg k (digs l) = l ∧ digs l < 10 ^ k
  | 0, l, h, _ => by
    obtain rfl : l = [] := List.eq_nil_of_length_eq_zero h
    exact ⟨rfl, by decide⟩
  | k + 1, l, h, hd => by
    rcases List.eq_nil_or_concat l with rfl | ⟨t, c, rfl⟩
    · simp at h
    · simp only [List.concat_eq_append] at h hd ⊢
      rw [List.length_append, List.length_singleton] at h
      rw [List.all_append, Bool.and_eq_true] at hd
      obtain ⟨h1, h2⟩ := dg_digs k t (by omega) hd.1
      have h3 : isDig c = true := by simpa using hd.2
      unfold isDig at h3
      have h3 := of_decide_eq_true h3
      rw [digs_snoc, dg, show (10 * digs t + (c.toNat - 48)) / 10 = digs t by omega, h1, show 48 + (10 * digs t + (c.toNat - 48)) % 10 = c.toNat by omega]
      refine ⟨by simp, ?_⟩
      rw [Nat.pow_succ]; omega

theorem snName_data (i : Int) : (snName i).data.toList = [115, 110, 97, 112, 45] ++ dg 10 i.toNat := by
  unfold snName; simp

theorem snName_size (i : Int) : (snName i).size = 15 := by
  have := congrArg List.length (snName_data i)
  rw [List.length_append, dg_length] at this
  show (snName i).data.size = 15
  simpa using this

theorem snIdx_name {i : Int} (h0 : 0 ≤ i) (h1 : i < 10000000000) : snIdx (snName i) = some i.toNat := by
  unfold snIdx
  have e1 : (snName i).data.toList.take 5 = [115, 110, 97, 112, 45] := by rw [snName_data]; exact List.take_left' rfl
  have e2 : (snName i).data.toList.drop 5 = dg 10 i.toNat := by rw [snName_data]; exact List.drop_left' rfl
  rw [e1, e2, if_pos ⟨snName_size i, rfl, dg_isDig _ _⟩, digs_dg 10 i.toNat (by omega)]

theorem snIdx_inv {s : ByteArray} {n : Nat} (h : snIdx s = some n) : n < 10000000000 ∧ s = snName n := by
  unfold snIdx at h
  split at h
  · rename_i h1
    obtain ⟨h1, h2, h3⟩ := h1
    have h4 := dg_digs 10 (s.data.toList.drop 5) (by rw [List.length_drop]; show s.size - 5 = 10; omega) h3
    cases h
    refine ⟨h4.2, ?_⟩
    have h5 : s.data.toList = (snName ((digs (s.data.toList.drop 5) : Nat) : Int)).data.toList := by
      rw [snName_data, Int.toNat_natCast, h4.1, ← h2, List.take_append_drop]
    apply D.nm_ext
    rw [D.toList_data, D.toList_data]
    exact h5
  · cases h

theorem snIdx_new : snIdx nmNew = none := by decide +kernel

theorem new_ne {s : ByteArray} {n : Nat} (h : snIdx s = some n) : s ≠ nmNew := by
  rintro rfl
  rw [snIdx_new] at h; cases h

theorem snIdx_inj {s t : ByteArray} {n : Nat} (h : snIdx s = some n) (g : snIdx t = some n) : s = t := by
  rw [(snIdx_inv h).2, (snIdx_inv g).2]

theorem isDig_ok {c : UInt8} (h : isDig c = true) : D.okByte c = true := by
  rw [D.okByte_iff]
  unfold isDig at h
  have := of_decide_eq_true h
  omega

theorem snName_ok (i : Int) : D.okName (snName i) = true := by
  unfold D.okName
  rw [snName_data, snName_size, List.all_append, Bool.and_eq_true, Bool.and_eq_true]
  refine ⟨⟨by decide +kernel, ?_⟩, by decide⟩
  rw [List.all_eq_true]
  intro c hc
  exact isDig_ok (List.all_eq_true.1 (dg_isDig 10 i.toNat) c hc)

theorem nmNew_ok : D.okName nmNew = true := by decide +kernel

/-- Of rows with as many digits the lesser number's is ahead. -/
theorem digs_lt : ∀ (a b : List UInt8), a.length = b.length → a.all isDig = true → b.all isDig = true → a < b → digs a < digs b := by
  -- over the first digits
  have key : ∀ (a b : List UInt8) (m n : Nat), a.length = b.length → a.all isDig = true → b.all isDig = true → (m < n ∨ (m = n ∧ a < b)) →
      a.foldl (fun n c => 10 * n + (c.toNat - 48)) m < b.foldl (fun n c => 10 * n + (c.toNat - 48)) n := by
    intro a
    induction a with
    | nil =>
      intro b m n hl _ _ h
      obtain rfl : b = [] := List.eq_nil_of_length_eq_zero hl.symm
      rcases h with h | ⟨_, h⟩
      · exact h
      · exact absurd h (List.lt_irrefl _)
    | cons x a ih =>
      intro b m n hl ha hb h
      cases b with
      | nil => simp at hl
      | cons y b =>
        simp only [List.length_cons, Nat.add_right_cancel_iff] at hl
        rw [List.all_cons, Bool.and_eq_true] at ha hb
        have hx : isDig x = true := ha.1
        have hy : isDig y = true := hb.1
        unfold isDig at hx hy
        have hx := of_decide_eq_true hx
        have hy := of_decide_eq_true hy
        rw [List.foldl_cons, List.foldl_cons]
        apply ih b _ _ hl ha.2 hb.2
        rcases h with h | ⟨rfl, h⟩
        · left; omega
        · rw [List.cons_lt_cons_iff] at h
          rcases h with h | ⟨rfl, h⟩
          · left
            have := UInt8.lt_iff_toNat_lt.1 h
            omega
          · exact .inr ⟨rfl, h⟩
  intro a b hl ha hb h
  exact key a b 0 0 hl ha hb (.inr ⟨rfl, h⟩)

theorem snIdx_lt {s t : ByteArray} {m n : Nat} (hs : snIdx s = some m) (ht : snIdx t = some n) (h : s.toList < t.toList) : m < n := by
  obtain ⟨h1, h2⟩ := snIdx_inv hs
  obtain ⟨h3, h4⟩ := snIdx_inv ht
  rw [D.toList_data, D.toList_data, h2, h4, snName_data, snName_data] at h
  have h5 : dg 10 m < dg 10 n := by
    rw [Int.toNat_natCast, Int.toNat_natCast] at h
    simpa [List.cons_lt_cons_iff] using h
  have h6 := digs_lt _ _ (by rw [dg_length, dg_length]) (dg_isDig _ _) (dg_isDig _ _) h5
  rwa [digs_dg 10 m h1, digs_dg 10 n h3] at h6

theorem readF_some {f : Fl} {x : Sn} (h : readF f = some x) : ∃ n, snIdx f.nm = some n ∧ x.idx = n ∧ snParse f.b = .ok x := by
  unfold readF at h
  cases h1 : snIdx f.nm with
  | none => rw [h1] at h; cases h
  | some n =>
    rw [h1] at h
    simp only at h
    cases h2 : snParse f.b with
    | error e => rw [h2] at h; cases h
    | ok y =>
      rw [h2] at h
      simp only at h
      split at h
      · rename_i h3
        cases h
        exact ⟨n, rfl, h3, rfl⟩
      · cases h

theorem readF_of {f : Fl} {x : Sn} {n : Nat} (h1 : snIdx f.nm = some n) (h2 : x.idx = n) (h3 : snParse f.b = .ok x) : readF f = some x := by
  unfold readF
  rw [h1]
  simp only
  rw [h3]
  simp only
  rw [if_pos h2]

theorem readF_new {f : Fl} (h : f.nm = nmNew) : readF f = none := by
  unfold readF
  rw [h, snIdx_new]

theorem read_rising {fs : List Fl} (h : D.Rising fs) : (fs.filterMap readF).Pairwise fun x y => x.idx < y.idx := by
  refine List.Pairwise.filterMap readF (fun a a' hlt b hb b' hb' => ?_) h
  obtain ⟨m, h1, h2, -⟩ := readF_some hb
  obtain ⟨n, h3, h4, -⟩ := readF_some hb'
  have := snIdx_lt h1 h3 hlt
  omega

/-- The newest is the whole one with the greatest Index. -/
theorem newest_iff {fs : List Fl} (h : D.Rising fs) (x : Sn) : newestF fs = some x ↔ (∃ f ∈ fs, readF f = some x) ∧ ∀ f ∈ fs, ∀ y, readF f = some y → y.idx ≤ x.idx := by
  have hp := read_rising h
  unfold newestF
  have hm : ∀ y, y ∈ fs.filterMap readF ↔ ∃ f ∈ fs, readF f = some y := fun y => List.mem_filterMap
  obtain ⟨l, hl⟩ : ∃ l, l = fs.filterMap readF := ⟨_, rfl⟩
  rw [← hl] at hp hm ⊢
  constructor
  · intro h1
    obtain ⟨t, rfl⟩ : ∃ t, l = t ++ [x] := by
      rw [List.getLast?_eq_some_iff] at h1
      exact h1
    refine ⟨(hm x).1 (by simp), fun f hf y hy => ?_⟩
    have h2 := (hm y).2 ⟨f, hf, hy⟩
    rw [List.mem_append] at h2
    rcases h2 with h2 | h2
    · have := (List.pairwise_append.1 hp).2.2 y h2 x (by simp)
      omega
    · have h3 : y = x := by simpa using h2
      rw [h3]
      exact Int.le_refl _
  · rintro ⟨⟨f, hf, h1⟩, h2⟩
    have h3 : x ∈ l := (hm x).2 ⟨f, hf, h1⟩
    rcases List.eq_nil_or_concat l with h4 | ⟨t, c, h4⟩
    · rw [h4] at h3; cases h3
    · simp only [List.concat_eq_append] at h4
      subst h4
      rw [List.mem_append] at h3
      rcases h3 with h3 | h3
      · have h5 := (List.pairwise_append.1 hp).2.2 x h3 c (by simp)
        obtain ⟨g, hg, h6⟩ := (hm c).1 (by simp)
        have := h2 g hg c h6
        omega
      · have h3 : x = c := by simpa using h3
        rw [h3]
        simp

theorem newest_none {fs : List Fl} : newestF fs = none ↔ ∀ f ∈ fs, readF f = none := by
  unfold newestF
  rw [List.getLast?_eq_none_iff, List.filterMap_eq_nil_iff]

theorem newest_ok {fs : List Fl} {x : Sn} (h : newestF fs = some x) : okSn (x.idx, x.term) = true := by
  unfold newestF at h
  obtain ⟨t, h1⟩ := List.getLast?_eq_some_iff.1 h
  obtain ⟨f, -, h2⟩ := List.mem_filterMap.1 (show x ∈ fs.filterMap readF by rw [h1]; simp)
  obtain ⟨n, -, -, h3⟩ := readF_some h2
  exact (snParse_inv h3).2

theorem newestS_none {fs : List Fl} : (newestS fs).idx = 0 ↔ newestF fs = none := by
  unfold newestS
  constructor
  · intro h
    cases h1 : newestF fs with
    | none => rfl
    | some x =>
      rw [h1] at h
      have := okSn_iff.1 (newest_ok h1)
      simp only [Option.getD_some] at h
      omega
  · intro h
    rw [h]; rfl
end Go.Proofs.YtbcpcopapbgcdaaGreatDoor.M

/- Part: ShelfMem. -/
namespace Go.Proofs.YtbcpcopapbgcdaaGreatDoor.M
open Go.RowKit
open D (Fl Dk)

theorem tickS_room (d : Dk) : d.tick.room = d.room := by unfold D.Dk.tick; split <;> rfl
theorem tickS_fs (d : Dk) : d.tick.fs = d.fs := by unfold D.Dk.tick; split <;> rfl
theorem tickS_ends (d : Dk) : d.tick.ends = d.ends := by unfold D.Dk.tick; split <;> rfl
theorem free_stopped {d : Dk} (h : d.ends = false) : d.stopped = false := by unfold D.Dk.stopped; rw [h]; rfl

theorem mem_modify_iff {fs : List Fl} (h : D.Rising fs) {s : ByteArray} {g : Fl → Fl} {f : Fl} :
    f ∈ fs.modify (D.find fs s) g ↔ (f ∈ fs ∧ f.nm ≠ s) ∨ ∃ f0 ∈ fs, f0.nm = s ∧ f = g f0 := by
  constructor
  · exact D.mem_modify h
  · intro h1
    rw [List.mem_iff_getElem]
    rcases h1 with ⟨h1, h2⟩ | ⟨f0, h1, h2, rfl⟩
    · obtain ⟨i, hi, rfl⟩ := List.mem_iff_getElem.1 h1
      refine ⟨i, by rw [List.length_modify]; exact hi, ?_⟩
      rw [List.getElem_modify, if_neg]
      intro e
      apply h2
      have hi2 : D.find fs s < fs.length := by omega
      have := D.find_nm hi2
      simp only [← e]
      exact this
    · obtain ⟨i, hi, rfl⟩ := List.mem_iff_getElem.1 h1
      refine ⟨i, by rw [List.length_modify]; exact hi, ?_⟩
      rw [List.getElem_modify, if_pos (h.find_eq hi h2)]

/-- A file is taken away. -/
theorem remove1 {d : Dk} (hr : D.Rising d.fs) {s : ByteArray} (hs : D.isThere d.fs s = true) :
    (d.stopped = true ∧ D.remove d [s] = (32, d)) ∨ (d.stopped = false ∧ ∃ d', D.remove d [s] = (0, d') ∧ d'.room = d.room ∧ d'.ends = d.ends ∧ (∀ f, f ∈ d'.fs ↔ f ∈ d.fs ∧ f.nm ≠ s) ∧ d'.fs.length + 1 = d.fs.length) := by
  unfold D.remove
  cases hst : d.stopped with
  | true => exact .inl ⟨rfl, by simp⟩
  | false =>
    refine .inr ⟨rfl, { d.tick with fs := d.fs.eraseIdx (D.find d.fs s) }, ?_, tickS_room d, tickS_ends d, fun f => D.mem_erase hr, ?_⟩
    · simp only [Bool.false_eq_true, if_false, tickS_fs]
      rw [if_neg (by simp [D.eachOnce, hs])]
      simp
    · simp only
      rw [List.length_eraseIdx, if_pos (D.find_lt hs)]
      have := D.find_lt hs
      omega

/-- Bytes in a new file. -/
theorem append1 {d : Dk} (hr : D.Rising d.fs) {s : ByteArray} {b : List UInt8} (hs : D.isThere d.fs s = false) (hn : D.okName s = true) (hf : ((D.used d.fs + b.length : Nat) : Int) ≤ d.room) (hl : d.fs.length < 4096) :
    (d.stopped = true ∧ D.append d s [b] = (32, d)) ∨ (d.stopped = false ∧ ∃ d', D.append d s [b] = (0, d') ∧ d'.room = d.room ∧ d'.ends = d.ends ∧ (∀ f, f ∈ d'.fs ↔ f ∈ d.fs ∨ f = ⟨s, b, 0⟩) ∧ d'.fs.length = d.fs.length + 1) := by
  unfold D.append
  cases hst : d.stopped with
  | true => exact .inl ⟨rfl, by simp⟩
  | false =>
    have hnot := D.isThere_not.1 hs
    have hr2 : D.Rising (D.add d.fs ⟨s, [], 0⟩) := hr.add hnot
    refine .inr ⟨rfl, { d.tick with fs := D.layAt (D.add d.fs ⟨s, [], 0⟩) (D.find (D.add d.fs ⟨s, [], 0⟩) s) b }, ?_, tickS_room d, tickS_ends d, fun f => ?_, ?_⟩
    · simp only [Bool.false_eq_true, if_false]
      rw [if_neg (by rw [hn]; simp), if_neg (by
        unfold D.Dk.free
        rw [tickS_room, tickS_fs, hs]
        simp
        omega)]
      simp only [tickS_fs, hs, Bool.false_eq_true, if_false]
      simp
    · simp only [D.layAt]
      rw [mem_modify_iff hr2]
      constructor
      · rintro (⟨h1, h2⟩ | ⟨f0, h1, h2, rfl⟩)
        · rcases D.mem_add.1 h1 with h1 | h1
          · exact absurd (by rw [h1]) h2
          · exact .inl h1
        · rcases D.mem_add.1 h1 with h1 | h1
          · rw [h1]; exact .inr (by simp)
          · exact absurd h2 (hnot f0 h1)
      · rintro (h1 | rfl)
        · exact .inl ⟨D.mem_add.2 (.inr h1), hnot f h1⟩
        · exact .inr ⟨⟨s, [], 0⟩, D.mem_add.2 (.inl rfl), rfl, by simp⟩
    · simp only [D.layAt]
      rw [List.length_modify, D.length_add]

/-- A file is made safe. -/
theorem sync1 {d : Dk} (hr : D.Rising d.fs) {s : ByteArray} (hs : D.isThere d.fs s = true) :
    (d.stopped = true ∧ D.sync d [s] = (32, d)) ∨ (d.stopped = false ∧ ∃ d', D.sync d [s] = (0, d') ∧ d'.room = d.room ∧ d'.ends = d.ends ∧ (∀ f, f ∈ d'.fs ↔ (f ∈ d.fs ∧ f.nm ≠ s) ∨ ∃ g ∈ d.fs, g.nm = s ∧ f = { g with safe := g.b.length }) ∧ d'.fs.length = d.fs.length) := by
  unfold D.sync
  cases hst : d.stopped with
  | true => exact .inl ⟨rfl, by simp⟩
  | false =>
    refine .inr ⟨rfl, { d.tick with fs := D.syncAt d.fs (D.find d.fs s) }, ?_, tickS_room d, tickS_ends d, fun f => mem_modify_iff hr, ?_⟩
    · simp only [Bool.false_eq_true, if_false, tickS_fs]
      rw [if_neg (by simp [hs])]
      simp
    · simp only [D.syncAt]
      rw [List.length_modify]

/-- A file has another name. -/
theorem rename1 {d : Dk} (hr : D.Rising d.fs) {a b : ByteArray} (hs : D.isThere d.fs a = true) (hb : D.okName b = true) (hab : a ≠ b) :
    (d.stopped = true ∧ D.rename d a b = (32, d)) ∨ (d.stopped = false ∧ ∃ d', D.rename d a b = (0, d') ∧ d'.room = d.room ∧ d'.ends = d.ends ∧ (∀ f, f ∈ d'.fs ↔ (f ∈ d.fs ∧ f.nm ≠ a ∧ f.nm ≠ b) ∨ ∃ g ∈ d.fs, g.nm = a ∧ f = { g with nm := b }) ∧ d'.fs.length ≤ d.fs.length) := by
  unfold D.rename
  cases hst : d.stopped with
  | true => exact .inl ⟨rfl, by simp⟩
  | false =>
    have hlt := D.find_lt hs
    have hnm := D.find_nm hlt
    refine .inr ⟨rfl, { d.tick with fs := D.add ((d.fs.eraseIdx (D.find d.fs a)).eraseIdx (D.find (d.fs.eraseIdx (D.find d.fs a)) b)) { d.fs[D.find d.fs a] with nm := b } }, ?_, tickS_room d, tickS_ends d, fun f => ?_, ?_⟩
    · simp only [Bool.false_eq_true, if_false, tickS_fs]
      rw [if_neg (by simp [hs, hb]), List.getElem?_eq_getElem hlt]
    · simp only
      rw [D.mem_add, D.mem_erase (hr.erase _), D.mem_erase hr]
      constructor
      · rintro (rfl | ⟨⟨h1, h2⟩, h3⟩)
        · exact .inr ⟨_, List.getElem_mem hlt, hnm, rfl⟩
        · exact .inl ⟨h1, h2, h3⟩
      · rintro (⟨h1, h2, h3⟩ | ⟨g, h1, h2, rfl⟩)
        · exact .inr ⟨⟨h1, h2⟩, h3⟩
        · left
          rw [hr.uniq h1 (List.getElem_mem hlt) (by rw [h2, hnm])]
    · simp only
      rw [D.length_add]
      have h1 : ((d.fs.eraseIdx (D.find d.fs a)).eraseIdx (D.find (d.fs.eraseIdx (D.find d.fs a)) b)).length ≤ (d.fs.eraseIdx (D.find d.fs a)).length := (List.eraseIdx_sublist ..).length_le
      rw [List.length_eraseIdx (i := D.find d.fs a), if_pos hlt] at h1
      omega

/-- What is whole of a file's names is found by them alone. -/
theorem newest_congr {fs gs : List Fl} (hf : D.Rising fs) (hg : D.Rising gs) (h : ∀ f, readF f ≠ none → (f ∈ fs ↔ f ∈ gs)) : newestF fs = newestF gs := by
  cases h1 : newestF gs with
  | none =>
    rw [newest_none] at h1 ⊢
    intro f hf2
    cases h2 : readF f with
    | none => rfl
    | some x =>
      rw [h1 f ((h f (by rw [h2]; simp)).1 hf2)] at h2
      cases h2
  | some x =>
    rw [newest_iff hg] at h1
    rw [newest_iff hf]
    obtain ⟨⟨f, h2, h3⟩, h4⟩ := h1
    refine ⟨⟨f, (h f (by rw [h3]; simp)).2 h2, h3⟩, fun g hg2 y hy => h4 g ((h g (by rw [hy]; simp)).1 hg2) y hy⟩

theorem crashFs_mem : ∀ {fs : List Fl} {ks : List Int} {f : Fl}, f ∈ D.crashFs fs ks → ∃ g ∈ fs, ∃ k : Option Int, f = { g with b := g.b.take (D.stays g k), safe := D.stays g k }
  | [], _, _, h => by cases h
  | x :: fs, ks, f, h => by
    rw [D.crashFs, List.mem_cons] at h
    rcases h with rfl | h
    · exact ⟨x, by simp, _, rfl⟩
    · obtain ⟨g, h1, k, h2⟩ := crashFs_mem h
      exact ⟨g, by simp [h1], k, h2⟩

theorem stays_safe {g : Fl} (h : g.safe = g.b.length) (k : Option Int) : ({ g with b := g.b.take (D.stays g k), safe := D.stays g k } : Fl) = g := by
  have h1 : D.stays g k = g.b.length := by
    unfold D.stays
    split
    · exact h
    · split
      · omega
      · exact h
  rw [h1, List.take_length, ← h]

theorem mem_crashFs : ∀ {fs : List Fl} {ks : List Int} {g : Fl}, g ∈ fs → g.safe = g.b.length → g ∈ D.crashFs fs ks
  | [], _, _, h, _ => by cases h
  | x :: fs, ks, g, h, hs => by
    rw [D.crashFs, List.mem_cons]
    rw [List.mem_cons] at h
    rcases h with rfl | h
    · left
      rw [stays_safe hs]
    · exact .inr (mem_crashFs h hs)

theorem crashFsS_length : ∀ (fs : List Fl) (ks : List Int), (D.crashFs fs ks).length = fs.length
  | [], _ => rfl
  | _ :: fs, ks => by rw [D.crashFs, List.length_cons, List.length_cons, crashFsS_length fs]

theorem crashFs_names : ∀ (fs : List Fl) (ks : List Int) (i : Nat) (h1 : i < fs.length) (h2 : i < (D.crashFs fs ks).length), ((D.crashFs fs ks)[i]).nm = fs[i].nm
  | [], _, i, h1, _ => by simp at h1
  | f :: fs, ks, 0, _, _ => rfl
  | f :: fs, ks, i + 1, h1, h2 => by
    have := crashFs_names fs ks.tail i (by simpa using h1) (by simpa [D.crashFs] using h2)
    simpa [D.crashFs] using this

theorem dropNew_well' {d : Dk} (h : Well d) : Well (dropNew d).2 ∧ D.used (dropNew d).2.fs ≤ D.used d.fs := by
  unfold dropNew
  split
  · exact remove_well h [nmNew]
  · exact ⟨h, Nat.le_refl _⟩

theorem used_bound {fs : List Fl} {m : Nat} (h : ∀ f ∈ fs, f.b.length ≤ m) : D.used fs ≤ m * fs.length := by
  induction fs with
  | nil => simp [D.used]
  | cons f fs ih =>
    rw [D.used_cons, List.length_cons, Nat.mul_succ]
    have h1 := h f (by simp)
    have h2 := ih fun g hg => h g (by simp [hg])
    omega
end Go.Proofs.YtbcpcopapbgcdaaGreatDoor.M

/- Part: DiskLaw. -/
namespace Go.Proofs.YtbcpcopapbgcdaaGreatDoor.M
open Go.RowKit Go.Maps
open D (Fl Dk)

/-- A disk that a call has made, since the world w. -/
structure DS (w : World) (X : Nat → Prop) (gd : Nat) (d : Dk) (wr : World) : Prop where
  below : Below w.heap.size w wr
  own : ∀ k, X k → w.heap.size ≤ k
  dsk : PDskIn wr X gd d
  well : Well d

theorem PDskIn.next {w w' : World} {X : Nat → Prop} {gd : Nat} {d : Dk} (h : PDskIn w X gd d) (hb : Below w.heap.size w w') : PDskIn w' X gd d := ⟨h.1.same (fun _ h => h) fun k hk => hb.block k (h.2 k hk), fun k hk => Nat.lt_of_lt_of_le (h.2 k hk) hb.size⟩

theorem DS.next {w wr w' : World} {X : Nat → Prop} {gd : Nat} {d : Dk} (h : DS w X gd d wr) (hb : Below wr.heap.size wr w') : DS w X gd d w' :=
  ⟨h.below.trans (hb.mono h.below.size), h.own, h.dsk.next hb, h.well⟩

theorem DS.alloc {w wr : World} {X : Nat → Prop} {gd : Nat} {d : Dk} (h : DS w X gd d wr) (o : Obj) : DS w X gd d (wr.alloc o) := h.next (below_alloc _ _)

theorem DS.lt {w wr : World} {X : Nat → Prop} {gd : Nat} {d : Dk} (h : DS w X gd d wr) : ∀ k, X k → k < wr.heap.size := h.dsk.2

/-- Behind a call on it. -/
theorem DS.call {w wr w' : World} {X : Nat → Prop} {gd : Nat} {d : Dk} {r : Int × Dk} {e : Ending} (h : DS w X gd d wr) (hp : PPost wr X gd r e w') (hw : Well r.2) : DS w (More X wr w') gd r.2 w' := by
  obtain ⟨-, ho, hd⟩ := hp
  refine ⟨⟨ho.os.trans h.below.os, ho.tape.trans h.below.tape, ho.output.trans h.below.output, Nat.le_trans h.below.size ho.size, fun k hk => ?_⟩, fun k hk => ?_, ⟨hd, fun k hk => ?_⟩, hw⟩
  · rw [ho.block k (Nat.lt_of_lt_of_le hk h.below.size) fun hx => by have := h.own k hx; omega]
    exact h.below.block k hk
  · rcases hk with hk | hk
    · exact h.own k hk
    · exact Nat.le_trans h.below.size hk.1
  · rcases hk with hk | hk
    · exact Nat.lt_of_lt_of_le (h.lt k hk) ho.size
    · exact hk.2

/-- What a call on it leaves. -/
def DPost (w : World) (X : Nat → Prop) (gd : Nat) (wr : World) (r : Int × Dk) (e : Ending) (w' : World) : Prop :=
  e = .returned (.int .i64 r.1) ∧ Only X wr w' ∧ ∃ X', (∀ k, X' k → X k ∨ wr.heap.size ≤ k) ∧ DS w X' gd r.2 w'

theorem DS.post {w wr w' : World} {X : Nat → Prop} {gd : Nat} {d : Dk} {r : Int × Dk} {e : Ending} (h : DS w X gd d wr) (hw : Well r.2) (hp : PPost wr X gd r e w') : DPost w X gd wr r e w' :=
  ⟨hp.1, hp.2.1, _, fun k hk => by
    rcases hk with hk | hk
    · exact .inl hk
    · exact .inr hk.1, h.call hp hw⟩

section
variable {w : World} {X : Nat → Prop} {gd : Nat} {d : Dk} {wr : World} (h : DS w X gd d wr)
include h

theorem DAppend (s : ByteArray) (bs : List (List UInt8)) (F : Nat → Prop) (vb : Value) (hs : s.size ≤ 9223372036854775807) (hv : RepBl wr F bs vb) (hF : ∀ k, F k → k < wr.heap.size ∧ ¬ X k) (hu : D.used d.fs + bs.flatten.length ≤ 1099511627776) :
    Calls Tryz.prog 35 #[.pointer (some ⟨gd, 0, none⟩), .string s, vb] wr (DPost w X gd wr (D.append d s bs)) :=
  (PAppend_any d X gd s bs F vb wr h.dsk h.well.1 hs hv hF hu).mono fun _ _ hp => h.post (append_well h.well s bs).1 hp

theorem DSync (names : List ByteArray) (F : Nat → Prop) (vn : Value) (hs : ∀ s ∈ names, s.size ≤ 9223372036854775807) (hv : RepSl wr F names vn) (hF : ∀ k, F k → k < wr.heap.size ∧ ¬ X k) :
    Calls Tryz.prog 60 #[.pointer (some ⟨gd, 0, none⟩), vn] wr (DPost w X gd wr (D.sync d names)) :=
  (PSync_any d X gd names F vn wr h.dsk h.well.1 hs hv hF).mono fun _ _ hp => h.post (sync_well h.well names).1 hp

theorem DRemove (names : List ByteArray) (F : Nat → Prop) (vn : Value) (hs : ∀ s ∈ names, s.size ≤ 9223372036854775807) (hv : RepSl wr F names vn) (hF : ∀ k, F k → k < wr.heap.size ∧ ¬ X k) :
    Calls Tryz.prog 88 #[.pointer (some ⟨gd, 0, none⟩), vn] wr (DPost w X gd wr (D.remove d names)) :=
  (PRemove_any d X gd names F vn wr h.dsk h.well.1 hs hv hF).mono fun _ _ hp => h.post (remove_well h.well names).1 hp

theorem DRename (a b : ByteArray) (ha : a.size ≤ 9223372036854775807) (hb : b.size ≤ 9223372036854775807) :
    Calls Tryz.prog 136 #[.pointer (some ⟨gd, 0, none⟩), .string a, .string b] wr (DPost w X gd wr (D.rename d a b)) :=
  (PRename_any d X gd a b wr h.dsk h.well.1 ha hb).mono fun _ _ hp => h.post (rename_well h.well a b).1 hp

theorem DCut (s : ByteArray) (n : Int) (hs : s.size ≤ 9223372036854775807) (h1 : -9223372036854775808 ≤ n) (h2 : n ≤ 9223372036854775807) :
    Calls Tryz.prog 145 #[.pointer (some ⟨gd, 0, none⟩), .string s, .int .i64 n] wr (DPost w X gd wr (D.cut d s n)) :=
  (PCut_any d X gd s n wr h.dsk h.well.1 hs h1 h2).mono fun _ _ hp => h.post (cut_well h.well s n).1 hp

theorem DCrash (ks : List Int) (F : Nat → Prop) (vk : Value) (hv : RepI wr F ks vk) (hF : ∀ k, F k → k < wr.heap.size ∧ ¬ X k) :
    Calls Tryz.prog 17 #[.pointer (some ⟨gd, 0, none⟩), vk] wr (DPost w X gd wr ((((D.crash d ks).1 : Nat) : Int), (D.crash d ks).2)) :=
  (PCrash_any d X gd ks F vk wr h.dsk h.well.1 h.well.names hv hF).mono fun _ _ hp => h.post (crash_well h.well ks).1 hp
end

theorem RepSl.new {w : World} {ls : List ByteArray} {t : TypeId} {g n : Nat} (hg : g = w.heap.size) (hn : n = ls.length) (hl : ls.length ≤ 9223372036854775807) :
    RepSl (w.alloc (.cells (ls.map Value.string).toArray t)) (fun b => b = g) ls (.slice (some ⟨g, 0, none⟩) n n) := by
  subst hg hn
  refine .inr ⟨w.heap.size, 0, ls.length, rfl, rfl, Nat.le_refl _, hl, fun i hi => ?_⟩
  have := cell_of_row _ w.heap.size (0 + i) _ t _ (heap_alloc_new w (.cells (ls.map Value.string).toArray t))
  rw [this]
  simp [hi]

theorem RepI.new {w : World} {ls : List Int} {t : TypeId} {g n : Nat} (hg : g = w.heap.size) (hn : n = ls.length) (hl : ls.length ≤ 9223372036854775807) (hb : ∀ i ∈ ls, -9223372036854775808 ≤ i ∧ i ≤ 9223372036854775807) :
    RepI (w.alloc (.cells (ls.map (Value.int .i64)).toArray t)) (fun b => b = g) ls (.slice (some ⟨g, 0, none⟩) n n) := by
  subst hg hn
  refine .inr ⟨w.heap.size, 0, ls.length, rfl, rfl, Nat.le_refl _, hl, fun i hi => ⟨?_, hb _ (List.getElem_mem hi)⟩⟩
  have := cell_of_row _ w.heap.size (0 + i) _ t _ (heap_alloc_new w (.cells (ls.map (Value.int .i64)).toArray t))
  rw [this]
  simp [hi]

def nmA : ByteArray := ⟨#[97]⟩
def nmB : ByteArray := ⟨#[98]⟩
def x1 : Dk := fresh 10
def x2 : Dk := (D.append x1 nmA [[120, 121, 122]]).2
def x3 : Dk := (D.sync x2 [nmA]).2
def x4 : Dk := (D.append x3 nmA [[117], [118, 119]]).2
def x5 : Dk := (D.append x4 nmB [[49, 50, 51, 52, 53]]).2
def x6 : Dk := (D.crash x5 [1]).2

theorem ex_2 : (D.append x1 nmA [[120, 121, 122]]).1 = 0 ∧ D.used x2.fs = 3 := by decide +kernel
theorem ex_3 : (D.sync x2 [nmA]).1 = 0 ∧ D.used x3.fs = 3 := by decide +kernel
theorem ex_4 : (D.append x3 nmA [[117], [118, 119]]).1 = 0 ∧ D.used x4.fs = 6 := by decide +kernel
theorem ex_5 : (D.append x4 nmB [[49, 50, 51, 52, 53]]).1 = 31 ∧ D.used x5.fs = 6 := by decide +kernel
theorem ex_6 : (D.crash x5 [1]).1 = 2 ∧ D.used x6.fs = 4 := by decide +kernel
theorem ex_7 : bytesOf x6.fs nmA = [120, 121, 122, 117] ∧ D.isThere x6.fs nmA = true := by decide +kernel
end Go.Proofs.YtbcpcopapbgcdaaGreatDoor.M

/- Part: DiskAwake. -/
namespace Go.Proofs.YtbcpcopapbgcdaaGreatDoor.M
open Go.RowKit Go.Maps
open D (Fl Dk)

/-- A disk's call is told bytes of a new block. -/
theorem DS.one {w wr : World} {X : Nat → Prop} {gd : Nat} {d : Dk} (h : DS w X gd d wr) (L : List UInt8) (n : Nat) (hn : n = L.length) (hl : L.length ≤ 9223372036854775807) (fr : Nat × Nat) (t1 t2 : TypeId) {W : World}
    (hW : W = (wr.alloc (.cells (L.map byteV).toArray t1 fr)).alloc (.cells #[.slice (some ⟨wr.heap.size, 0, none⟩) n n] t2)) :
    DS w X gd d W ∧ RepBl W (fun b => b = wr.heap.size ∨ b = wr.heap.size + 1) [L] (.slice (some ⟨wr.heap.size + 1, 0, none⟩) 1 1) ∧ ∀ k, (k = wr.heap.size ∨ k = wr.heap.size + 1) → k < W.heap.size ∧ ¬ X k := by
  subst hW hn
  refine ⟨(h.alloc _).alloc _, RepBl.one (RepB.new (L := L) rfl hl) (by simp) (fun k hk => by rw [hk]; simp), fun k hk => ⟨by rcases hk with hk | hk <;> (rw [hk]; simp <;> omega), fun hx => by
    have := h.lt k hx
    omega⟩⟩

/-- .. of two. -/
theorem DS.two {w wr : World} {X : Nat → Prop} {gd : Nat} {d : Dk} (h : DS w X gd d wr) (L1 L2 : List UInt8) (n1 n2 : Nat) (hn1 : n1 = L1.length) (hn2 : n2 = L2.length) (hl1 : L1.length ≤ 9223372036854775807) (hl2 : L2.length ≤ 9223372036854775807) (fr1 fr2 : Nat × Nat) (t1 t2 t3 : TypeId) {W : World}
    (hW : W = ((wr.alloc (.cells (L1.map byteV).toArray t1 fr1)).alloc (.cells (L2.map byteV).toArray t2 fr2)).alloc (.cells #[.slice (some ⟨wr.heap.size, 0, none⟩) n1 n1, .slice (some ⟨wr.heap.size + 1, 0, none⟩) n2 n2] t3)) :
    DS w X gd d W ∧ RepBl W (fun b => (b = wr.heap.size ∨ b = wr.heap.size + 1) ∨ b = wr.heap.size + 1 + 1) [L1, L2] (.slice (some ⟨wr.heap.size + 1 + 1, 0, none⟩) 2 2) ∧ ∀ k, ((k = wr.heap.size ∨ k = wr.heap.size + 1) ∨ k = wr.heap.size + 1 + 1) → k < W.heap.size ∧ ¬ X k := by
  subst hW hn1 hn2
  refine ⟨((h.alloc _).alloc _).alloc _, ?_, fun k hk => ⟨by rcases hk with (hk | hk) | hk <;> (rw [hk]; simp <;> omega), fun hx => by
    have := h.lt k hx
    omega⟩⟩
  refine RepBl.new (w := (wr.alloc (.cells (L1.map byteV).toArray t1 fr1)).alloc (.cells (L2.map byteV).toArray t2 fr2)) (ls := [L1, L2]) (us := [.slice (some ⟨wr.heap.size, 0, none⟩) L1.length L1.length, .slice (some ⟨wr.heap.size + 1, 0, none⟩) L2.length L2.length]) (by simp) rfl (by simp) (fun k hk => by rcases hk with hk | hk <;> (rw [hk]; simp <;> omega)) fun i h1 h2 => ?_
  match i, h1 with
  | 0, _ => exact (RepB.new (w := wr) (L := L1) (t := t1) (fr := fr1) rfl hl1).same (fun k hk => .inl hk) fun k hk => Below.heap_alloc _ _ _ (by rw [hk]; simp)
  | 1, _ => exact (RepB.new (w := wr.alloc (.cells (L1.map byteV).toArray t1 fr1)) (L := L2) (t := t2) (fr := fr2) (by simp) hl2).same (fun k hk => .inr hk) fun _ _ => rfl

theorem DS.names {w wr : World} {X : Nat → Prop} {gd : Nat} {d : Dk} (h : DS w X gd d wr) (ls : List ByteArray) (n : Nat) (hn : n = ls.length) (hl : ls.length ≤ 9223372036854775807) (t : TypeId) {W : World} (hW : W = wr.alloc (.cells (ls.map Value.string).toArray t)) :
    DS w X gd d W ∧ RepSl W (fun b => b = wr.heap.size) ls (.slice (some ⟨wr.heap.size, 0, none⟩) n n) ∧ ∀ k, k = wr.heap.size → k < W.heap.size ∧ ¬ X k := by
  subst hW
  exact ⟨h.alloc _, RepSl.new rfl hn hl, fun k hk => ⟨by rw [hk]; simp, fun hx => by have := h.lt k hx; omega⟩⟩

theorem DS.ints {w wr : World} {X : Nat → Prop} {gd : Nat} {d : Dk} (h : DS w X gd d wr) (ls : List Int) (n : Nat) (hn : n = ls.length) (hl : ls.length ≤ 9223372036854775807) (hb : ∀ i ∈ ls, -9223372036854775808 ≤ i ∧ i ≤ 9223372036854775807) (t : TypeId) {W : World} (hW : W = wr.alloc (.cells (ls.map (Value.int .i64)).toArray t)) :
    DS w X gd d W ∧ RepI W (fun b => b = wr.heap.size) ls (.slice (some ⟨wr.heap.size, 0, none⟩) n n) ∧ ∀ k, k = wr.heap.size → k < W.heap.size ∧ ¬ X k := by
  subst hW
  exact ⟨h.alloc _, RepI.new rfl hn hl hb, fun k hk => ⟨by rw [hk]; simp, fun hx => by have := h.lt k hx; omega⟩⟩

theorem x1_used : D.used x1.fs = 0 := rfl

end Go.Proofs.YtbcpcopapbgcdaaGreatDoor.M
