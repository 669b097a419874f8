/- The document's Parse of a configuration: plain, and its rows. A configuration's Parse, as mould's Take has it and as the document's. -/
import Derived.Test.YtdngfbljcmbniaaTM34
import Derived.Test.YtdngfbljcmbniaaTM35
/- Part: MmBj. -/
namespace Go.Proofs.Ytdngfbljcmbniaa.M
open Go.RowKit

def cOf (a b : List Nat) : Cf := ⟨a.map Int.ofNat, b.map Int.ofNat⟩

def smallN (a : List Nat) : Bool := a.all fun n => decide (n ≤ 1048575)

/-- What Parse answers of bytes. -/
noncomputable def parseC (L : List UInt8) : Except Int Cf :=
  match takeLL 2 L with
  | .error e => .error e
  | .ok (ds, rest) => if 0 < rest.length then .error 12 else match ds with
    | [a, b] => if smallN a && smallN b && yes (cOf a b).ok then .ok (cOf a b) else .error 80
    | _ => .error 80

theorem takeLL_len : ∀ {k : Nat} {b r : List UInt8} {l : List (List Nat)}, takeLL k b = .ok (l, r) → l.length = k ∧ ∃ j, j ≤ b.length ∧ r = b.drop j
  | 0, b, r, l, h => by
    unfold takeLL at h
    cases h
    exact ⟨rfl, 0, Nat.zero_le _, rfl⟩
  | k + 1, b, r, l, h => by
    unfold takeLL at h
    split at h
    · cases h
    · rename_i n r1 h1
      split at h
      · cases h
      · rename_i l' r' h2
        cases h
        obtain ⟨j, hj, rfl⟩ := takeLs_rest h1
        obtain ⟨hl, j2, hj2, rfl⟩ := takeLL_len h2
        rw [List.length_drop] at hj2
        exact ⟨by simp [hl], j + j2, by omega, by rw [List.drop_drop]⟩

theorem takeNs_len : ∀ {k : Nat} {b r : List UInt8} {l : List Nat}, takeNs k b = .ok (l, r) → l.length = k
  | 0, b, r, l, h => by
    unfold takeNs at h
    cases h
    rfl
  | k + 1, b, r, l, h => by
    unfold takeNs at h
    split at h
    · cases h
    · split at h
      · cases h
      · rename_i l' r' h2
        cases h
        simp [takeNs_len h2]

theorem takeLs_len {b r : List UInt8} {l : List Nat} (h : takeLs b = .ok (l, r)) : l.length ≤ b.length := by
  unfold takeLs at h
  split at h
  · cases h
  · rename_i n r1 h1
    split at h
    · cases h
    · obtain ⟨j, -, hj, rfl⟩ := takeNum_rest h1
      rename_i hn
      rw [takeNs_len h]
      rw [List.length_drop] at hn
      omega

theorem takeLL_small : ∀ {k : Nat} {b r : List UInt8} {l : List (List Nat)}, takeLL k b = .ok (l, r) → ∀ d ∈ l, d.length ≤ b.length
  | 0, b, r, l, h => by
    unfold takeLL at h
    cases h
    intro d hd
    simp at hd
  | k + 1, b, r, l, h => by
    unfold takeLL at h
    split at h
    · cases h
    · rename_i n r1 h1
      split at h
      · cases h
      · rename_i l' r' h2
        cases h
        intro d hd
        rcases List.mem_cons.1 hd with rfl | hd
        · exact takeLs_len h1
        · obtain ⟨j, hj, rfl⟩ := takeLs_rest h1
          have := takeLL_small h2 d hd
          rw [List.length_drop] at this
          omega

theorem nCells_get : ∀ (d : List Nat) (k : Nat) (h : k < d.length), (nCells d)[k * 3]? = some (.int .u64 ((d[k] : Nat) : Int))
  | x :: d, 0, _ => by simp [nCells, nV]
  | x :: d, k + 1, h => by
    have ih := nCells_get d k (by simpa using h)
    have e : nCells (x :: d) = [.int .u64 (x : Int), .slice none 0 0, .slice none 0 0] ++ nCells d := by simp [nCells, nV]
    rw [e, List.getElem?_append_right (by simp; omega)]
    simpa [show (k + 1) * 3 - 3 = k * 3 from by omega] using ih

theorem NRw.at {base : Nat} {d : List Nat} {v : Value} {w : World} (h : NRw base d v w) (k : Nat) (hk : k < d.length) :
    ∃ b c, v = .slice (some ⟨b, 0, none⟩) d.length c ∧ b < w.heap.size ∧ ∀ j (hj : j < d.length), w.cell? ⟨b, j * 3, none⟩ = some (.int .u64 ((d[j] : Nat) : Int)) := by
  have h' : w.ownsRow base 45 3 v d.length (nCells d) := h
  rcases h'.2 with ⟨-, h0⟩ | ⟨g, cap, cur, rfl, -⟩
  · omega
  · exact ⟨g, cap, rfl, (h'.lt g rfl).2, fun j hj => (h'.cellAt (j * 3) (by omega)).trans (nCells_get d j hj)⟩

/-- The cells of two rows of numbers' values. -/
theorem LRw.two {base : Nat} {d1 d2 : List Nat} {vs : List Value} {lv : Value} {w : World} (h : LRw base [d1, d2] vs lv w) :
    ∃ b c v1 v2, lv = .slice (some ⟨b, 0, none⟩) 2 c ∧ b < w.heap.size ∧ w.cell? ⟨b, 2, none⟩ = some v1 ∧ w.cell? ⟨b, 5, none⟩ = some v2 ∧ NRw base d1 v1 w ∧ NRw base d2 v2 w := by
  obtain ⟨h1, h2, h3⟩ := h
  match vs, h1 with
  | [v1, v2], _ =>
    have h2' : w.ownsRow base 45 3 lv 2 [.int .u64 0, .slice none 0 0, v1, .int .u64 0, .slice none 0 0, v2] := h2
    rcases h2'.2 with ⟨-, h0⟩ | ⟨g, cap, cur, rfl, -⟩
    · exact absurd h0 (by decide)
    · exact ⟨g, cap, v1, v2, rfl, (h2'.lt g rfl).2, h2'.cellAt 2 (by decide), h2'.cellAt 5 (by decide), (h3 (d1, v1) (by simp)).1, (h3 (d2, v2) (by simp)).1⟩

/-- One list's numbers are gone over. -/
theorem smallN_false {d : List Nat} {k : Nat} (h : k < d.length) (hx : 1048575 < d[k]) : smallN d = false := by
  unfold smallN
  rw [List.all_eq_false]
  exact ⟨d[k], List.getElem_mem h, by simpa using hx⟩

theorem smallN_true {d : List Nat} (h : ∀ x ∈ d, x ≤ 1048575) : smallN d = true := by
  unfold smallN
  simpa using h
end Go.Proofs.Ytdngfbljcmbniaa.M

/- Part: MmBl. -/
namespace Go.Proofs.Ytdngfbljcmbniaa.M
open Go.RowKit

def nmV (n : Nat) : V := .mk n [] []

theorem takeMany_num : ∀ (k : Nat) (b : List UInt8), takeMany (takeV .num) k b = match takeNs k b with
    | .error e => .error e
    | .ok (l, r) => .ok (l.map nmV, r)
  | 0, b => rfl
  | k + 1, b => by
    have ih := takeMany_num k
    unfold takeMany takeNs
    rw [takeV]
    cases takeNum b with
    | error e => rfl
    | ok x =>
      obtain ⟨n, r⟩ := x
      simp only
      rw [ih r]
      cases takeNs k r with
      | error e => rfl
      | ok y => rfl

theorem takeV_nums (b : List UInt8) : takeV (.list .num) b = match takeLs b with
    | .error e => .error e
    | .ok (l, r) => .ok (.mk 0 [] (l.map nmV), r) := by
  rw [takeV]
  unfold takeLs
  cases takeNum b with
  | error e => rfl
  | ok x =>
    obtain ⟨n, r⟩ := x
    simp only [solid, true_and]
    by_cases h : r.length < n
    · rw [if_pos h, if_pos h]
    · rw [if_neg h, if_neg h, takeMany_num]
      simp only [Bool.true_eq_false, false_and, if_false]
      cases takeNs n r with
      | error e => rfl
      | ok y => rfl

def rowV (l : List Nat) : V := .mk 0 [] (l.map nmV)

theorem takeV_conf (b : List UInt8) : takeV shC b = match takeLL 2 b with
    | .error e => .error e
    | .ok (ds, r) => .ok (.mk 0 [] (ds.map rowV), r) := by
  unfold shC
  rw [takeV, takeVs, takeV_nums]
  rw [show takeLL 2 b = (match takeLs b with | .error e => .error e | .ok (n, r) => match takeLL 1 r with | .error e => .error e | .ok (l, r') => .ok (n :: l, r')) from rfl]
  cases takeLs b with
  | error e => rfl
  | ok x =>
    obtain ⟨l1, r1⟩ := x
    simp only
    rw [takeVs, takeV_nums]
    rw [show takeLL 1 r1 = (match takeLs r1 with | .error e => .error e | .ok (n, r) => match takeLL 0 r with | .error e => .error e | .ok (l, r') => .ok (n :: l, r')) from rfl]
    cases takeLs r1 with
    | error e => rfl
    | ok y =>
      obtain ⟨l2, r2⟩ := y
      rfl

theorem takeNs_bound : ∀ {k : Nat} {b r : List UInt8} {l : List Nat}, takeNs k b = .ok (l, r) → ∀ n ∈ l, n < 18446744073709551616
  | 0, b, r, l, h => by
    unfold takeNs at h
    cases h
    intro n hn
    simp at hn
  | k + 1, b, r, l, h => by
    unfold takeNs at h
    split at h
    · cases h
    · rename_i n1 r1 h1
      split at h
      · cases h
      · rename_i l' r' h2
        cases h
        intro n hn
        rcases List.mem_cons.1 hn with rfl | hn
        · exact takeNum_bound h1
        · exact takeNs_bound h2 n hn

theorem takeLs_bound {b r : List UInt8} {l : List Nat} (h : takeLs b = .ok (l, r)) : ∀ n ∈ l, n < 18446744073709551616 := by
  unfold takeLs at h
  split at h
  · cases h
  · split at h
    · cases h
    · exact takeNs_bound h

theorem takeLL_bound : ∀ {k : Nat} {b r : List UInt8} {l : List (List Nat)}, takeLL k b = .ok (l, r) → ∀ d ∈ l, ∀ n ∈ d, n < 18446744073709551616
  | 0, b, r, l, h => by
    unfold takeLL at h
    cases h
    intro d hd
    simp at hd
  | k + 1, b, r, l, h => by
    unfold takeLL at h
    split at h
    · cases h
    · rename_i n1 r1 h1
      split at h
      · cases h
      · rename_i l' r' h2
        cases h
        intro d hd
        rcases List.mem_cons.1 hd with rfl | hd
        · exact takeLs_bound h1
        · exact takeLL_bound h2 d hd

/-- A list's numbers as mould's values give them. -/
def idsL (a : List Nat) : List Int := (a.map nmV).map asInt

theorem idsL_small {a : List Nat} (h : smallN a = true) : idsL a = a.map Int.ofNat := by
  unfold idsL
  rw [List.map_map]
  apply List.map_congr_left
  intro n hn
  have h1 : n ≤ 1048575 := by
    unfold smallN at h
    rw [List.all_eq_true] at h
    simpa using h n hn
  show IntKind.i64.wrap (n : Int) = (n : Int)
  rw [IntKind.wrap_i64]
  omega

theorem idsL_big {a : List Nat} (hb : ∀ n ∈ a, n < 18446744073709551616) (h : smallN a = false) : ¬ Rise (idsL a) := by
  unfold smallN at h
  rw [List.all_eq_false] at h
  obtain ⟨n, hn, hx⟩ := h
  have hx2 : 1048575 < n := by simpa using hx
  have hlt := hb n hn
  intro hr
  have hm : IntKind.i64.wrap (n : Int) ∈ idsL a := List.mem_map.2 ⟨nmV n, List.mem_map.2 ⟨n, hn, rfl⟩, rfl⟩
  obtain ⟨h1, h2⟩ := hr.1 _ hm
  rw [IntKind.wrap_i64] at h1 h2
  omega

def cfL (a b : List Nat) : Cf := ⟨idsL a, idsL b⟩

/-- Both ways of parsing agree. -/
theorem cfL_same {a b : List Nat} (ha : ∀ n ∈ a, n < 18446744073709551616) (hb : ∀ n ∈ b, n < 18446744073709551616) :
    (if smallN a && smallN b && yes (cOf a b).ok then Except.ok (cOf a b) else .error 80) = (if yes (cfL a b).ok then Except.ok (cfL a b) else (.error 80 : Except Int Cf)) := by
  cases h1 : smallN a with
  | false =>
    have : ¬ (cfL a b).ok := fun h => idsL_big ha h1 h.2.2.1
    rw [yes_f this]
    rfl
  | true =>
    cases h2 : smallN b with
    | false =>
      have : ¬ (cfL a b).ok := fun h => idsL_big hb h2 h.2.2.2.1
      rw [yes_f this]
      rfl
    | true =>
      have : cfL a b = cOf a b := by unfold cfL cOf; rw [idsL_small h1, idsL_small h2]
      rw [this]
      rfl

/-- What members' Parse answers, by mould's Take. -/
noncomputable def parseM (L : List UInt8) : Except Int Cf :=
  match takeAt [91, 42, 110, 42, 110, 93] L with
  | .error e => .error e
  | .ok d => match d.l with
    | [x, y] => if yes (Cf.mk (x.l.map asInt) (y.l.map asInt)).ok then .ok ⟨x.l.map asInt, y.l.map asInt⟩ else .error 80
    | _ => .error 80

theorem parseM_eq (L : List UInt8) : parseM L = parseC L := by
  unfold parseM parseC takeAt
  rw [shape_conf]
  simp only
  rw [takeV_conf]
  cases hq : takeLL 2 L with
  | error e => rfl
  | ok x =>
    obtain ⟨ds, rest⟩ := x
    obtain ⟨hl, -⟩ := takeLL_len hq
    have hb := takeLL_bound hq
    match ds, hl with
    | [a, b], _ =>
      simp only
      cases rest with
      | cons z t => rfl
      | nil =>
        have := cfL_same (hb a (by simp)) (hb b (by simp))
        simp only [List.isEmpty_nil, if_true, List.length_nil, Nat.lt_irrefl, if_false]
        rw [this]
        rfl
end Go.Proofs.Ytdngfbljcmbniaa.M
