/- The document: an entry's row. Segments by their sizes, as plain lists. A log's segments as groups of entries: laying. Plain. A log's segments as groups of entries: synced, crashed, dropped. Plain. Package segment: take, over whole rows: the walk. Package segment: what a scan holds, with one segment more. Package segment: scan, over whole segments. Package segment: Open, on a disk of whole segments that fit the mark. A log's segments as groups of entries: opened anew. Plain. Package segment: DropTo, where it refuses. What the law SegmentDrops does, over plain lists. -/
import Derived.Test.YtamgjlegcegmeaaGreatDoorSD40
import Derived.Test.YtamgjlegcegmeaaGreatDoorSD41
import Derived.Test.YtamgjlegcegmeaaGreatDoorSD42
import Derived.Test.YtamgjlegcegmeaaGreatDoorSD39
import Derived.Deep.QuietTactic
import Derived.Test.YtamgjlegcegmeaaGreatDoorSD34
import Derived.Deep.CutRange
import Derived.BigQuiet
/- Part: SegDc2. -/
namespace Go.Proofs.YtamgjlegcegmeaaGreatDoor.M
open Go.RowKit

theorem four_map5 (cs : Nat) (h : cs < 4294967296) : (four cs).map byteV = [.int .u8 ((cs : Int) / 16777216), .int .u8 ((cs : Int) / 65536 % 256), .int .u8 ((cs : Int) / 256 % 256), .int .u8 ((cs : Int) % 256)] := by
  unfold four
  simp only [List.map_cons, List.map_nil, byteV, UInt8.toNat_ofNat']
  congr 2 <;> omega

/-- Four bytes, laid as a literal. -/
theorem own_four5 {w wr : World} {cs g : Nat} (h : Below w.heap.size w wr) (hg : g = wr.heap.size) (hc : cs < 4294967296) :
    Own w (four cs) (.slice (some ⟨g, 0, none⟩) 4 4) (wr.alloc (.cells #[.int .u8 ((cs : Int) / 16777216), .int .u8 ((cs : Int) / 65536 % 256), .int .u8 ((cs : Int) / 256 % 256), .int .u8 ((cs : Int) % 256)] 5)) := by
  subst hg
  refine ⟨h.alloc h.size _, ?_⟩
  have h1 := World.ownsRow_lit wr #[.int .u8 ((cs : Int) / 16777216), .int .u8 ((cs : Int) / 65536 % 256), .int .u8 ((cs : Int) / 256 % 256), .int .u8 ((cs : Int) % 256)] 4 (base := w.heap.size) (e := 5) (size := 1) h.size (by unfold maxLen; omega) rfl
  rw [four_map5 cs hc]
  exact h1

end Go.Proofs.YtamgjlegcegmeaaGreatDoor.M

/- Part: SegSzP. -/
namespace Go.Proofs.YtamgjlegcegmeaaGreatDoor.M
open Go.RowKit
open D (Fl Dk)

theorem dg_less : ∀ (k m n : Nat), m % 10 ^ k < n % 10 ^ k → dg k m < dg k n
  | 0, m, n, h => by simp [Nat.mod_one] at h
  | k + 1, m, n, h => by
    rw [dg_front5, dg_front5, List.cons_lt_cons_iff]
    rw [Nat.mod_pow_succ, Nat.mod_pow_succ] at h
    have hp : 0 < 10 ^ k := Nat.pow_pos (by omega)
    have hm := Nat.mod_lt m hp
    have hn := Nat.mod_lt n hp
    have dm : m / 10 ^ k % 10 < 10 := Nat.mod_lt _ (by omega)
    have dn : n / 10 ^ k % 10 < 10 := Nat.mod_lt _ (by omega)
    generalize m / 10 ^ k % 10 = a at *
    generalize n / 10 ^ k % 10 = b at *
    rcases Nat.lt_trichotomy a b with hl | rfl | hl
    · left
      rw [UInt8.lt_iff_toNat_lt, UInt8.toNat_ofNat', UInt8.toNat_ofNat']
      omega
    · exact .inr ⟨rfl, dg_less k m n (by omega)⟩
    · have h1 : 10 ^ k * (b + 1) ≤ 10 ^ k * a := Nat.mul_le_mul_left _ hl
      rw [Nat.mul_add, Nat.mul_one] at h1
      omega

theorem sgName_data (i : Int) : (sgName i).data.toList = [115, 101, 103, 45] ++ dg 10 i.toNat := by unfold sgName; simp

theorem sgName_list (i : Int) : (sgName i).toList = [115, 101, 103, 45] ++ dg 10 i.toNat := by
  rw [ByteArray.toList_eq]
  exact sgName_data i

theorem sgName_less {i j : Nat} (h : i < j) (hj : j < 10000000000) : (sgName (i : Int)).toList < (sgName (j : Int)).toList := by
  rw [sgName_list, sgName_list, Int.toNat_natCast, Int.toNat_natCast]
  have h1 : dg 10 i < dg 10 j := dg_less 10 i j (by rw [Nat.mod_eq_of_lt (by omega), Nat.mod_eq_of_lt (by omega)]; exact h)
  simp only [List.cons_append, List.nil_append, List.cons_lt_cons_iff]
  simp [h1]

theorem sgName_ok (i : Int) : D.okName (sgName i) = true := by
  have hs : (sgName i).size = 14 := by
    have := congrArg List.length (sgName_data i)
    rw [List.length_append, dg_length] at this
    show (sgName i).data.size = 14
    simpa using this
  unfold D.okName
  rw [sgName_data, hs, List.all_append, Bool.and_eq_true, Bool.and_eq_true]
  refine ⟨⟨by decide +kernel, ?_⟩, by decide⟩
  rw [List.all_eq_true]
  intro c hc
  obtain ⟨k, hk, rfl⟩ := List.mem_iff_getElem.1 hc
  rw [dg_length] at hk
  have h1 := dg_get 10 i.toNat k hk
  rw [List.getElem?_eq_getElem (by rw [dg_length]; exact hk), Option.some.injEq] at h1
  rw [h1]
  have : ∀ d : Fin 10, D.okByte (UInt8.ofNat (48 + d.1)) = true := by decide +kernel
  exact this ⟨i.toNat / 10 ^ (10 - 1 - k) % 10, Nat.mod_lt _ (by omega)⟩

/-- What a disk's files look like from outside. -/
def shp (fs : List Fl) : List (ByteArray × Nat) := fs.map fun f => (f.nm, f.b.length)

theorem findIdx_snoc {α : Type} {p : α → Bool} {x : α} : ∀ (A : List α), (∀ a ∈ A, p a = false) → p x = true → (A ++ [x]).findIdx p = A.length
  | [], _, hx => by simp [List.findIdx_cons, hx]
  | a :: A, hA, hx => by
    have ih := findIdx_snoc A (fun b hb => hA b (List.mem_cons_of_mem _ hb)) hx
    rw [List.cons_append, List.findIdx_cons, hA a (by simp), ih]
    rfl

theorem findIdx_none {α : Type} {p : α → Bool} : ∀ (A : List α), (∀ a ∈ A, p a = false) → A.findIdx p = A.length
  | [], _ => rfl
  | a :: A, hA => by
    rw [List.findIdx_cons, hA a (by simp), findIdx_none A (fun b hb => hA b (List.mem_cons_of_mem _ hb))]
    rfl

theorem modify_snoc {α : Type} (A : List α) (x : α) (g : α → α) : (A ++ [x]).modify A.length g = A ++ [g x] := by
  induction A with
  | nil => rfl
  | cons a A ih => simp only [List.cons_append, List.length_cons, List.modify_succ_cons, ih]

theorem append_new {d : Dk} {s : ByteArray} {L : List UInt8} (he : d.ends = false) (hs : D.okName s = true) (hr : (L.length : Int) ≤ d.free) (hl : d.fs.length < 4096) (hlt : ∀ f ∈ d.fs, f.nm.toList < s.toList) :
    (D.append d s [L]).1 = 0 ∧ (D.append d s [L]).2.ends = false ∧ (D.append d s [L]).2.room = d.room ∧ shp (D.append d s [L]).2.fs = shp d.fs ++ [(s, L.length)] := by
  have hst : d.stopped = false := by unfold D.Dk.stopped; rw [he]; rfl
  have htk : d.tick = d := by unfold D.Dk.tick; rw [if_neg (by simp [he])]
  have hfn : ∀ f ∈ d.fs, (f.nm.toList == s.toList) = false := fun f hf => beq_eq_false_iff_ne.2 fun e => by
    have := hlt f hf
    rw [e] at this
    exact List.lt_irrefl _ this
  have hth : D.isThere d.fs s = false := by
    unfold D.isThere D.find
    rw [findIdx_none _ hfn]
    simp
  have hpl : D.place d.fs s = d.fs.length := by
    unfold D.place
    refine findIdx_none _ fun f hf => ?_
    rw [bytesLess_eq, decide_eq_true (hlt f hf)]
    rfl
  unfold D.append
  simp only [hst, htk, hs, hth]
  rw [if_neg (by simp), if_neg (by simp), if_neg (by simp; omega)]
  simp only [Bool.false_eq_true, if_false, List.flatten_cons, List.flatten_nil, List.append_nil]
  refine ⟨by simp, he, by simp, ?_⟩
  unfold D.add D.layAt
  simp only [hpl, List.take_length, List.drop_length]
  have hfd : D.find (d.fs ++ [⟨s, [], 0⟩]) s = d.fs.length := by
    unfold D.find
    exact findIdx_snoc _ hfn (by simp)
  rw [hfd, modify_snoc]
  unfold shp
  simp

theorem append_last {d : Dk} {s : ByteArray} {L : List UInt8} {A : List Fl} {f : Fl} (he : d.ends = false) (hs : D.okName s = true) (hr : (L.length : Int) ≤ d.free) (hfs : d.fs = A ++ [f]) (hnm : f.nm = s) (hlt : ∀ a ∈ A, a.nm.toList < s.toList) :
    (D.append d s [L]).1 = 0 ∧ (D.append d s [L]).2.ends = false ∧ (D.append d s [L]).2.room = d.room ∧ shp (D.append d s [L]).2.fs = shp A ++ [(s, f.b.length + L.length)] := by
  have hst : d.stopped = false := by unfold D.Dk.stopped; rw [he]; rfl
  have htk : d.tick = d := by unfold D.Dk.tick; rw [if_neg (by simp [he])]
  have hfn : ∀ a ∈ A, (a.nm.toList == s.toList) = false := fun a ha => beq_eq_false_iff_ne.2 fun e => by
    have := hlt a ha
    rw [e] at this
    exact List.lt_irrefl _ this
  have hfd : D.find d.fs s = A.length := by
    unfold D.find
    rw [hfs]
    exact findIdx_snoc _ hfn (by rw [hnm]; simp)
  have hth : D.isThere d.fs s = true := by
    unfold D.isThere
    rw [hfd, hfs]
    simp
  unfold D.append
  simp only [hst, htk, hs, hth]
  rw [if_neg (by simp), if_neg (by simp), if_neg (by simp; omega)]
  simp only [if_true, List.flatten_cons, List.flatten_nil, List.append_nil]
  refine ⟨by simp, he, by simp, ?_⟩
  unfold D.layAt
  rw [hfd, hfs, modify_snoc]
  unfold shp
  simp [hnm]

/-- How many bytes the first rows have. -/
def pre (R : Nat → Nat) : Nat → Nat
  | 0 => 0
  | k + 1 => pre R k + R k

theorem pre_le (R : Nat → Nat) {a b : Nat} (h : a ≤ b) : pre R a ≤ pre R b := by
  obtain ⟨c, rfl⟩ := Nat.exists_eq_add_of_le h
  induction c with
  | zero => exact Nat.le_refl _
  | succ c ih => exact Nat.le_trans (ih (by omega)) (Nat.le_add_right _ _)

theorem pre_lt {R : Nat → Nat} (hR : ∀ i, 1 ≤ R i) {a b : Nat} (h : a < b) : pre R a < pre R b :=
  Nat.lt_of_lt_of_le (Nat.lt_of_lt_of_le (Nat.lt_succ_self _) (Nat.add_le_add_left (hR a) _)) (pre_le R (show a + 1 ≤ b from h))

/-- Segments: where each begins and ends. -/
def Cov (R : Nat → Nat) (n : Nat) : Nat → List (Nat × Nat) → Nat → Prop
  | a, [], k => a = k
  | a, p :: ps, k => p.1 = a ∧ a < p.2 ∧ (∀ t, a < t → t < p.2 → pre R t < pre R a + n) ∧ (ps ≠ [] → pre R a + n ≤ pre R p.2) ∧ Cov R n p.2 ps k

theorem Cov.le {R : Nat → Nat} {n : Nat} : ∀ {ps : List (Nat × Nat)} {a k : Nat}, Cov R n a ps k → a ≤ k
  | [], _, _, h => Nat.le_of_eq h
  | _ :: _, _, _, h => Nat.le_trans (Nat.le_of_lt h.2.1) (Cov.le h.2.2.2.2)

theorem Cov.new {R : Nat → Nat} {n k : Nat} : ∀ {ps : List (Nat × Nat)} {a : Nat}, Cov R n a ps k → (∀ p, ps.getLast? = some p → pre R p.1 + n ≤ pre R k) → Cov R n a (ps ++ [(k, k + 1)]) (k + 1)
  | [], a, h, _ => by
    obtain rfl : a = k := h
    exact ⟨rfl, Nat.lt_succ_self _, fun t h1 h2 => by simp only at h2; omega, fun h => absurd rfl h, rfl⟩
  | p :: ps, a, h, hl => by
    refine ⟨h.1, h.2.1, h.2.2.1, fun _ => ?_, Cov.new h.2.2.2.2 fun q hq => hl q ?_⟩
    · cases ps with
      | nil =>
        have h1 := hl p rfl
        have h2 : p.2 = k := h.2.2.2.2
        rw [h2, ← h.1]
        exact h1
      | cons q r => exact h.2.2.2.1 (by simp)
    · cases ps with
      | nil => cases hq
      | cons q r => rw [List.getLast?_cons_cons]; exact hq

theorem Cov.more {R : Nat → Nat} {n k b : Nat} : ∀ {ps : List (Nat × Nat)} {a : Nat}, Cov R n a (ps ++ [(b, k)]) k → pre R k < pre R b + n → Cov R n a (ps ++ [(b, k + 1)]) (k + 1)
  | [], a, h, hl => by
    obtain ⟨rfl, h2, h3, -, -⟩ := h
    refine ⟨rfl, by simp only at h2 ⊢; omega, fun t h4 h5 => ?_, fun h => absurd rfl h, rfl⟩
    simp only at h3 h5
    by_cases ht : t = k
    · rw [ht]; exact hl
    · exact h3 t h4 (by omega)
  | p :: ps, a, h, hl => ⟨h.1, h.2.1, h.2.2.1, fun _ => h.2.2.2.1 (by simp), Cov.more h.2.2.2.2 hl⟩

theorem Cov.last {R : Nat → Nat} {n k : Nat} : ∀ {ps : List (Nat × Nat)} {a : Nat} {q : Nat × Nat}, Cov R n a (ps ++ [q]) k → q.2 = k ∧ q.1 < k
  | [], _, _, h => ⟨h.2.2.2.2, by have h1 := h.2.1; have h2 := h.1; have h3 : _ = k := h.2.2.2.2; omega⟩
  | _ :: _, _, _, h => Cov.last h.2.2.2.2

theorem Cov.bound {R : Nat → Nat} {n k : Nat} : ∀ {ps : List (Nat × Nat)} {a : Nat}, Cov R n a ps k → ∀ p ∈ ps, a ≤ p.1 ∧ p.1 < p.2 ∧ p.2 ≤ k
  | [], _, _, p, hp => by cases hp
  | q :: ps, a, h, p, hp => by
    rcases List.mem_cons.1 hp with rfl | hp
    · exact ⟨by rw [h.1]; exact Nat.le_refl _, by rw [h.1]; exact h.2.1, Cov.le h.2.2.2.2⟩
    · obtain ⟨h1, h2, h3⟩ := Cov.bound h.2.2.2.2 p hp
      exact ⟨by have := h.2.1; omega, h2, h3⟩

theorem Cov.rise {R : Nat → Nat} {n k : Nat} : ∀ {ps : List (Nat × Nat)} {a : Nat} {q : Nat × Nat}, Cov R n a (ps ++ [q]) k → ∀ p ∈ ps, p.1 < q.1
  | [], _, _, _, p, hp => by cases hp
  | r :: ps, a, q, h, p, hp => by
    rcases List.mem_cons.1 hp with rfl | hp
    · have h1 := Cov.bound h.2.2.2.2 q (by simp)
      have h2 := h.2.1
      have h3 := h.1
      omega
    · exact Cov.rise h.2.2.2.2 p hp

theorem Cov.len {R : Nat → Nat} {n k : Nat} : ∀ {ps : List (Nat × Nat)} {a : Nat}, Cov R n a ps k → ps.length + a ≤ k
  | [], _, h => by have h : _ = k := h; simp; omega
  | _ :: ps, a, h => by
    have := Cov.len h.2.2.2.2
    have := h.2.1
    simp only [List.length_cons]
    omega
end Go.Proofs.YtamgjlegcegmeaaGreatDoor.M

/- Part: SegGrp. -/
namespace Go.Proofs.YtamgjlegcegmeaaGreatDoor.M
open Go.RowKit
open D (Fl Dk)

/-- Files by their names and bytes. -/
def nb (fs : List Fl) : List (ByteArray × List UInt8) := fs.map fun f => (f.nm, f.b)
def gnb (gs : List (Int × List En)) : List (ByteArray × List UInt8) := gs.map fun g => (sgName g.1, rowsB g.2)

theorem append_newB {d : Dk} {s : ByteArray} {L : List UInt8} (he : d.ends = false) (hs : D.okName s = true) (hr : (L.length : Int) ≤ d.free) (hl : d.fs.length < 4096) (hlt : ∀ f ∈ d.fs, f.nm.toList < s.toList) :
    (D.append d s [L]).1 = 0 ∧ (D.append d s [L]).2.ends = false ∧ (D.append d s [L]).2.room = d.room ∧ nb (D.append d s [L]).2.fs = nb d.fs ++ [(s, L)] := by
  have hst : d.stopped = false := by unfold D.Dk.stopped; rw [he]; rfl
  have htk : d.tick = d := by unfold D.Dk.tick; rw [if_neg (by simp [he])]
  have hfn : ∀ f ∈ d.fs, (f.nm.toList == s.toList) = false := fun f hf => beq_eq_false_iff_ne.2 fun e => by
    have := hlt f hf
    rw [e] at this
    exact List.lt_irrefl _ this
  have hth : D.isThere d.fs s = false := by
    unfold D.isThere D.find
    rw [findIdx_none _ hfn]
    simp
  have hpl : D.place d.fs s = d.fs.length := by
    unfold D.place
    refine findIdx_none _ fun f hf => ?_
    rw [bytesLess_eq, decide_eq_true (hlt f hf)]
    rfl
  unfold D.append
  simp only [hst, htk, hs, hth]
  rw [if_neg (by simp), if_neg (by simp), if_neg (by simp; omega)]
  simp only [Bool.false_eq_true, if_false, List.flatten_cons, List.flatten_nil, List.append_nil]
  refine ⟨by simp, he, by simp, ?_⟩
  unfold D.add D.layAt
  simp only [hpl, List.take_length, List.drop_length]
  have hfd : D.find (d.fs ++ [⟨s, [], 0⟩]) s = d.fs.length := by
    unfold D.find
    exact findIdx_snoc _ hfn (by simp)
  rw [hfd, modify_snoc]
  unfold nb
  simp

theorem append_lastB {d : Dk} {s : ByteArray} {L : List UInt8} {A : List Fl} {f : Fl} (he : d.ends = false) (hs : D.okName s = true) (hr : (L.length : Int) ≤ d.free) (hfs : d.fs = A ++ [f]) (hnm : f.nm = s) (hlt : ∀ a ∈ A, a.nm.toList < s.toList) :
    (D.append d s [L]).1 = 0 ∧ (D.append d s [L]).2.ends = false ∧ (D.append d s [L]).2.room = d.room ∧ nb (D.append d s [L]).2.fs = nb A ++ [(s, f.b ++ L)] := by
  have hst : d.stopped = false := by unfold D.Dk.stopped; rw [he]; rfl
  have htk : d.tick = d := by unfold D.Dk.tick; rw [if_neg (by simp [he])]
  have hfn : ∀ a ∈ A, (a.nm.toList == s.toList) = false := fun a ha => beq_eq_false_iff_ne.2 fun e => by
    have := hlt a ha
    rw [e] at this
    exact List.lt_irrefl _ this
  have hfd : D.find d.fs s = A.length := by
    unfold D.find
    rw [hfs]
    exact findIdx_snoc _ hfn (by rw [hnm]; simp)
  have hth : D.isThere d.fs s = true := by
    unfold D.isThere
    rw [hfd, hfs]
    simp
  unfold D.append
  simp only [hst, htk, hs, hth]
  rw [if_neg (by simp), if_neg (by simp), if_neg (by simp; omega)]
  simp only [if_true, List.flatten_cons, List.flatten_nil, List.append_nil]
  refine ⟨by simp, he, by simp, ?_⟩
  unfold D.layAt
  rw [hfd, hfs, modify_snoc]
  unfold nb
  simp [hnm]

/-- A log that was only laid to, and its disk, by groups. -/
structure GAt (gs : List (Int × List En)) (h : Hd) (d : Dk) : Prop where
  rows : h.rows = laidG gs
  files : h.files = gs.map fiG
  fs : nb d.fs = gnb gs
  grp : Grp 0 gs
  ends : d.ends = false
  well : Well d
  mark : h.mi = 0 ∧ h.mt = 0

theorem GAt.empty {h : Hd} {d : Dk} (h1 : h.rows = []) (h2 : h.files = []) (h3 : d.fs = []) (h4 : d.ends = false) (h5 : Well d) (h6 : h.mi = 0 ∧ h.mt = 0) : GAt [] h d :=
  ⟨h1, h2, by rw [h3]; rfl, trivial, h4, h5, h6⟩

theorem GAt.name {gs : List (Int × List En)} {h : Hd} {d : Dk} (s : GAt gs h d) {f : Fl} (hf : f ∈ d.fs) : ∃ g ∈ gs, f.nm = sgName g.1 := by
  have h1 : (f.nm, f.b) ∈ gnb gs := by rw [← s.fs]; exact List.mem_map.2 ⟨f, hf, rfl⟩
  obtain ⟨g, hg, he⟩ := List.mem_map.1 h1
  exact ⟨g, hg, (congrArg Prod.fst he).symm⟩

theorem sgName_lessI {i j : Int} (h0 : 0 ≤ i) (h : i < j) (hj : j < 10000000000) : (sgName i).toList < (sgName j).toList := by
  obtain ⟨a, rfl⟩ : ∃ a : Nat, i = (a : Int) := ⟨i.toNat, by omega⟩
  obtain ⟨b, rfl⟩ : ∃ b : Nat, j = (b : Int) := ⟨j.toNat, by omega⟩
  exact sgName_less (by omega) (by omega)

theorem rowsB_snoc (es : List En) (e : En) : rowsB (es ++ [e]) = rowsB es ++ sgRow e := by
  unfold rowsB
  rw [List.flatMap_append]
  simp

theorem entG_snoc (gs : List (Int × List En)) (g : Int × List En) : entG (gs ++ [g]) = entG gs ++ g.2 := by
  unfold entG
  rw [List.flatMap_append]
  simp

/-- What laying one entry leaves. -/
def LayG (least : Int) (gs : List (Int × List En)) (h : Hd) (d : Dk) (e : En) : Prop :=
  (layE least h d e).1 = 0 ∧ (layE least h d e).2.2.room = d.room ∧ D.used (layE least h d e).2.2.fs ≤ D.used d.fs + (sgRow e).length ∧ ∃ gs', GAt gs' (layE least h d e).2.1 (layE least h d e).2.2 ∧ entG gs' = entG gs ++ [e]

theorem GAt.layNew {least : Int} {gs : List (Int × List En)} {h : Hd} {d : Dk} {e : En} (s : GAt gs h d) (hi : e.idx = ((entG gs).length : Int) + 1) (hn : (entG gs).length < 4000) (hfree : ((sgRow e).length : Int) ≤ d.free) (hT : layTo least h e = (⟨e.idx, 0, 0, 0, false⟩, h.files)) : LayG least gs h d e := by
  have hU := layE_used (least := least) (h := h) (e := e) s.well
  unfold LayG
  refine (fun hx => ⟨hx.1, hx.2.1, hU.2, hx.2.2⟩ : ((layE least h d e).1 = 0 ∧ (layE least h d e).2.2.room = d.room ∧ ∃ gs', GAt gs' (layE least h d e).2.1 (layE least h d e).2.2 ∧ entG gs' = entG gs ++ [e]) → _) ?_
  have hW := hU.1
  rw [layE_eq, hT] at hW ⊢
  have hl : d.fs.length = gs.length := by have := congrArg List.length s.fs; simpa [nb, gnb] using this
  obtain ⟨a1, a2, a3, a4⟩ := append_newB (s := sgName e.idx) (L := sgRow e) s.ends (sgName_ok _) hfree (by have := s.grp.len; omega) (fun f hf => by
    obtain ⟨g, hg, hfn⟩ := s.name hf
    obtain ⟨b1, b2, b3⟩ := s.grp.mem g hg
    have := List.length_pos_iff.2 b3
    rw [hfn]
    exact sgName_lessI (by omega) (by omega) (by omega))
  simp only at hW ⊢
  rw [if_neg (fun h => h a1)] at hW ⊢
  refine ⟨rfl, a3, gs ++ [(e.idx, [e])], ⟨?_, ?_, ?_, ?_, a2, hW, s.mark⟩, by rw [entG_snoc]⟩
  · simp only
    rw [laidG_snoc, s.rows]
    rfl
  · simp only
    rw [s.files, List.map_append]
    simp only [List.map_cons, List.map_nil, fiG, rowsB, List.flatMap_cons, List.flatMap_nil, List.append_nil, List.length_cons, List.length_nil]
    congr 3
    · push_cast; omega
    · push_cast; omega
  · rw [a4, s.fs]
    unfold gnb rowsB
    simp
  · exact s.grp.snoc (by simp only; omega) (by simp)

theorem GAt.layOld {least : Int} {A : List (Int × List En)} {q : Int × List En} {h : Hd} {d : Dk} {e : En} (s : GAt (A ++ [q]) h d) (hi : e.idx = ((entG (A ++ [q])).length : Int) + 1) (hn : (entG (A ++ [q])).length < 4000) (hfree : ((sgRow e).length : Int) ≤ d.free) (hT : layTo least h e = (fiG q, A.map fiG)) : LayG least (A ++ [q]) h d e := by
  have hU := layE_used (least := least) (h := h) (e := e) s.well
  unfold LayG
  refine (fun hx => ⟨hx.1, hx.2.1, hU.2, hx.2.2⟩ : ((layE least h d e).1 = 0 ∧ (layE least h d e).2.2.room = d.room ∧ ∃ gs', GAt gs' (layE least h d e).2.1 (layE least h d e).2.2 ∧ entG gs' = entG (A ++ [q]) ++ [e]) → _) ?_
  have hW := hU.1
  rw [layE_eq, hT] at hW ⊢
  have hfs := s.fs
  unfold nb gnb at hfs
  rw [List.map_append, List.map_cons, List.map_nil] at hfs
  obtain ⟨A', F', hd1, hd2, hd3⟩ := List.map_eq_append_iff.1 hfs
  obtain ⟨f, hF', hfv⟩ := List.map_eq_singleton_iff.1 hd3
  subst hF'
  obtain ⟨g1, g2, g3⟩ := s.grp.last
  have hel := congrArg List.length (entG_snoc A q)
  rw [List.length_append] at hel
  obtain ⟨a1, a2, a3, a4⟩ := append_lastB (s := sgName (fiG q).first) (L := sgRow e) s.ends (sgName_ok _) hfree hd1 (by have := congrArg Prod.fst hfv; exact this) (fun a ha => by
    have h1 : (a.nm, a.b) ∈ gnb A := by unfold gnb; rw [← hd2]; exact List.mem_map.2 ⟨a, ha, rfl⟩
    obtain ⟨g, hg, he⟩ := List.mem_map.1 h1
    have he1 : a.nm = sgName g.1 := (congrArg Prod.fst he).symm
    rw [he1]
    obtain ⟨b1, b2, b3⟩ := g1.mem g hg
    have := List.length_pos_iff.2 b3
    exact sgName_lessI (by omega) (by show g.1 < q.1; omega) (by show q.1 < _; omega))
  simp only at hW ⊢
  rw [if_neg (fun h => h a1)] at hW ⊢
  refine ⟨rfl, a3, A ++ [(q.1, q.2 ++ [e])], ⟨?_, ?_, ?_, ?_, a2, hW, s.mark⟩, by rw [entG_snoc, entG_snoc, List.append_assoc]⟩
  · simp only
    rw [s.rows, laidG_snoc, laidG_snoc, laidAt_snoc, ← List.append_assoc]
    simp only [fiG, Int.zero_add]
  · simp only
    rw [List.map_append]
    simp only [List.map_cons, List.map_nil, fiG, rowsB_snoc, List.length_append, List.length_cons, List.length_nil]
    congr 3
    push_cast
    omega
  · rw [a4, show nb A' = gnb A from hd2]
    unfold gnb
    rw [List.map_append]
    simp only [List.map_cons, List.map_nil, rowsB_snoc]
    have hfb : f.b = rowsB q.2 := congrArg Prod.snd hfv
    rw [hfb]
    rfl
  · exact g1.snoc g2 (by simp)

theorem GAt.lay {least : Int} {gs : List (Int × List En)} {h : Hd} {d : Dk} {e : En} (s : GAt gs h d) (hi : e.idx = ((entG gs).length : Int) + 1) (hn : (entG gs).length < 4000) (hfree : ((sgRow e).length : Int) ≤ d.free) : LayG least gs h d e := by
  rcases List.eq_nil_or_concat gs with rfl | ⟨A, q, rfl⟩
  · refine s.layNew hi hn hfree ?_
    unfold layTo
    rw [s.files]
    rfl
  · rw [List.concat_eq_append] at s hi hn ⊢
    have hgl : h.files.getLast? = some (fiG q) := by rw [s.files, List.map_append]; simp
    by_cases hlt : (fiG q).size < least
    · refine s.layOld hi hn hfree ?_
      unfold layTo
      rw [hgl]
      simp only
      rw [if_pos hlt, s.files, List.map_append, List.map_cons, List.map_nil, List.dropLast_concat]
    · refine s.layNew hi hn hfree ?_
      unfold layTo
      rw [hgl]
      simp only
      rw [if_neg hlt]

theorem GAt.lays {least : Int} : ∀ (es : List En) {gs : List (Int × List En)} {h : Hd} {d : Dk}, GAt gs h d → (∀ i (hi : i < es.length), es[i].idx = ((entG gs).length : Int) + 1 + (i : Int)) → (entG gs).length + es.length ≤ 4000 → (((es.map fun e => (sgRow e).length).sum : Nat) : Int) ≤ d.free →
    (layEs least h d es).1 = 0 ∧ ∃ gs', GAt gs' (layEs least h d es).2.1 (layEs least h d es).2.2 ∧ entG gs' = entG gs ++ es
  | [], gs, h, d, s, _, _, _ => ⟨rfl, gs, s, by simp⟩
  | e :: es, gs, h, d, s, hi, hn, hf => by
    have h0 := hi 0 (by simp)
    simp only [List.getElem_cons_zero] at h0
    simp only [List.map_cons, List.sum_cons, List.length_cons] at hf hn
    obtain ⟨b1, b2, b3, gs1, b4, b5⟩ := s.lay (least := least) (e := e) (by omega) (by omega) (by omega)
    have hl : layE least h d e = (0, (layE least h d e).2.1, (layE least h d e).2.2) := by rw [← b1]
    rw [layEs_ok hl]
    have hel := congrArg List.length b5
    rw [List.length_append, List.length_singleton] at hel
    obtain ⟨c1, gs2, c2, c3⟩ := GAt.lays (least := least) es b4 (fun i hi2 => by
      have := hi (i + 1) (by simpa using hi2)
      simp only [List.getElem_cons_succ] at this
      rw [this, hel]
      push_cast
      omega) (by omega) (by
        unfold D.Dk.free at hf ⊢
        rw [b2]
        omega)
    exact ⟨c1, gs2, c2, by rw [c3, b5, List.append_assoc]; rfl⟩
end Go.Proofs.YtamgjlegcegmeaaGreatDoor.M

/- Part: SegGr2. -/
namespace Go.Proofs.YtamgjlegcegmeaaGreatDoor.M
open Go.RowKit
open D (Fl Dk)

/-- A disk of segments, all of it safe. -/
structure GDk (gs : List (Int × List En)) (ix : Int) (d : Dk) : Prop where
  fs : nb d.fs = gnb gs
  safe : ∀ f ∈ d.fs, f.safe = f.b.length
  grp : Grp ix gs
  ends : d.ends = false
  well : Well d

theorem nb_syncAt (fs : List Fl) (i : Nat) : nb (D.syncAt fs i) = nb fs := by
  unfold nb D.syncAt
  apply List.ext_getElem?
  intro j
  rw [List.getElem?_map, List.getElem?_map, List.getElem?_modify]
  cases fs[j]? with
  | none => rfl
  | some f => simp only [Option.map_some]; split <;> rfl

theorem nb_syncF (l : List ByteArray) : ∀ fs : List Fl, nb (syncF fs l) = nb fs := by
  induction l with
  | nil => intro fs; rfl
  | cons s l ih =>
    intro fs
    show nb (syncF (D.syncAt fs (D.find fs s)) l) = nb fs
    rw [ih, nb_syncAt]

theorem rising_nb {fs fs' : List Fl} (h : D.Rising fs) (e : nb fs' = nb fs) : D.Rising fs' := by
  have h1 : (nb fs).Pairwise fun a b => a.1.toList < b.1.toList := by unfold nb; rw [List.pairwise_map]; exact h
  rw [← e] at h1
  unfold nb at h1
  rw [List.pairwise_map] at h1
  exact h1

theorem syncAt_safe {fs : List Fl} (h : D.Rising fs) (s : ByteArray) : ∀ f ∈ D.syncAt fs (D.find fs s), f.nm = s → f.safe = f.b.length := by
  intro f hf hs
  obtain ⟨j, hj, rfl⟩ := List.getElem_of_mem hf
  unfold D.syncAt at hj hf hs ⊢
  rw [List.length_modify] at hj
  rw [List.getElem_modify] at hs ⊢
  by_cases hji : D.find fs s = j
  · rw [if_pos hji]
  · rw [if_neg hji] at hs ⊢
    exfalso
    have h1 : (fs[j].nm.toList == s.toList) = true := by rw [hs]; simp
    have h2 : D.find fs s ≤ j := by
      rcases Nat.lt_or_ge j (D.find fs s) with h3 | h3
      · have := List.not_of_lt_findIdx (p := fun f : Fl => f.nm.toList == s.toList) h3
        rw [h1] at this; cases this
      · exact h3
    have h3 : D.find fs s < fs.length := by omega
    have h4 : (fs[D.find fs s].nm.toList == s.toList) = true := List.findIdx_getElem (p := fun f : Fl => f.nm.toList == s.toList) (w := h3)
    have h5 := List.pairwise_iff_getElem.1 h (D.find fs s) j h3 hj (by omega)
    rw [beq_iff_eq] at h1 h4
    rw [h1, h4] at h5
    exact List.lt_irrefl _ h5

theorem syncAt_keep {fs : List Fl} (i : Nat) {t : ByteArray} (h : ∀ f ∈ fs, f.nm = t → f.safe = f.b.length) : ∀ f ∈ D.syncAt fs i, f.nm = t → f.safe = f.b.length := by
  intro f hf hs
  obtain ⟨j, hj, rfl⟩ := List.getElem_of_mem hf
  unfold D.syncAt at hj hf hs ⊢
  rw [List.length_modify] at hj
  rw [List.getElem_modify] at hs ⊢
  split
  · rfl
  · rename_i hij
    rw [if_neg hij] at hs
    exact h _ (List.getElem_mem hj) hs

theorem syncF_safe (l : List ByteArray) : ∀ fs : List Fl, D.Rising fs → ∀ t, (t ∈ l ∨ ∀ f ∈ fs, f.nm = t → f.safe = f.b.length) → ∀ f ∈ syncF fs l, f.nm = t → f.safe = f.b.length := by
  induction l with
  | nil =>
    intro fs _ t h
    rcases h with h | h
    · cases h
    · exact h
  | cons s l ih =>
    intro fs hr t h
    show ∀ f ∈ syncF (D.syncAt fs (D.find fs s)) l, f.nm = t → f.safe = f.b.length
    refine ih _ (rising_nb hr (nb_syncAt _ _)) t ?_
    rcases h with h | h
    · rcases List.mem_cons.1 h with rfl | h
      · exact .inr (syncAt_safe hr t)
      · exact .inl h
    · exact .inr (syncAt_keep _ h)

theorem loose_all (gs : List (Int × List En)) : looseNames (gs.map fiG) = gs.map fun g => sgName g.1 := by
  unfold looseNames
  induction gs with
  | nil => rfl
  | cons g gs ih =>
    rw [List.map_cons, List.filter_cons_of_pos (by rfl), List.map_cons, ih]
    rfl

/-- A log's files, and those on its disk, by groups. -/
structure GFs (gs : List (Int × List En)) (ix : Int) (h : Hd) (d : Dk) : Prop where
  files : h.files = gs.map fiG
  fs : nb d.fs = gnb gs
  grp : Grp ix gs
  ends : d.ends = false
  well : Well d

theorem GFs.sync {gs : List (Int × List En)} {ix : Int} {h : Hd} {d : Dk} (s : GFs gs ix h d) : (syncE h d).1 = 0 ∧ (syncE h d).2.1 = tighten h ∧ GDk gs ix (syncE h d).2.2 := by
  have hr : D.Rising d.fs := s.well.1.2.1
  have hst : d.stopped = false := by unfold D.Dk.stopped; rw [s.ends]; rfl
  have htk : d.tick = d := by unfold D.Dk.tick; rw [if_neg (by simp [s.ends])]
  unfold syncE
  rw [s.files, loose_all]
  by_cases hg : gs = []
  · subst hg
    have hd0 : d.fs = [] := by have := s.fs; unfold nb gnb at this; simpa using this
    simp only [List.map_nil, if_true]
    exact ⟨by simp, by simp, by simpa using s.fs, by simp [hd0], trivial, s.ends, s.well⟩
  · have hne : ¬ (gs.map fun g => sgName g.1) = [] := by simpa using hg
    have hall : (gs.map fun g => sgName g.1).all (D.isThere d.fs) = true := by
      rw [List.all_eq_true]
      intro t ht
      obtain ⟨g, hg, rfl⟩ := List.mem_map.1 ht
      have h1 : (sgName g.1, rowsB g.2) ∈ nb d.fs := by rw [s.fs]; exact List.mem_map.2 ⟨g, hg, rfl⟩
      obtain ⟨f, hf, he⟩ := List.mem_map.1 h1
      unfold D.isThere D.find
      rw [decide_eq_true_eq, List.findIdx_lt_length]
      have he1 : f.nm = sgName g.1 := congrArg Prod.fst he
      exact ⟨f, hf, by rw [he1]; simp⟩
    have hsy : D.sync d (gs.map fun g => sgName g.1) = (0, { d with fs := syncF d.fs (gs.map fun g => sgName g.1) }) := by
      unfold D.sync
      simp only [hst, htk]
      rw [if_neg (by simp), if_neg (by rw [hall]; simp)]
      rfl
    have hw := (sync_well s.well (gs.map fun g => sgName g.1)).1
    rw [hsy] at hw
    simp only [if_neg hne, hsy]
    refine ⟨by simp, by simp, ?_, ?_, s.grp, ?_, ?_⟩
    · simp only [ne_eq, not_true_eq_false, if_false]
      rw [nb_syncF, s.fs]
    · simp only [ne_eq, not_true_eq_false, if_false]
      intro f hf
      have h1 : (f.nm, f.b) ∈ nb (syncF d.fs (gs.map fun g => sgName g.1)) := List.mem_map.2 ⟨f, hf, rfl⟩
      rw [nb_syncF, s.fs] at h1
      obtain ⟨g, hg, he⟩ := List.mem_map.1 h1
      exact syncF_safe _ _ hr f.nm (.inl (List.mem_map.2 ⟨g, hg, congrArg Prod.fst he⟩)) f hf rfl
    · simpa using s.ends
    · simpa using hw

theorem GAt.sync {gs : List (Int × List En)} {h : Hd} {d : Dk} (s : GAt gs h d) : (syncE h d).1 = 0 ∧ (syncE h d).2.1 = tighten h ∧ GDk gs 0 (syncE h d).2.2 := GFs.sync ⟨s.files, s.fs, s.grp, s.ends, s.well⟩

theorem crashFs_safe : ∀ fs : List Fl, (∀ f ∈ fs, f.safe = f.b.length) → D.crashFs fs [] = fs
  | [], _ => rfl
  | f :: fs, h => by
    have h1 := h f (by simp)
    unfold D.crashFs
    rw [List.tail_nil, crashFs_safe fs fun g hg => h g (List.mem_cons_of_mem _ hg)]
    unfold D.stays
    simp only [List.head?_nil]
    rw [h1, List.take_length]
    cases f
    simp only at h1 ⊢
    rw [h1]

theorem GDk.crash {gs : List (Int × List En)} {ix : Int} {d : Dk} (s : GDk gs ix d) : D.crash d [] = (0, d) := by
  unfold D.crash
  rw [crashFs_safe d.fs s.safe]
  have := s.ends
  cases d
  simp only at this ⊢
  subst this
  simp

/-- A segment of which all is synced. -/
def fiT (g : Int × List En) : Fi := { fiG g with loose := false }

theorem tighten_files {gs : List (Int × List En)} {h : Hd} (hf : h.files = gs.map fiG) : (tighten h).files = gs.map fiT := by
  unfold tighten
  simp only
  rw [hf, List.map_map]
  rfl

theorem remove_head {d : Dk} {g : Int × List En} {gs : List (Int × List En)} {ix : Int} (s : GDk (g :: gs) ix d) : (D.remove d [sgName g.1]).1 = 0 ∧ GDk gs (ix + (g.2.length : Int)) (D.remove d [sgName g.1]).2 := by
  have hst : d.stopped = false := by unfold D.Dk.stopped; rw [s.ends]; rfl
  have htk : d.tick = d := by unfold D.Dk.tick; rw [if_neg (by simp [s.ends])]
  have hfs := s.fs
  unfold nb gnb at hfs
  obtain ⟨f, fs, hd, h1, h2⟩ := List.map_eq_cons_iff.1 hfs
  have hnm : f.nm = sgName g.1 := congrArg Prod.fst h1
  have hfi : D.find d.fs (sgName g.1) = 0 := by
    unfold D.find
    rw [hd, List.findIdx_cons]
    simp [hnm]
  have hth : D.isThere d.fs (sgName g.1) = true := by
    unfold D.isThere
    rw [hfi, hd]
    simp
  have hrm : D.remove d [sgName g.1] = (0, { d with fs := fs }) := by
    unfold D.remove
    simp only [hst, htk]
    rw [if_neg (by simp), if_neg (by unfold D.eachOnce; rw [hth]; simp [D.eachOnce])]
    simp only [List.foldl_cons, List.foldl_nil, hfi]
    rw [hd]
    rfl
  have hw := (remove_well s.well [sgName g.1]).1
  rw [hrm] at hw ⊢
  exact ⟨rfl, h2, fun x hx => s.safe x (by rw [hd]; exact List.mem_cons_of_mem _ hx), s.grp.2.2, s.ends, hw⟩

/-- What is dropped: whole segments from the front. -/
theorem dropE_grp (mi : Int) : ∀ (gs : List (Int × List En)) (ix : Int) (h : Hd) (d : Dk), h.files = gs.map fiT → GDk gs ix d → ∃ (pre gs' : List (Int × List En)) (h' : Hd) (d' : Dk), dropE mi gs.length h d = (0, h', d') ∧ gs = pre ++ gs' ∧ h' = { h with files := gs'.map fiT } ∧ GDk gs' (ix + ((entG pre).length : Int)) d' ∧
    (∀ g ∈ pre, g.1 - 1 + (g.2.length : Int) ≤ mi) ∧ ∀ g r, gs' = g :: r → mi < g.1 - 1 + (g.2.length : Int)
  | [], ix, h, d, hf, s => ⟨[], [], h, d, rfl, rfl, by cases h; simp only at hf ⊢; rw [hf], by simpa [entG] using s, fun g hg => (by cases hg), fun g r hr => (by cases hr)⟩
  | g :: gs, ix, h, d, hf, s => by
    have hhas : (fiT g).has = true := by
      have : 0 < g.2.length := List.length_pos_iff.2 s.grp.2.1
      unfold Fi.has fiT fiG
      exact decide_eq_true (by simp only; omega)
    rw [List.map_cons] at hf
    rw [List.length_cons]
    unfold dropE
    rw [hf]
    simp only [hhas, Bool.true_and]
    by_cases hle : (fiT g).last ≤ mi
    · obtain ⟨r1, r2⟩ := remove_head s
      have hre : removedE h d 0 (fiT g) = (0, { h with files := gs.map fiT }, (D.remove d [sgName g.1]).2) := by
        unfold removedE
        rw [show (fiT g).first = g.1 from rfl, r1, hf]
        rfl
      rw [decide_eq_true hle, if_pos rfl, hre]
      simp only [ne_eq, not_true_eq_false, if_false]
      obtain ⟨pre, gs', h', d', e1, e2, e3, e4, e5, e6⟩ := dropE_grp mi gs (ix + (g.2.length : Int)) { h with files := gs.map fiT } _ rfl r2
      refine ⟨g :: pre, gs', h', d', e1, by rw [e2]; rfl, by rw [e3], ?_, fun x hx => ?_, e6⟩
      · have : ix + ((entG (g :: pre)).length : Int) = ix + (g.2.length : Int) + ((entG pre).length : Int) := by
          simp only [entG, List.flatMap_cons, List.length_append]
          push_cast
          omega
        rw [this]
        exact e4
      · rcases List.mem_cons.1 hx with rfl | hx
        · exact hle
        · exact e5 x hx
    · rw [decide_eq_false hle, if_neg (by simp)]
      refine ⟨[], g :: gs, h, d, rfl, rfl, by cases h; simp only at hf ⊢; rw [hf]; rfl, by simpa [entG] using s, fun x hx => (by cases hx), fun x r hx => ?_⟩
      cases hx
      have : (fiT g).last = g.1 - 1 + (g.2.length : Int) := rfl
      omega
end Go.Proofs.YtamgjlegcegmeaaGreatDoor.M

/- Part: SegTkn. -/
namespace Go.Proofs.YtamgjlegcegmeaaGreatDoor.M
open Go.RowKit
open D (Fl Dk)

/-- What stands once some rows are taken. -/
def TkAt (w : World) (X : Nat → Prop) (g gf : Nat) (rows : List Rw) (files : List Fi) (fi : Int) (lo : Bool) (es : List En) (wr : World) : Prop :=
  ∃ X' vr vf rv, ScAt wr X' g (rows ++ laidAt es 0) files vr vf rv ∧ (∀ k, X' k → X k ∨ w.heap.size ≤ k) ∧ Only (fun k => X k ∨ k = gf) w wr ∧ wr.heap[gf]? = some (.cells #[.int .i64 fi, .int .i64 (fi - 1 + (es.length : Int)), .int .i64 ((rowsB es).length : Int), .int .i64 0, .bool lo] 75)

theorem heap_two5 {w : World} {g : Nat} {x0 x1 x2 x3 x4 y z : Value} {t : TypeId} (h : w.heap[g]? = some (.cells #[x0, x1, x2, x3, x4] t)) :
    ((w.setCell ⟨g, 2, none⟩ y).setCell ⟨g, 1, none⟩ z).drew.heap[g]? = some (.cells #[x0, z, y, x3, x4] t) := by
  simp [World.setCell, World.drew, Array.getElem?_modify, h]

theorem laidAt_length : ∀ (es : List En) (p : Int), (laidAt es p).length = es.length
  | [], _ => rfl
  | _ :: es, p => by simp only [laidAt, List.length_cons]; rw [laidAt_length es]

theorem mark_trm (a b : Int) (w : World) : (Instr.field 32 (.agg #[.int .i64 a, .int .i64 b]) 1).run Tryz.prog w = .ok (.int .i64 b) w := by
  unfold Instr.field
  go_simp
  simp [part, asAgg, go_sem]

set_option maxRecDepth 20000 in
set_option maxHeartbeats 3200000 in
theorem take_rows (es : List En) (w : World) (X F : Nat → Prop) (g gf : Nat) (rows : List Rw) (files : List Fi) (vr vf vb : Value) (rv : List (Rw × Value)) (fi : Int) (lo : Bool) (hl : ScAt w X g rows files vr vf rv) (hb : RepB w F (rowsB es) vb) (hF : ∀ k, F k → k < w.heap.size ∧ ¬ X k ∧ k ≠ gf)
    (hgf : w.heap[gf]? = some (.cells #[.int .i64 fi, .int .i64 (fi - 1), .int .i64 0, .int .i64 0, .bool lo] 75)) (hgX : ¬ X gf) (hch : chain (fi - 1) (lastT rows) es) (hle : (rowsB es).length ≤ 1099511627776) (hT : Hid (Tab w)) (h0 : ¬ X 0 ∧ gf ≠ 0) (hfi : 1 ≤ fi ∧ fi ≤ 10000000000) (hn : rows.length + es.length ≤ 1000000)
    (he : ∀ e ∈ es, (1 ≤ e.idx ∧ e.idx < 10000000000) ∧ (1 ≤ e.term ∧ e.term < 10000000000) ∧ (0 ≤ e.kind ∧ e.kind ≤ 255) ∧ e.b.length ≤ 1048576) :
    Calls Tryz.prog 44 #[.pointer (some ⟨g, 0, none⟩), .pointer (some ⟨gf, 0, none⟩), vb] w fun e w' => e = .returned (.tuple #[]) ∧ TkAt w X g gf rows files fi lo es w' := by
  have HAT0 : Hid (TkAt w X g gf rows files fi lo (es.take 0) w) := Lib.hid ⟨X, vr, vf, rv, by simpa [laidAt] using hl, fun k hk => .inl hk, Only.refl _ _, by simpa [rowsB] using hgf⟩
  obtain ⟨va, vc, rfl, hvl⟩ := hb.slice
  have hgfz := lt_of_heap hgf
  have HB : Hid (∀ wr, Only (fun k => X k ∨ k = gf) w wr → RepB wr (fun k => k < w.heap.size) (rowsB es) (.slice va (rowsB es).length vc)) := Lib.hid fun wr ho => hb.same (fun k hk => (hF k hk).1) fun k hk => ho.block k (hF k hk).1 fun h => by
    rcases h with h | h
    · exact (hF k hk).2.1 h
    · exact (hF k hk).2.2 h
  have HTB : Hid (∀ wr, Only (fun k => X k ∨ k = gf) w wr → Hid (Tab wr)) := Lib.hid fun wr ho => Lib.hid ⟨Nat.lt_of_lt_of_le hT.out.1 ho.size, fun j hj => by
    rw [World.cell?_of_block (a := ⟨0, j, none⟩) (ho.block 0 hT.out.1 fun h => by rcases h with h | h; exact h0.1 h; exact h0.2 h.symm)]
    exact hT.out.2 j hj⟩
  have HCH := Lib.hid hch
  have HE := Lib.hid he
  have HGX := Lib.hid hgX
  have HFB := Lib.hid hF
  obtain ⟨n, hn2⟩ : ∃ n, n = es.length := ⟨_, rfl⟩
  obtain ⟨T, hT2⟩ : ∃ T, T = (rowsB es).length := ⟨_, rfl⟩
  rw [← hT2] at hle hvl HB ⊢
  have HN := Lib.hid hn2
  have HT2 := Lib.hid hT2
  clear hl hb hF hgf hgX hch he hT2
  rw [← hn2] at hn
  clear hn2
  go_enter Tryz.func44, Tryz.ntmps44
  go_wp2_with fail
  go_loopg [6, 7, 8] n (fun gk _ _ _ wr => ∃ k : Nat, k + gk = n ∧ Hid (TkAt w X g gf rows files fi lo (es.take k) wr))
  case atStart => exact ⟨0, by omega, HAT0⟩
  case round =>
    obtain ⟨k, hk, HAT⟩ := hrel
    obtain ⟨X', vr', vf', rv', hsc, hX', ho, hgf'⟩ := HAT.out
    obtain ⟨f0, f1, f2, f3, f4, -, fz⟩ := five_cells hgf'
    obtain ⟨sk, hsk⟩ : ∃ sk, sk = (rowsB (es.take k)).length := ⟨_, rfl⟩
    rw [← hsk] at f2
    have HSK := Lib.hid hsk
    by_cases hkn : k < n
    · have hke : k < es.length := by rw [← HN.out]; exact hkn
      obtain ⟨e, hee⟩ : ∃ e, e = es[k] := ⟨_, rfl⟩
      have hdr := rowsB_drop es k hke
      have hsu := rowsB_succ es k hke
      rw [← hee, ← hsk] at hdr
      rw [← hee] at hsu
      have hlt := lastT_laid es rows (fi - 1) (lastT rows) k hke HCH.out rfl
      rw [← hee] at hlt
      have hem := HE.out e (by rw [hee]; exact List.getElem_mem hke)
      have hrp : 8 ≤ (sgRow e).length := by rw [sgRow_length]; omega
      have hsT : sk + (sgRow e).length ≤ T := by
        have h1 := congrArg List.length hdr
        rw [List.length_drop, List.length_append, ← HT2.out] at h1
        omega
      obtain ⟨m, hm⟩ : ∃ m, m = (sgRow e).length := ⟨_, rfl⟩
      rw [← hm] at hrp hsT
      have hbw := HB.out wr ho
      obtain ⟨gb, off, rfl, hFg, hc⟩ := RepB.elem2 hbw (i := 0) (by rw [← HT2.out]; omega)
      have hvc : T ≤ vc ∧ vc ≤ 9223372036854775807 := by
        rcases hbw with ⟨h, -⟩ | ⟨_, _, c', h, -, hl2, hmx, -⟩
        · have := HT2.out; rw [h] at this; simp at this; omega
        · cases h; exact ⟨by rw [HT2.out]; exact hl2, hmx⟩
      have hdd := RepB.dropN (w := wr) (F := fun q => q < w.heap.size) sk hFg hc (by rw [← HT2.out]; omega) (by rw [← HT2.out]; exact hvc.1) hvc.2
      have hvn : ¬ vc = sk := by omega
      rw [if_neg hvn, hdr, ← HT2.out] at hdd
      have hzw := ho.size
      have HENT := Lib.hid (entryOf_row e (rowsB (es.drop (k + 1))) _ _ wr hdd (fun q hq => Nat.lt_of_lt_of_le hq hzw) (by rw [← hdr, List.length_drop, ← HT2.out]; omega) (HTB.out wr ho) hem.1 hem.2.1 hem.2.2.1 hem.2.2.2)
      rw [← hm] at HENT
      have HTS : Hid (es.take (k + 1) = es.take k ++ [e]) := Lib.hid (by rw [hee, List.take_succ_eq_append_getElem hke])
      have HDD := Lib.hid hdr
      have HSU := Lib.hid hsu
      have HLT := Lib.hid hlt
      have HM := Lib.hid hm
      have HEM := Lib.hid hem
      have HSC := Lib.hid hsc
      have HX := Lib.hid hX'
      have HO := Lib.hid ho
      have HG := Lib.hid hgf'
      have q1 : decide ((sk : Int) < (T : Int)) = true := decide_eq_true (by omega)
      have q2 : (sk : Int) ≤ (T : Int) ∧ (T : Int) ≤ (vc : Int) := by omega
      have hvc1 := hvc.1
      have hvc2 := hvc.2
      clear hdr hsu hlt hem hm hbw hc hvc hdd hsk hsc hX' ho hgf' hee
      go_wp2_with fail
      refine HENT.out.mono ?_
      rintro x w1 ⟨hb1, u, rfl, hu⟩
      obtain ⟨ua, uc, rfl, -⟩ := hu.slice
      obtain ⟨ei, et, ek, b⟩ := e
      unfold enAgg
      simp only at hu HLT HEM ⊢
      obtain ⟨bn, hbn⟩ : ∃ bn, bn = b.length := ⟨_, rfl⟩
      rw [← hbn] at hu ⊢
      obtain ⟨W2, hW2⟩ : ∃ W2, W2 = w1.alloc (.cells #[.int .i64 ei, .int .i64 et, .int .i64 ek, .slice ua bn uc] 36) := ⟨_, rfl⟩
      have hb12 : Below w1.heap.size w1 W2 := by rw [hW2]; exact below_alloc _ _
      have hx2 : W2.heap[w1.heap.size]? = some (.cells #[.int .i64 ei, .int .i64 et, .int .i64 ek, .slice ua bn uc] 36) := by rw [hW2]; exact heap_new _ _ _ rfl
      have hb2 : Below wr.heap.size wr W2 := hb1.trans (hb12.mono hb1.size)
      have HU2 : Hid (RepB W2 (fun q => wr.heap.size ≤ q ∧ q < W2.heap.size) b (.slice ua bn uc)) := Lib.hid (hu.same (fun q hq => ⟨hq.1, Nat.lt_of_lt_of_le hq.2 hb12.size⟩) fun q hq => hb12.block q hq.2)
      have HB2 := Lib.hid hb2
      have HB1 := Lib.hid hb1
      have HX2 := Lib.hid hx2
      have HBN := Lib.hid hbn
      have HW2 := Lib.hid hW2
      have hsc2 := HSC.out.same hb2.size fun q hq => hb2.block q (HSC.out.lt q hq)
      have HSC2 := Lib.hid hsc2
      have HG2 := Lib.hid (old_below HG.out hb2)
      have keep : ∀ {q o : Nat} {v : Value}, q < W2.heap.size → W2.cell? ⟨q, o, none⟩ = some v → ∀ w', Below W2.heap.size W2 w' → w'.cell? ⟨q, o, none⟩ = some v := fun {q o v} hq hv w' hb => (World.cell?_of_block (a := ⟨q, o, none⟩) (hb.block q hq)).trans hv
      obtain ⟨e0, e1, e2, e3, -, -, -, -, ez⟩ := sh_four hx2
      obtain ⟨-, k1, k2, -, -, -, kz⟩ := five_cells HG2.out
      have r0 := keep ez e0
      have r1 := keep ez e1
      have r2 := keep kz k1
      have hS : Below W2.heap.size W2 W2.drew := (Below.refl _ _).drew
      have hLT1 := HLT.out.1
      have p2 : decide (et < lastT (rows ++ laidAt (es.take k) 0)) = false := decide_eq_false (by have := HLT.out.2; omega)
      obtain ⟨kk, hkk⟩ : ∃ kk : Nat, kk = (es.take k).length := ⟨_, rfl⟩
      rw [← hkk] at r2
      have HKK := Lib.hid hkk
      have hkb : kk ≤ 1000000 := by rw [hkk, List.length_take]; omega
      have p1 : (ei != IntKind.i64.wrap (fi - 1 + (kk : Int) + 1)) = false := by
        have hkk2 : kk = k := by rw [hkk, List.length_take, ← HN.out]; omega
        rw [IntWalk.i64_in _ (by omega), hLT1, hkk2]
        simp only [bne_eq_false_iff_eq]
        omega
      obtain ⟨tl, htl⟩ : ∃ tl, tl = lastT (rows ++ laidAt (es.take k) 0) := ⟨_, rfl⟩
      rw [← htl] at p2
      have HTL := Lib.hid htl
      clear htl
      clear hb1 hu hb12 hx2 hb2 hbn hW2 hsc2 keep e0 e1 e2 e3 k1 k2 ez kz hLT1 hkk f0 f1 f2 f3 f4
      go_wp2_with fail
      rw [← HW2.out]
      refine wp_region_held (S := fun w' => Below W2.heap.size W2 w') (by kernel_rfl) ?_
      refine H_take (i := 0) (v := ?_) rfl (by as_aux_lemma => kernel_rfl) (by as_aux_lemma => kernel_rfl) (by as_aux_lemma => kernel_rfl) (fun _ _ _ h => h) (by rfl) hS ?_ ?_
      rotate_left
      · intro w' hw'; go_simp; with_reducible rfl
      go_simp
      refine H_take (i := 1) (v := ?_) rfl (by as_aux_lemma => kernel_rfl) (by as_aux_lemma => kernel_rfl) (by as_aux_lemma => kernel_rfl) (fun _ _ _ h => h) (by rfl) hS ?_ ?_
      rotate_left
      · intro w' hw'; go_simp; with_reducible rfl
      go_simp
      refine H_take (i := 2) (v := ?_) rfl (by as_aux_lemma => kernel_rfl) (by as_aux_lemma => kernel_rfl) (by as_aux_lemma => kernel_rfl) (fun _ _ _ h => h) (by rfl) hS ?_ ?_
      rotate_left
      · intro w' hw'; go_simp; with_reducible rfl
      go_simp
      refine H_take (i := 3) (v := ?_) rfl (by as_aux_lemma => kernel_rfl) (by as_aux_lemma => kernel_rfl) (by as_aux_lemma => kernel_rfl) (fun _ _ _ h => h) (by rfl) hS ?_ ?_
      rotate_left
      · intro w' hw'; go_simp; with_reducible rfl
      go_simp
      refine H_take (i := 4) (v := ?_) rfl (by as_aux_lemma => kernel_rfl) (by as_aux_lemma => kernel_rfl) (by as_aux_lemma => kernel_rfl) (fun _ _ _ h => h) (by rfl) hS ?_ ?_
      rotate_left
      · intro w' hw'; go_simp; with_reducible rfl
      go_simp
      refine H_take (i := 5) (v := ?_) rfl (by as_aux_lemma => kernel_rfl) (by as_aux_lemma => kernel_rfl) (by as_aux_lemma => kernel_rfl) (fun _ _ _ h => h) (by rfl) hS ?_ ?_
      rotate_left
      · intro w' hw'; go_simp; with_reducible rfl
      go_simp
      refine H_take (i := 6) (v := ?_) rfl (by as_aux_lemma => kernel_rfl) (by as_aux_lemma => kernel_rfl) (by as_aux_lemma => kernel_rfl) (fun _ _ _ h => h) (by rfl) hS ?_ ?_
      rotate_left
      · intro w' hw'; go_simp; with_reducible rfl
      go_simp
      refine H_take (i := 7) (v := ?_) rfl (by as_aux_lemma => kernel_rfl) (by as_aux_lemma => kernel_rfl) (by as_aux_lemma => kernel_rfl) (fun _ _ _ h => h) (by rfl) hS ?_ ?_
      rotate_left
      · intro w' hw'; go_simp; with_reducible rfl
      go_simp
      refine H_take (i := 8) (v := ?_) rfl (by as_aux_lemma => kernel_rfl) (by as_aux_lemma => kernel_rfl) (by as_aux_lemma => kernel_rfl) (fun _ _ _ h => h) (by rfl) hS ?_ ?_
      rotate_left
      · intro w' hw'; go_simp; with_reducible rfl
      go_simp
      refine H_take (i := 9) (v := ?_) rfl (by as_aux_lemma => kernel_rfl) (by as_aux_lemma => kernel_rfl) (by as_aux_lemma => kernel_rfl) (fun _ _ _ h => h) (by rfl) hS ?_ ?_
      rotate_left
      · intro w' hw'; go_simp; with_reducible rfl
      go_simp
      refine H_take (i := 10) (v := ?_) rfl (by as_aux_lemma => kernel_rfl) (by as_aux_lemma => kernel_rfl) (by as_aux_lemma => kernel_rfl) (fun _ _ _ h => h) (by rfl) hS ?_ ?_
      rotate_left
      · intro w' hw'; go_simp; with_reducible rfl
      go_simp
      refine H_take (i := 11) (v := ?_) rfl (by as_aux_lemma => kernel_rfl) (by as_aux_lemma => kernel_rfl) (by as_aux_lemma => kernel_rfl) (fun _ _ _ h => h) (by rfl) hS ?_ ?_
      rotate_left
      · intro w' hw'; go_simp; with_reducible rfl
      go_simp
      refine H_take (i := 12) (v := ?_) rfl (by as_aux_lemma => kernel_rfl) (by as_aux_lemma => kernel_rfl) (by as_aux_lemma => kernel_rfl) (fun _ _ _ h => h) (by rfl) hS ?_ ?_
      rotate_left
      · intro w' hw'; go_simp; with_reducible rfl
      go_simp
      refine H_take (i := 13) (v := ?_) rfl (by as_aux_lemma => kernel_rfl) (by as_aux_lemma => kernel_rfl) (by as_aux_lemma => kernel_rfl) (fun _ _ _ h => h) (by rfl) hS ?_ ?_
      rotate_left
      · intro w' hw'; go_simp; with_reducible rfl
      go_simp
      refine H_take (i := 14) (v := ?_) rfl (by as_aux_lemma => kernel_rfl) (by as_aux_lemma => kernel_rfl) (by as_aux_lemma => kernel_rfl) (fun _ _ _ h => h) (by rfl) hS ?_ ?_
      rotate_left
      · intro w' hw'; go_simp; with_reducible rfl
      go_simp
      refine H_take (i := 15) (v := ?_) rfl (by as_aux_lemma => kernel_rfl) (by as_aux_lemma => kernel_rfl) (by as_aux_lemma => kernel_rfl) (fun _ _ _ h => h) (by rfl) hS ?_ ?_
      rotate_left
      · intro w' hw'; go_simp; with_reducible rfl
      go_simp
      refine H_one (i := 16) (by as_aux_lemma => kernel_rfl) rfl (by rfl) ?_
      go_simp
      refine ((HSC2.out.same hS.size fun q hq => hS.block q (HSC2.out.lt q hq)).last_any).mono ?_
      rintro x w3 ⟨lx, rfl, hb3⟩
      replace hb3 : Below W2.heap.size W2 w3 := hS.trans (hb3.mono hS.size)
      rw [← HTL.out]
      have hfm := mark_trm lx tl
      refine ⟨hb3, ?_⟩
      go_simp
      refine H_take (i := 17) (v := ?_) rfl (by as_aux_lemma => kernel_rfl) (by as_aux_lemma => kernel_rfl) (by as_aux_lemma => kernel_rfl) (fun _ _ _ h => h) (by rfl) hb3 ?_ ?_
      rotate_left
      · intro w' hw'; go_simp; with_reducible rfl
      go_simp
      refine H_take (i := 18) (v := ?_) rfl (by as_aux_lemma => kernel_rfl) (by as_aux_lemma => kernel_rfl) (by as_aux_lemma => kernel_rfl) (fun _ _ _ h => h) (by rfl) hb3 ?_ ?_
      rotate_left
      · intro w' hw'; go_simp; with_reducible rfl
      go_simp
      refine H_take (i := 19) (v := ?_) rfl (by as_aux_lemma => kernel_rfl) (by as_aux_lemma => kernel_rfl) (by as_aux_lemma => kernel_rfl) (fun _ _ _ h => h) (by rfl) hb3 ?_ ?_
      rotate_left
      · intro w' hw'; go_simp; with_reducible rfl
      go_simp
      refine wpAnyH_done (by as_aux_lemma => kernel_rfl) ?_ _
      have HB3 : Hid (Below wr.heap.size wr w3) := Lib.hid (HB2.out.trans (hb3.mono HB2.out.size))
      have HB23 := Lib.hid hb3
      clear hb3 hfm r0 r1 r2 hS p1 p2
      have hsc3 := HSC.out.same HB3.out.size fun q hq => HB3.out.block q (HSC.out.lt q hq)
      obtain ⟨ra, rc, rfl, hrc, hrcm⟩ := row5_slice hsc3.rrow
      obtain ⟨k6, hk6⟩ : ∃ k6, k6 = rv'.length := ⟨_, rfl⟩
      have hk6b : k6 ≤ 1000000 := by
        have h1 := congrArg List.length hsc3.rows
        have h2 := laidAt_length (es.take k) 0
        rw [List.length_map, List.length_append, h2, List.length_take] at h1
        omega
      have HK6 := Lib.hid hk6
      have HSC3 := Lib.hid hsc3
      have hx3 := old_below HX2.out HB23.out
      have hg3 := old_below HG.out HB3.out
      have hzz : wr.heap.size ≤ w1.heap.size ∧ w1.heap.size < w3.heap.size ∧ gf < w3.heap.size := by
        have := HB1.out.size
        have h2 := lt_of_heap hx3
        have h3 := lt_of_heap hg3
        exact ⟨this, h2, h3⟩
      have hne : w1.heap.size ≠ gf := by have := lt_of_heap HG.out; omega
      have hXe : ¬ X' w1.heap.size := fun h => by have := HSC.out.lt _ h; omega
      have hXf : ¬ X' gf := fun h => by
        rcases HX.out gf h with h | h
        · exact HGX.out h
        · omega
      have keep : ∀ {q o : Nat} {v : Value}, q < w3.heap.size → ¬ X' q → w3.cell? ⟨q, o, none⟩ = some v → ∀ w', Only X' w3 w' → w'.cell? ⟨q, o, none⟩ = some v := fun {q o v} hq hx hv w' hb => (World.cell?_of_block (a := ⟨q, o, none⟩) (hb.block q hq hx)).trans hv
      obtain ⟨e0, e1, e2, e3, -, -, -, -, ez⟩ := sh_four hx3
      obtain ⟨-, -, g2, -, -, -, gz⟩ := five_cells hg3
      have r0 := keep ez hXe e0
      have r1 := keep ez hXe e1
      have r2 := keep ez hXe e2
      have r3 := keep ez hXe e3
      rw [← HSK.out] at g2
      have r4 := keep gz hXf g2
      obtain ⟨-, -, c2, -, -, -, cz⟩ := five_cells hsc3.box
      rw [← hk6] at c2
      have hS : Only X' w3 w3.drew := (Only.refl _ _).drawn
      have HCZ := Lib.hid cz
      have HC2 := Lib.hid c2
      have HX3 := Lib.hid hx3
      have HG3 := Lib.hid hg3
      have HXF := Lib.hid hXf
      have HXE := Lib.hid hXe
      have HU3 : Hid (RepB w3 (fun q => wr.heap.size ≤ q ∧ q < w3.heap.size) b (.slice ua bn uc)) := Lib.hid (HU2.out.same (fun q hq => ⟨hq.1, Nat.lt_of_lt_of_le hq.2 HB23.out.size⟩) fun q hq => HB23.out.block q hq.2)
      clear keep e0 e1 e2 e3 ez g2 gz hx3 hg3 hXe hXf hsc3 hk6 hrc hrcm
      go_wp2_with fail
      refine wp_region_held (S := fun w' => Only X' w3 w') (by kernel_rfl) ?_
      refine H_take (i := 0) (v := ?_) rfl (by as_aux_lemma => kernel_rfl) (by as_aux_lemma => kernel_rfl) (by as_aux_lemma => kernel_rfl) (fun _ _ _ h => h) (by rfl) hS ?_ ?_
      rotate_left
      · intro w' hw'; go_simp; with_reducible rfl
      go_simp
      refine H_take (i := 1) (v := ?_) rfl (by as_aux_lemma => kernel_rfl) (by as_aux_lemma => kernel_rfl) (by as_aux_lemma => kernel_rfl) (fun _ _ _ h => h) (by rfl) hS ?_ ?_
      rotate_left
      · intro w' hw'; go_simp; with_reducible rfl
      go_simp
      refine H_take (i := 2) (v := ?_) rfl (by as_aux_lemma => kernel_rfl) (by as_aux_lemma => kernel_rfl) (by as_aux_lemma => kernel_rfl) (fun _ _ _ h => h) (by rfl) hS ?_ ?_
      rotate_left
      · intro w' hw'; go_simp; with_reducible rfl
      go_simp
      refine H_take (i := 3) (v := ?_) rfl (by as_aux_lemma => kernel_rfl) (by as_aux_lemma => kernel_rfl) (by as_aux_lemma => kernel_rfl) (fun _ _ _ h => h) (by rfl) hS ?_ ?_
      rotate_left
      · intro w' hw'; go_simp; with_reducible rfl
      go_simp
      refine H_take (i := 5) (v := ?_) rfl (by as_aux_lemma => kernel_rfl) (by as_aux_lemma => kernel_rfl) (by as_aux_lemma => kernel_rfl) (fun _ _ _ h => h) (by rfl) hS ?_ ?_
      rotate_left
      · intro w' hw'; go_simp; with_reducible rfl
      go_simp
      refine H_take (i := 6) (v := ?_) rfl (by as_aux_lemma => kernel_rfl) (by as_aux_lemma => kernel_rfl) (by as_aux_lemma => kernel_rfl) (fun _ _ _ h => h) (by rfl) hS ?_ ?_
      rotate_left
      · intro w' hw'; go_simp; with_reducible rfl
      go_simp
      refine H_take (i := 7) (v := ?_) rfl (by as_aux_lemma => kernel_rfl) (by as_aux_lemma => kernel_rfl) (by as_aux_lemma => kernel_rfl) (fun _ _ _ h => h) (by rfl) hS ?_ ?_
      rotate_left
      · intro w' hw'; go_simp; with_reducible rfl
      go_simp
      refine H_take (i := 8) (v := ?_) rfl (by as_aux_lemma => kernel_rfl) (by as_aux_lemma => kernel_rfl) (by as_aux_lemma => kernel_rfl) (fun _ _ _ h => h) (by rfl) hS ?_ ?_
      rotate_left
      · intro w' hw'; go_simp; with_reducible rfl
      go_simp
      refine H_take (i := 9) (v := ?_) rfl (by as_aux_lemma => kernel_rfl) (by as_aux_lemma => kernel_rfl) (by as_aux_lemma => kernel_rfl) (fun _ _ _ h => h) (by rfl) hS ?_ ?_
      rotate_left
      · intro w' hw'; go_simp; with_reducible rfl
      go_simp
      refine H_take (i := 10) (v := ?_) rfl (by as_aux_lemma => kernel_rfl) (by as_aux_lemma => kernel_rfl) (by as_aux_lemma => kernel_rfl) (fun _ _ _ h => h) (by rfl) hS ?_ ?_
      rotate_left
      · intro w' hw'; go_simp; with_reducible rfl
      go_simp
      refine H_both (i := 4) (j := 11) (by as_aux_lemma => kernel_rfl) rfl rfl (by rfl) (by rfl) ?_ ?_
      · have c2' : w3.drew.cell? ⟨g, 2, none⟩ = some (.slice ra k6 rc) := HC2.out
        go_simp
        clear c2 c2'
        refine H_one (i := 11) (by as_aux_lemma => kernel_rfl) rfl (by rfl) ?_
        go_simp
        have hS8 : Only X' w3 (w3.alloc (.cells #[.int .i64 ei, .int .i64 et, .int .i64 ek, .slice ua bn uc, .int .i64 sk] 77)).drew := Only.of_below (below_alloc _ _).drew
        refine ⟨hS8, ?_⟩
        refine H_one (i := 12) (by as_aux_lemma => kernel_rfl) rfl (by rfl) ?_
        obtain ⟨ib, hib, hib0, hib1, hib2⟩ := info_parts infoSgRow
        have hrow8 : (w3.alloc (.cells #[.int .i64 ei, .int .i64 et, .int .i64 ek, .slice ua bn uc, .int .i64 sk] 77)).drew.ownsRow 0 77 5 (.slice ra k6 rc) k6 (rwCells rv') := by
          have h1 := HSC3.out.rrow
          rw [← HK6.out] at h1
          exact ownsRow_same h1 fun q hq => Below.heap_alloc _ _ _ (h1.lt q hq).2
        refine wp_append_any _ _ _ 57 rfl 0 77 ib _ 5 56 Tryz.underlying57 hib hib0 hib1 hib2 rfl (by decide) (.slice ra k6 rc) k6 (rwCells rv') rfl hrow8 (.slice (some ⟨w3.heap.size, 0, none⟩) 1 1) rfl 1 [.int .i64 ei, .int .i64 et, .int .i64 ek, .slice ua bn uc, .int .i64 sk] (yields_five (w := w3.drew) rfl) (by unfold maxLen; omega) (by omega) (Nat.zero_le _) ?_
        intro v9 w9 happ
        obtain ⟨la9, lc9, rfl⟩ := owned_slice happ.1
        have HPU := Lib.hid (HSC.out.pushRow (e := ⟨ei, et, ek, b⟩) (po := (sk : Int)) (w1 := w3.drew) HB3.out.drew HU3.out (by rw [← HK6.out]; exact happ))
        have hgz9 : Only X' w3 w9 := by
          have hg9 := happ.2.1
          have z9 := hg9.size
          simp only [World.size_drew, World.size_alloc] at z9
          refine ⟨hg9.os, hg9.tape, hg9.output, by omega, fun q hq hn => ?_⟩
          have h1 := hg9.block q (by simp; omega) (fun e => hn ((HSC3.out.fr q (by rw [← HK6.out]; exact e.symm)).1))
          exact h1.trans (Below.heap_alloc _ _ _ hq)
        have hbox9 : w9.heap[g]? = _ := ((happ.2.1.block g (by have := HCZ.out; simp; omega) (fun e => (HSC3.out.fr g (by rw [← HK6.out]; exact e.symm)).2.1 rfl)).trans (Below.heap_alloc _ _ _ HCZ.out)).trans HSC3.out.box
        have hc9 := (five_cells hbox9).2.2.1
        have hf9 : w9.frozen? ⟨g, 2, none⟩ = false := frozen_of_row _ _ 2 _ _ hbox9
        clear hbox9
        have hz9 : g < w9.heap.size := Nat.lt_of_lt_of_le HCZ.out hgz9.size
        obtain ⟨w10, hw10⟩ : ∃ w10, w10 = w9.setCell ⟨g, 2, none⟩ (.slice la9 (k6 + 1) lc9) := ⟨_, rfl⟩
        have hox : Only X' w3 w10 := by rw [hw10]; exact hgz9.set (.inl HSC.out.fg) _
        have HOX := Lib.hid hox
        rw [← hw10] at HPU
        have HW10 := Lib.hid hw10
        have HW9 : Hid (w9.heap.size = w10.heap.size) := Lib.hid (by rw [hw10]; simp)
        clear happ hrow8 hw10 hox
        refine ⟨hgz9, ?_⟩
        refine H_take (i := 13) (v := ?_) rfl (by as_aux_lemma => kernel_rfl) (by as_aux_lemma => kernel_rfl) (by as_aux_lemma => kernel_rfl) (fun _ _ _ h => h) (by rfl) hgz9 ?_ ?_
        rotate_left
        · intro w' hw'; go_simp; with_reducible rfl
        go_simp
        refine H_take (i := 14) (v := ?_) rfl (by as_aux_lemma => kernel_rfl) (by as_aux_lemma => kernel_rfl) (by as_aux_lemma => kernel_rfl) (fun _ _ _ h => h) (by rfl) hgz9 ?_ ?_
        rotate_left
        · intro w' hw'; go_simp; with_reducible rfl
        go_simp
        refine H_one (i := 15) (by as_aux_lemma => kernel_rfl) rfl (by rfl) ?_
        go_simp
        rw [← HW10.out]
        refine ⟨HOX.out, ?_⟩
        refine wpAnyH_done (by as_aux_lemma => kernel_rfl) ?_ _
        clear r0 r1 r2 r3 r4 hS hS8 hgz9 hc9 hf9 hz9
        have hx10 : w10.heap[w1.heap.size]? = _ := (HOX.out.block _ hzz.2.1 HXE.out).trans HX3.out
        have hg10 : w10.heap[gf]? = _ := (HOX.out.block _ hzz.2.2 HXF.out).trans HG3.out
        have HG10 := Lib.hid hg10
        obtain ⟨e0, -, -, -, -, -, -, -, ez⟩ := sh_four hx10
        obtain ⟨-, g1, g2, -, -, -, gz⟩ := five_cells hg10
        rw [← HSK.out] at g2
        have gf1 : w10.frozen? ⟨gf, 1, none⟩ = false := frozen_of_row _ _ 1 _ _ hg10
        have gf2 : w10.frozen? ⟨gf, 2, none⟩ = false := frozen_of_row _ _ 2 _ _ hg10
        have r0 : ∀ w', Only (fun q => q = gf) w10 w' → w'.cell? ⟨w1.heap.size, 0, none⟩ = some (.int .i64 ei) := fun w' h => (World.cell?_of_block (a := ⟨w1.heap.size, 0, none⟩) (h.block _ ez (by omega))).trans e0
        have hS : Only (fun q => q = gf) w10 w10.drew := (Only.refl _ _).drawn
        clear e0
        go_wp2_with fail
        refine wp_region_held (S := fun w' => Only (fun q => q = gf) w10 w') (by kernel_rfl) ?_
        refine H_take (i := 0) (v := ?_) rfl (by as_aux_lemma => kernel_rfl) (by as_aux_lemma => kernel_rfl) (by as_aux_lemma => kernel_rfl) (fun _ _ _ h => h) (by rfl) hS ?_ ?_
        rotate_left
        · intro w' hw'; go_simp; with_reducible rfl
        go_simp
        refine H_take (i := 1) (v := ?_) rfl (by as_aux_lemma => kernel_rfl) (by as_aux_lemma => kernel_rfl) (by as_aux_lemma => kernel_rfl) (fun _ _ _ h => h) (by rfl) hS ?_ ?_
        rotate_left
        · intro w' hw'; go_simp; with_reducible rfl
        go_simp
        refine H_take (i := 2) (v := ?_) rfl (by as_aux_lemma => kernel_rfl) (by as_aux_lemma => kernel_rfl) (by as_aux_lemma => kernel_rfl) (fun _ _ _ h => h) (by rfl) hS ?_ ?_
        rotate_left
        · intro w' hw'; go_simp; with_reducible rfl
        go_simp
        refine H_take (i := 3) (v := ?_) rfl (by as_aux_lemma => kernel_rfl) (by as_aux_lemma => kernel_rfl) (by as_aux_lemma => kernel_rfl) (fun _ _ _ h => h) (by rfl) hS ?_ ?_
        rotate_left
        · intro w' hw'; go_simp; with_reducible rfl
        go_simp
        refine H_take (i := 4) (v := ?_) rfl (by as_aux_lemma => kernel_rfl) (by as_aux_lemma => kernel_rfl) (by as_aux_lemma => kernel_rfl) (fun _ _ _ h => h) (by rfl) hS ?_ ?_
        rotate_left
        · intro w' hw'; go_simp; with_reducible rfl
        go_simp
        refine H_take (i := 6) (v := ?_) rfl (by as_aux_lemma => kernel_rfl) (by as_aux_lemma => kernel_rfl) (by as_aux_lemma => kernel_rfl) (fun _ _ _ h => h) (by rfl) hS ?_ ?_
        rotate_left
        · intro w' hw'; go_simp; with_reducible rfl
        go_simp
        refine H_take (i := 8) (v := ?_) rfl (by as_aux_lemma => kernel_rfl) (by as_aux_lemma => kernel_rfl) (by as_aux_lemma => kernel_rfl) (fun _ _ _ h => h) (by rfl) hS ?_ ?_
        rotate_left
        · intro w' hw'; go_simp; with_reducible rfl
        go_simp
        refine H_take (i := 9) (v := ?_) rfl (by as_aux_lemma => kernel_rfl) (by as_aux_lemma => kernel_rfl) (by as_aux_lemma => kernel_rfl) (fun _ _ _ h => h) (by rfl) hS ?_ ?_
        rotate_left
        · intro w' hw'; go_simp; with_reducible rfl
        go_simp
        refine H_one (i := 5) (by as_aux_lemma => kernel_rfl) rfl (by rfl) ?_
        go_simp
        refine H_take (i := 7) (v := ?_) rfl (by as_aux_lemma => kernel_rfl) (by as_aux_lemma => kernel_rfl) (by as_aux_lemma => kernel_rfl) (fun _ _ _ h => h) (by rfl) hS ?_ ?_
        rotate_left
        · intro w' hw'; go_simp; with_reducible rfl
        go_simp
        refine H_take (i := 10) (v := ?_) rfl (by as_aux_lemma => kernel_rfl) (by as_aux_lemma => kernel_rfl) (by as_aux_lemma => kernel_rfl) (fun _ _ _ h => h) (by rfl) hS ?_ ?_
        rotate_left
        · intro w' hw'; go_simp; with_reducible rfl
        go_simp
        refine H_take (i := 11) (v := ?_) rfl (by as_aux_lemma => kernel_rfl) (by as_aux_lemma => kernel_rfl) (by as_aux_lemma => kernel_rfl) (fun _ _ _ h => h) (by rfl) hS ?_ ?_
        rotate_left
        · intro w' hw'; go_simp; with_reducible rfl
        go_simp
        refine H_one (i := 12) (by as_aux_lemma => kernel_rfl) rfl (by rfl) ?_
        go_simp
        have hA : Only (fun q => q = gf) w10 (w10.setCell ⟨gf, 2, none⟩ (.int .i64 (IntKind.i64.wrap ((sk : Int) + (m : Int))))).drew := ((Only.refl (fun q => q = gf) w10).set (.inl rfl) _).drawn
        refine ⟨hA, ?_⟩
        refine H_take (i := 13) (v := ?_) rfl (by as_aux_lemma => kernel_rfl) (by as_aux_lemma => kernel_rfl) (by as_aux_lemma => kernel_rfl) (fun _ _ _ h => h) (by rfl) hA ?_ ?_
        rotate_left
        · intro w' hw'; go_simp; with_reducible rfl
        go_simp
        refine H_take (i := 14) (v := ?_) rfl (by as_aux_lemma => kernel_rfl) (by as_aux_lemma => kernel_rfl) (by as_aux_lemma => kernel_rfl) (fun _ _ _ h => h) (by rfl) hA ?_ ?_
        rotate_left
        · intro w' hw'; go_simp; with_reducible rfl
        go_simp
        refine H_one (i := 15) (by as_aux_lemma => kernel_rfl) rfl (by rfl) ?_
        go_simp
        have hB : Only (fun q => q = gf) w10 ((w10.setCell ⟨gf, 2, none⟩ (.int .i64 (IntKind.i64.wrap ((sk : Int) + (m : Int))))).setCell ⟨gf, 1, none⟩ (.int .i64 ei)).drew := (((Only.refl (fun q => q = gf) w10).set (.inl rfl) _).set (.inl rfl) _).drawn
        refine ⟨hB, ?_⟩
        refine wpAnyH_done (by as_aux_lemma => kernel_rfl) ?_ _
        have HFIN : Hid (TkAt w X g gf rows files fi lo (es.take (k + 1)) ((w10.setCell ⟨gf, 2, none⟩ (.int .i64 (IntKind.i64.wrap ((sk : Int) + (m : Int))))).setCell ⟨gf, 1, none⟩ (.int .i64 ei)).drew) := Lib.hid (by
          obtain ⟨p1, p2⟩ := HPU.out
          have hgfr := lt_of_heap HG.out
          have hrw : rows ++ laidAt (es.take (k + 1)) 0 = rows ++ laidAt (es.take k) 0 ++ [⟨⟨ei, et, ek, b⟩, (sk : Int)⟩] := by
            rw [HTS.out, laidAt_snoc, ← List.append_assoc, ← HSK.out, Int.zero_add]
          rw [← hrw] at p1
          have p3 := p1.same hB.size fun q hq => hB.block q (p1.lt q hq) fun e => by
            subst e
            rcases hq with hq | hq
            · exact HXF.out hq
            · omega
          refine ⟨_, _, _, _, p3, fun q hq => ?_, (HO.out.thn (fun q hq => ?_) p2).thn (fun q hq => .inl (.inr hq)) hB, ?_⟩
          · rcases hq with hq | hq
            · exact HX.out q hq
            · have := HO.out.size; exact .inr (by omega)
          · rcases HX.out q hq with h | h
            · exact .inl (.inl h)
            · exact .inr h
          · have h1 := heap_two5 (y := .int .i64 (IntKind.i64.wrap ((sk : Int) + (m : Int)))) (z := .int .i64 ei) HG10.out
            refine h1.trans ?_
            have h2 := HLT.out.1
            have h3 := congrArg List.length HSU.out
            rw [List.length_append, ← HSK.out, ← HM.out] at h3
            have h4 := congrArg List.length HTS.out
            rw [List.length_append, List.length_singleton, ← HKK.out] at h4
            have h5 : kk = k := by rw [HKK.out, List.length_take, ← HN.out]; omega
            rw [IntWalk.i64_in _ (by omega), h2, h3, h4, h5]
            congr 5
            · congr 1; push_cast; omega)
        go_wp2_with fail
        go_roundg (gk - 1)
        case rel => exact ⟨k + 1, by omega, HFIN⟩
        case measure => omega
      · go_simp
        have hS8 : Only X' w3 (w3.alloc (.cells #[.int .i64 ei, .int .i64 et, .int .i64 ek, .slice ua bn uc, .int .i64 sk] 77)).drew := Only.of_below (below_alloc _ _).drew
        refine ⟨hS8, ?_⟩
        have c2' : (w3.alloc (.cells #[.int .i64 ei, .int .i64 et, .int .i64 ek, .slice ua bn uc, .int .i64 sk] 77)).drew.cell? ⟨g, 2, none⟩ = some (.slice ra k6 rc) := (World.cell?_of_block (a := ⟨g, 2, none⟩) (Below.heap_alloc _ _ _ HCZ.out)).trans HC2.out
        refine H_one (i := 4) (by as_aux_lemma => kernel_rfl) rfl (by rfl) ?_
        go_simp
        clear c2 c2'
        refine H_one (i := 12) (by as_aux_lemma => kernel_rfl) rfl (by rfl) ?_
        obtain ⟨ib, hib, hib0, hib1, hib2⟩ := info_parts infoSgRow
        have hrow8 : (w3.alloc (.cells #[.int .i64 ei, .int .i64 et, .int .i64 ek, .slice ua bn uc, .int .i64 sk] 77)).drew.ownsRow 0 77 5 (.slice ra k6 rc) k6 (rwCells rv') := by
          have h1 := HSC3.out.rrow
          rw [← HK6.out] at h1
          exact ownsRow_same h1 fun q hq => Below.heap_alloc _ _ _ (h1.lt q hq).2
        refine wp_append_any _ _ _ 57 rfl 0 77 ib _ 5 56 Tryz.underlying57 hib hib0 hib1 hib2 rfl (by decide) (.slice ra k6 rc) k6 (rwCells rv') rfl hrow8 (.slice (some ⟨w3.heap.size, 0, none⟩) 1 1) rfl 1 [.int .i64 ei, .int .i64 et, .int .i64 ek, .slice ua bn uc, .int .i64 sk] (yields_five (w := w3.drew) rfl) (by unfold maxLen; omega) (by omega) (Nat.zero_le _) ?_
        intro v9 w9 happ
        obtain ⟨la9, lc9, rfl⟩ := owned_slice happ.1
        have HPU := Lib.hid (HSC.out.pushRow (e := ⟨ei, et, ek, b⟩) (po := (sk : Int)) (w1 := w3.drew) HB3.out.drew HU3.out (by rw [← HK6.out]; exact happ))
        have hgz9 : Only X' w3 w9 := by
          have hg9 := happ.2.1
          have z9 := hg9.size
          simp only [World.size_drew, World.size_alloc] at z9
          refine ⟨hg9.os, hg9.tape, hg9.output, by omega, fun q hq hn => ?_⟩
          have h1 := hg9.block q (by simp; omega) (fun e => hn ((HSC3.out.fr q (by rw [← HK6.out]; exact e.symm)).1))
          exact h1.trans (Below.heap_alloc _ _ _ hq)
        have hbox9 : w9.heap[g]? = _ := ((happ.2.1.block g (by have := HCZ.out; simp; omega) (fun e => (HSC3.out.fr g (by rw [← HK6.out]; exact e.symm)).2.1 rfl)).trans (Below.heap_alloc _ _ _ HCZ.out)).trans HSC3.out.box
        have hc9 := (five_cells hbox9).2.2.1
        have hf9 : w9.frozen? ⟨g, 2, none⟩ = false := frozen_of_row _ _ 2 _ _ hbox9
        clear hbox9
        have hz9 : g < w9.heap.size := Nat.lt_of_lt_of_le HCZ.out hgz9.size
        obtain ⟨w10, hw10⟩ : ∃ w10, w10 = w9.setCell ⟨g, 2, none⟩ (.slice la9 (k6 + 1) lc9) := ⟨_, rfl⟩
        have hox : Only X' w3 w10 := by rw [hw10]; exact hgz9.set (.inl HSC.out.fg) _
        have HOX := Lib.hid hox
        rw [← hw10] at HPU
        have HW10 := Lib.hid hw10
        have HW9 : Hid (w9.heap.size = w10.heap.size) := Lib.hid (by rw [hw10]; simp)
        clear happ hrow8 hw10 hox
        refine ⟨hgz9, ?_⟩
        refine H_take (i := 13) (v := ?_) rfl (by as_aux_lemma => kernel_rfl) (by as_aux_lemma => kernel_rfl) (by as_aux_lemma => kernel_rfl) (fun _ _ _ h => h) (by rfl) hgz9 ?_ ?_
        rotate_left
        · intro w' hw'; go_simp; with_reducible rfl
        go_simp
        refine H_take (i := 14) (v := ?_) rfl (by as_aux_lemma => kernel_rfl) (by as_aux_lemma => kernel_rfl) (by as_aux_lemma => kernel_rfl) (fun _ _ _ h => h) (by rfl) hgz9 ?_ ?_
        rotate_left
        · intro w' hw'; go_simp; with_reducible rfl
        go_simp
        refine H_one (i := 15) (by as_aux_lemma => kernel_rfl) rfl (by rfl) ?_
        go_simp
        rw [← HW10.out]
        refine ⟨HOX.out, ?_⟩
        refine wpAnyH_done (by as_aux_lemma => kernel_rfl) ?_ _
        clear r0 r1 r2 r3 r4 hS hS8 hgz9 hc9 hf9 hz9
        have hx10 : w10.heap[w1.heap.size]? = _ := (HOX.out.block _ hzz.2.1 HXE.out).trans HX3.out
        have hg10 : w10.heap[gf]? = _ := (HOX.out.block _ hzz.2.2 HXF.out).trans HG3.out
        have HG10 := Lib.hid hg10
        obtain ⟨e0, -, -, -, -, -, -, -, ez⟩ := sh_four hx10
        obtain ⟨-, g1, g2, -, -, -, gz⟩ := five_cells hg10
        rw [← HSK.out] at g2
        have gf1 : w10.frozen? ⟨gf, 1, none⟩ = false := frozen_of_row _ _ 1 _ _ hg10
        have gf2 : w10.frozen? ⟨gf, 2, none⟩ = false := frozen_of_row _ _ 2 _ _ hg10
        have r0 : ∀ w', Only (fun q => q = gf) w10 w' → w'.cell? ⟨w1.heap.size, 0, none⟩ = some (.int .i64 ei) := fun w' h => (World.cell?_of_block (a := ⟨w1.heap.size, 0, none⟩) (h.block _ ez (by omega))).trans e0
        have hS : Only (fun q => q = gf) w10 w10.drew := (Only.refl _ _).drawn
        clear e0
        go_wp2_with fail
        refine wp_region_held (S := fun w' => Only (fun q => q = gf) w10 w') (by kernel_rfl) ?_
        refine H_take (i := 0) (v := ?_) rfl (by as_aux_lemma => kernel_rfl) (by as_aux_lemma => kernel_rfl) (by as_aux_lemma => kernel_rfl) (fun _ _ _ h => h) (by rfl) hS ?_ ?_
        rotate_left
        · intro w' hw'; go_simp; with_reducible rfl
        go_simp
        refine H_take (i := 1) (v := ?_) rfl (by as_aux_lemma => kernel_rfl) (by as_aux_lemma => kernel_rfl) (by as_aux_lemma => kernel_rfl) (fun _ _ _ h => h) (by rfl) hS ?_ ?_
        rotate_left
        · intro w' hw'; go_simp; with_reducible rfl
        go_simp
        refine H_take (i := 2) (v := ?_) rfl (by as_aux_lemma => kernel_rfl) (by as_aux_lemma => kernel_rfl) (by as_aux_lemma => kernel_rfl) (fun _ _ _ h => h) (by rfl) hS ?_ ?_
        rotate_left
        · intro w' hw'; go_simp; with_reducible rfl
        go_simp
        refine H_take (i := 3) (v := ?_) rfl (by as_aux_lemma => kernel_rfl) (by as_aux_lemma => kernel_rfl) (by as_aux_lemma => kernel_rfl) (fun _ _ _ h => h) (by rfl) hS ?_ ?_
        rotate_left
        · intro w' hw'; go_simp; with_reducible rfl
        go_simp
        refine H_take (i := 4) (v := ?_) rfl (by as_aux_lemma => kernel_rfl) (by as_aux_lemma => kernel_rfl) (by as_aux_lemma => kernel_rfl) (fun _ _ _ h => h) (by rfl) hS ?_ ?_
        rotate_left
        · intro w' hw'; go_simp; with_reducible rfl
        go_simp
        refine H_take (i := 6) (v := ?_) rfl (by as_aux_lemma => kernel_rfl) (by as_aux_lemma => kernel_rfl) (by as_aux_lemma => kernel_rfl) (fun _ _ _ h => h) (by rfl) hS ?_ ?_
        rotate_left
        · intro w' hw'; go_simp; with_reducible rfl
        go_simp
        refine H_take (i := 8) (v := ?_) rfl (by as_aux_lemma => kernel_rfl) (by as_aux_lemma => kernel_rfl) (by as_aux_lemma => kernel_rfl) (fun _ _ _ h => h) (by rfl) hS ?_ ?_
        rotate_left
        · intro w' hw'; go_simp; with_reducible rfl
        go_simp
        refine H_take (i := 9) (v := ?_) rfl (by as_aux_lemma => kernel_rfl) (by as_aux_lemma => kernel_rfl) (by as_aux_lemma => kernel_rfl) (fun _ _ _ h => h) (by rfl) hS ?_ ?_
        rotate_left
        · intro w' hw'; go_simp; with_reducible rfl
        go_simp
        refine H_one (i := 5) (by as_aux_lemma => kernel_rfl) rfl (by rfl) ?_
        go_simp
        refine H_take (i := 7) (v := ?_) rfl (by as_aux_lemma => kernel_rfl) (by as_aux_lemma => kernel_rfl) (by as_aux_lemma => kernel_rfl) (fun _ _ _ h => h) (by rfl) hS ?_ ?_
        rotate_left
        · intro w' hw'; go_simp; with_reducible rfl
        go_simp
        refine H_take (i := 10) (v := ?_) rfl (by as_aux_lemma => kernel_rfl) (by as_aux_lemma => kernel_rfl) (by as_aux_lemma => kernel_rfl) (fun _ _ _ h => h) (by rfl) hS ?_ ?_
        rotate_left
        · intro w' hw'; go_simp; with_reducible rfl
        go_simp
        refine H_take (i := 11) (v := ?_) rfl (by as_aux_lemma => kernel_rfl) (by as_aux_lemma => kernel_rfl) (by as_aux_lemma => kernel_rfl) (fun _ _ _ h => h) (by rfl) hS ?_ ?_
        rotate_left
        · intro w' hw'; go_simp; with_reducible rfl
        go_simp
        refine H_one (i := 12) (by as_aux_lemma => kernel_rfl) rfl (by rfl) ?_
        go_simp
        have hA : Only (fun q => q = gf) w10 (w10.setCell ⟨gf, 2, none⟩ (.int .i64 (IntKind.i64.wrap ((sk : Int) + (m : Int))))).drew := ((Only.refl (fun q => q = gf) w10).set (.inl rfl) _).drawn
        refine ⟨hA, ?_⟩
        refine H_take (i := 13) (v := ?_) rfl (by as_aux_lemma => kernel_rfl) (by as_aux_lemma => kernel_rfl) (by as_aux_lemma => kernel_rfl) (fun _ _ _ h => h) (by rfl) hA ?_ ?_
        rotate_left
        · intro w' hw'; go_simp; with_reducible rfl
        go_simp
        refine H_take (i := 14) (v := ?_) rfl (by as_aux_lemma => kernel_rfl) (by as_aux_lemma => kernel_rfl) (by as_aux_lemma => kernel_rfl) (fun _ _ _ h => h) (by rfl) hA ?_ ?_
        rotate_left
        · intro w' hw'; go_simp; with_reducible rfl
        go_simp
        refine H_one (i := 15) (by as_aux_lemma => kernel_rfl) rfl (by rfl) ?_
        go_simp
        have hB : Only (fun q => q = gf) w10 ((w10.setCell ⟨gf, 2, none⟩ (.int .i64 (IntKind.i64.wrap ((sk : Int) + (m : Int))))).setCell ⟨gf, 1, none⟩ (.int .i64 ei)).drew := (((Only.refl (fun q => q = gf) w10).set (.inl rfl) _).set (.inl rfl) _).drawn
        refine ⟨hB, ?_⟩
        refine wpAnyH_done (by as_aux_lemma => kernel_rfl) ?_ _
        have HFIN : Hid (TkAt w X g gf rows files fi lo (es.take (k + 1)) ((w10.setCell ⟨gf, 2, none⟩ (.int .i64 (IntKind.i64.wrap ((sk : Int) + (m : Int))))).setCell ⟨gf, 1, none⟩ (.int .i64 ei)).drew) := Lib.hid (by
          obtain ⟨p1, p2⟩ := HPU.out
          have hgfr := lt_of_heap HG.out
          have hrw : rows ++ laidAt (es.take (k + 1)) 0 = rows ++ laidAt (es.take k) 0 ++ [⟨⟨ei, et, ek, b⟩, (sk : Int)⟩] := by
            rw [HTS.out, laidAt_snoc, ← List.append_assoc, ← HSK.out, Int.zero_add]
          rw [← hrw] at p1
          have p3 := p1.same hB.size fun q hq => hB.block q (p1.lt q hq) fun e => by
            subst e
            rcases hq with hq | hq
            · exact HXF.out hq
            · omega
          refine ⟨_, _, _, _, p3, fun q hq => ?_, (HO.out.thn (fun q hq => ?_) p2).thn (fun q hq => .inl (.inr hq)) hB, ?_⟩
          · rcases hq with hq | hq
            · exact HX.out q hq
            · have := HO.out.size; exact .inr (by omega)
          · rcases HX.out q hq with h | h
            · exact .inl (.inl h)
            · exact .inr h
          · have h1 := heap_two5 (y := .int .i64 (IntKind.i64.wrap ((sk : Int) + (m : Int)))) (z := .int .i64 ei) HG10.out
            refine h1.trans ?_
            have h2 := HLT.out.1
            have h3 := congrArg List.length HSU.out
            rw [List.length_append, ← HSK.out, ← HM.out] at h3
            have h4 := congrArg List.length HTS.out
            rw [List.length_append, List.length_singleton, ← HKK.out] at h4
            have h5 : kk = k := by rw [HKK.out, List.length_take, ← HN.out]; omega
            rw [IntWalk.i64_in _ (by omega), h2, h3, h4, h5]
            congr 5
            · congr 1; push_cast; omega)
        go_wp2_with fail
        go_roundg (gk - 1)
        case rel => exact ⟨k + 1, by omega, HFIN⟩
        case measure => omega
    · obtain rfl : k = n := by omega
      have HTE : Hid (es.take k = es) := Lib.hid (List.take_of_length_le (by rw [← HN.out]; exact Nat.le_refl _))
      obtain rfl : sk = T := by rw [hsk, HTE.out, HT2.out]
      clear hsk hsc hX' ho hgf'
      have HEND : Hid (TkAt w X g gf rows files fi lo es wr) := Lib.hid (by have h := HAT.out; rw [HTE.out] at h; exact h)
      go_wp2_with fail
      go_end0
      exact ⟨rfl, HEND.out⟩
end Go.Proofs.YtamgjlegcegmeaaGreatDoor.M

/- Part: SegSc1. -/
namespace Go.Proofs.YtamgjlegcegmeaaGreatDoor.M
open Go.RowKit
open D (Fl Dk)

theorem heap_fiveF {w : World} {g : Nat} {x0 x1 x2 x3 x4 y : Value} {t : TypeId} (h : w.heap[g]? = some (.cells #[x0, x1, x2, x3, x4] t)) :
    (w.setCell ⟨g, 3, none⟩ y).heap[g]? = some (.cells #[x0, x1, x2, y, x4] t) := by
  simp [World.setCell, Array.getElem?_modify, h]

/-- One segment more. -/
theorem ScAt.pushFile {W w1 w3 : World} {X : Nat → Prop} {g : Nat} {rows : List Rw} {files : List Fi} {vr vf : Value} {rv : List (Rw × Value)} {f : Fi} {v' : Value} {o : Obj}
    (la : ScAt W X g rows files vr vf rv) (hb1 : Below W.heap.size W w1) (happ : AppLeft (w1.alloc o) 0 75 5 vf files.length 1 (fiCells files) (fiV f) v' w3) :
    ScAt (w3.setCell ⟨g, 3, none⟩ v') (fun k => X k ∨ (W.heap.size ≤ k ∧ k < w3.heap.size)) g rows (files ++ [f]) vr v' rv ∧ Only X W (w3.setCell ⟨g, 3, none⟩ v') := by
  obtain ⟨ho, hg, hb⟩ := happ
  have lz := la.lt
  have z1 := hb1.size
  have z3 := hg.size
  simp only [World.size_alloc] at z3
  have hgX := la.fg
  have hgz := lz g hgX
  have st3 : ∀ k, k < w1.heap.size → vf.ownBlock ≠ some k → w3.heap[k]? = w1.heap[k]? := fun k hk hn => by
    rw [hg.block k (by simp; omega) (fun e => hn e.symm), Below.heap_alloc _ _ _ hk]
  have stW : ∀ k, k < W.heap.size → vf.ownBlock ≠ some k → w3.heap[k]? = W.heap[k]? := fun k hk hn => (st3 k (by omega) hn).trans (hb1.block k hk)
  have hgr : vf.ownBlock ≠ some g := fun e => (la.ff g e).2 rfl
  have hvg : v'.ownBlock ≠ some g := fun e => by
    rcases hb with hb | hb
    · exact hgr (hb ▸ e)
    · rw [hb] at e
      simp at e
      omega
  have hvold : ∀ k, v'.ownBlock = some k → k < W.heap.size → vf.ownBlock = some k := fun k hk hl => by
    rcases hb with hb | hb
    · rw [← hb]; exact hk
    · rw [hb] at hk
      simp at hk
      omega
  refine ⟨⟨?_, la.rows, ?_, ?_, ?_, .inl hgX, ?_, ?_, ?_⟩, ?_, ?_, ?_, by simp; omega, fun k hk hn => ?_⟩
  · have := la.box
    rw [← stW g hgz hgr] at this
    exact heap_fiveF this
  · exact ownsRow_same la.rrow fun k hk => by
      have h1 := la.fr k hk
      rw [heap_ne h1.2.1]
      exact stW k (lz k h1.1) h1.2.2
  · rw [List.length_append, List.length_singleton]
    have e5 : fiCells (files ++ [f]) = fiCells files ++ fiV f := by simp [fiCells]
    rw [e5]
    exact ownsRow_same ho fun k hk => heap_ne fun e => hvg (e ▸ hk)
  · intro p hp
    obtain ⟨B, h1, h2⟩ := la.bod p hp
    refine ⟨B, h1.same (fun _ h => h) fun k hk => ?_, fun k hk => ?_⟩
    · obtain ⟨a1, a2, a3, a4⟩ := h2 k hk
      rw [heap_ne a2]
      exact stW k (lz k a1) a4
    · obtain ⟨a1, a2, a3, a4⟩ := h2 k hk
      exact ⟨.inl a1, a2, a3, fun e => a4 (hvold k e (lz k a1))⟩
  · intro k hk
    obtain ⟨a1, a2, a3⟩ := la.fr k hk
    exact ⟨.inl a1, a2, fun e => a3 (hvold k e (lz k a1))⟩
  · intro k hk
    have hkz := (ho.lt k hk).2
    refine ⟨?_, fun e => hvg (e ▸ hk)⟩
    rcases Nat.lt_or_ge k W.heap.size with h1 | h1
    · exact .inl (la.ff k (hvold k hk h1)).1
    · exact .inr ⟨h1, hkz⟩
  · intro k hk
    rw [World.size_setCell]
    rcases hk with hk | hk
    · have := lz k hk; omega
    · exact hk.2
  · exact hg.os.trans hb1.os
  · exact hg.tape.trans hb1.tape
  · exact hg.output.trans hb1.output
  · rw [heap_ne (fun e => hn (by rw [e]; exact hgX))]
    exact stW k hk fun e => hn (la.ff k e).1
end Go.Proofs.YtamgjlegcegmeaaGreatDoor.M

/- Part: SegScn. -/
namespace Go.Proofs.YtamgjlegcegmeaaGreatDoor.M
open Go.RowKit Go.Maps
open D (Fl Dk)

theorem sgName_size (i : Int) : (sgName i).size = 14 := by
  have h : (sgName i).data.toList = [115, 101, 103, 45] ++ dg 10 i.toNat := by unfold sgName; simp
  have := congrArg List.length h
  rw [List.length_append, dg_length] at this
  show (sgName i).data.size = 14
  simpa using this

theorem bytesOf_memS {fs : List Fl} (h : D.Rising fs) {f : Fl} (hf : f ∈ fs) : bytesOf fs f.nm = f.b := by
  unfold bytesOf
  cases hq : fs.find? (fun g => decide (g.nm = f.nm)) with
  | none =>
    rw [List.find?_eq_none] at hq
    exact absurd (decide_eq_true rfl) (hq f hf)
  | some g =>
    have h1 : g.nm = f.nm := by have := List.find?_some hq; simpa using this
    have h2 := List.mem_of_find?_eq_some hq
    rw [h.uniq h2 hf h1]

theorem fiCells_get : ∀ (fs : List Fi) (i : Nat) (h : i < fs.length) (j : Nat), j < 5 → (fiCells fs)[i * 5 + j]? = (fiV fs[i])[j]?
  | f :: fs, 0, _, j, hj => by
    unfold fiCells
    rw [List.flatMap_cons, List.getElem?_append_left (by simp [fiV]; omega)]
    simp
  | f :: fs, i + 1, h, j, hj => by
    unfold fiCells
    rw [List.flatMap_cons, List.getElem?_append_right (by simp [fiV]; omega), show (i + 1) * 5 + j - (fiV f).length = i * 5 + j by simp [fiV]; omega]
    exact fiCells_get fs i (by simpa using h) j hj

theorem GsOk.file {gs : List (Int × List En)} {d : Dk} (h : GsOk gs d) {k : Nat} (hk : k < gs.length) : ∃ hk' : k < d.fs.length, d.fs[k].nm = sgName gs[k].1 ∧ bytesOf d.fs (sgName gs[k].1) = rowsB gs[k].2 := by
  have hl : d.fs.length = gs.length := by have := congrArg List.length h.fs; simpa using this
  have hk' : k < d.fs.length := by omega
  have h1 := congrArg (fun l => l[k]?) h.fs
  simp only [List.getElem?_map] at h1
  rw [List.getElem?_eq_getElem hk', List.getElem?_eq_getElem hk] at h1
  simp only [Option.map_some, Option.some.injEq, Prod.mk.injEq] at h1
  refine ⟨hk', h1.1, ?_⟩
  rw [← h1.1, bytesOf_memS h.rise (List.getElem_mem hk'), h1.2]

/-- What stands once some segments are scanned. -/
def ScnAt (W1 : World) (g3 : Nat) (gs : List (Int × List En)) (k : Nat) (wr : World) : Prop :=
  Only (fun j => j = g3) W1 wr ∧ ∃ X vr vf rv, ScAt wr X g3 (laidG (gs.take k)) ((gs.take k).map fiG) vr vf rv ∧ ∀ j, X j → j = g3 ∨ W1.heap.size ≤ j

/-- What scan answers. -/
def ScnPost (w : World) (gs : List (Int × List En)) (e : Ending) (w' : World) : Prop :=
  ∃ X g vr vf rv, e = .returned (.agg #[.int .i64 0, .int .i64 0, vr, vf, .int .i64 0]) ∧ Below w.heap.size w w' ∧ ScAt w' X g (laidG gs) (gs.map fiG) vr vf rv ∧ ∀ j, X j → w.heap.size ≤ j

set_option maxRecDepth 100000 in
set_option maxHeartbeats 8000000 in
theorem scan_rows (gs : List (Int × List En)) (d : Dk) (Xd : Nat → Prop) (gd : Nat) (w : World) (hd : PDskIn w Xd gd d) (hg : GsOk gs d) (hT : Hid (Tab w)) :
    Calls Tryz.prog 20 #[.pointer (some ⟨gd, 0, none⟩)] w (ScnPost w gs) := by
  obtain ⟨W, hW⟩ : ∃ W, W = (w.alloc (.cells #[.int .i64 0, .int .i64 0, .slice none 0 0, .slice none 0 0, .int .i64 0] 60)).alloc (.cells #[.int .i64 0, .int .i64 0, .slice none 0 0, .slice none 0 0, .int .i64 0] 60) := ⟨_, rfl⟩
  have hb : Below w.heap.size w W := by rw [hW]; exact ((Below.refl _ w).alloc (Nat.le_refl _) _).alloc (by simp) _
  have hx1 : W.heap[w.heap.size + 1]? = some (.cells #[.int .i64 0, .int .i64 0, .slice none 0 0, .slice none 0 0, .int .i64 0] 60) := by rw [hW]; exact heap_new _ _ _ (by simp)
  have hx0 : W.heap[w.heap.size]? = some (.cells #[.int .i64 0, .int .i64 0, .slice none 0 0, .slice none 0 0, .int .i64 0] 60) := by rw [hW]; exact old_alloc (heap_new _ _ _ rfl)
  obtain ⟨N, hN⟩ : ∃ N, N = gs.length := ⟨_, rfl⟩
  have hfl : d.fs.length = N := by have := congrArg List.length hg.fs; rw [hN]; simpa using this
  have HNC := Lib.hid (Names_any d Xd gd W (hd.next hb) hg.rise (by rw [hfl, hN]; have := hg.few.2; omega))
  rw [hfl] at HNC
  have HW := Lib.hid hW
  have HB := Lib.hid hb
  have HX1 := Lib.hid hx1
  have HX0 := Lib.hid hx0
  have HD := Lib.hid hd
  have HGS := Lib.hid hg
  have HN := Lib.hid hN
  have hN4 : N ≤ 4096 := by rw [hN]; exact hg.few.2
  clear hW hb hx1 hx0 hd hg hfl hN
  go_enter Tryz.func20, Tryz.ntmps20
  go_wp2_with fail
  rw [← HW.out]
  refine HNC.out.mono ?_
  rintro e w1 ⟨v, rfl, hb1, hrow⟩
  obtain ⟨na, nc, rfl⟩ := owned_slice hrow
  obtain ⟨g3, hg3⟩ : ∃ g3, g3 = w.heap.size + 1 := ⟨_, rfl⟩
  have HG3 := Lib.hid hg3
  have hx11 : w1.heap[g3]? = some (.cells #[.int .i64 0, .int .i64 0, .slice none 0 0, .slice none 0 0, .int .i64 0] 60) := by rw [hg3]; exact old_below HX1.out hb1
  have HX01 := Lib.hid (old_below HX0.out hb1)
  have HB1 := Lib.hid (HB.out.trans (hb1.mono HB.out.size))
  have hzW : w.heap.size + 2 ≤ W.heap.size := by have := lt_of_heap HX1.out; omega
  have HZ1 : Hid (w.heap.size + 2 ≤ w1.heap.size) := Lib.hid (Nat.le_trans hzW hb1.size)
  have HNM : Hid (∀ k (hk : k < N), ∃ gn, na = some ⟨gn, 0, none⟩ ∧ N ≤ nc ∧ w1.cell? ⟨gn, k, none⟩ = some (.string (sgName (gs[k]'(by rw [← HN.out]; exact hk)).1)) ∧ gn < w1.heap.size ∧ gn ≠ g3) := Lib.hid fun k hk => by
    rcases hrow.2 with ⟨h1, h2⟩ | ⟨gn, cap, cur, h1, h2, h3, h4, -⟩
    · omega
    · cases h1
      obtain ⟨hk', hnm, -⟩ := HGS.out.file (k := k) (by rw [← HN.out]; exact hk)
      refine ⟨gn, rfl, h4, ?_, lt_of_heap h3, by omega⟩
      rw [hrow.cellAt k (by omega)]
      simp [hk', hnm]
  have HS0 : Hid (ScnAt w1 g3 gs 0 w1) := Lib.hid ⟨Only.refl _ _, fun j => j = g3, .slice none 0 0, .slice none 0 0, [], ⟨hx11, rfl, World.ownsRow_nil _ _ _ _, World.ownsRow_nil _ _ _ _, (fun p hp => by cases hp), rfl, (fun k hk => by cases hk), (fun k hk => by cases hk), fun k hk => by rw [hk]; exact lt_of_heap hx11⟩, fun j hj => .inl hj⟩
  rw [← hg3]
  clear hb1 hrow hg3 hx11 hzW
  go_wp2_with fail
  go_loopg [4, 6, 7, 8, 9, 10, 11, 12, 16] N (fun gk tv _ _ _ _ _ _ _ iv wr => ∃ k : Nat, k + gk = N ∧ tv = .bool false ∧ iv = .int .i64 (k : Int) ∧ Hid (ScnAt w1 g3 gs k wr))
  case atStart => exact ⟨0, by omega, rfl, rfl, HS0⟩
  case round =>
    obtain ⟨k, hgk, rfl, rfl, HS⟩ := hrel
    by_cases hlt : k < N
    · have hkk : (k : Int) < (N : Int) := by omega
      have hkl : k < gs.length := by rw [← HN.out]; exact hlt
      obtain ⟨gn, rfl, hnc, hnm, hgn, hgne⟩ := HNM.out k hlt
      obtain ⟨ho, X, vr, vf, rv, hsc, hX⟩ := HS.out
      have hnm2 := (World.cell?_of_block (a := ⟨gn, k, none⟩) (ho.block gn hgn hgne)).trans hnm
      have hgn2 := Nat.lt_of_lt_of_le hgn ho.size
      obtain ⟨g, hgg⟩ : ∃ g, g = gs[k] := ⟨_, rfl⟩
      rw [← hgg] at hnm2
      obtain ⟨-, -, hbytes⟩ := HGS.out.file hkl
      rw [← hgg] at hbytes
      have hgb := HGS.out.bd g (by rw [hgg]; exact List.getElem_mem hkl)
      obtain ⟨a, es⟩ := g
      simp only at hnm2 hbytes hgb
      have hbw : Below w.heap.size w wr := below_only HB1.out ho fun j hj => by have := HG3.out; omega
      have HF1 := Lib.hid (firstOf_name a wr (by omega) hgb.1.2)
      have HRD : Hid (∀ w', Below w.heap.size w w' → Calls Tryz.prog 43 #[.pointer (some ⟨gd, 0, none⟩), .string (sgName a)] w' fun e w'' => ∃ v, e = .returned (.tuple #[v, .bool (D.isThere d.fs (sgName a))]) ∧ Own w' (rowsB es) v w'') := Lib.hid fun w' hb => by
        rw [← hbytes]
        exact PRead_any d Xd gd (sgName a) w' (HD.out.next hb) HGS.out.rise (by rw [sgName_size]; omega) HGS.out.used
      have HO := Lib.hid ho
      have HSC := Lib.hid hsc
      have HX := Lib.hid hX
      have HGG := Lib.hid hgg
      have HGB := Lib.hid hgb
      have HBW := Lib.hid hbw
      clear hnm ho hsc hX hgg hgb hbw hbytes HS hgne hgn
      go_wp2_with fail
      refine HF1.out.mono ?_
      rintro e wa ⟨rfl, hba⟩
      have HBA := Lib.hid hba
      clear hba hnm2 hgn2
      go_wp2_with fail
      refine (HRD.out wa (HBW.out.trans (HBA.out.mono HBW.out.size))).mono ?_
      rintro e wb ⟨v, rfl, hown⟩
      obtain ⟨va, vc, rfl⟩ := hown.slice
      have hbb : Below wr.heap.size wr wb := HBA.out.trans (hown.1.mono HBA.out.size)
      obtain ⟨bn, hbn⟩ : ∃ bn, bn = (rowsB es).length := ⟨_, rfl⟩
      rw [← hbn] at hown ⊢
      have HOWN := Lib.hid hown
      have HBB := Lib.hid hbb
      have HBN := Lib.hid hbn
      have hscb := HSC.out.same hbb.size fun j hj => hbb.block j (HSC.out.lt j hj)
      obtain ⟨fa, fc, rfl⟩ := owned_slice hscb.frow
      obtain ⟨-, -, -, f3, -, -, fz⟩ := five_cells hscb.box
      rw [show ((gs.take k).map fiG).length = k from by rw [List.length_map, List.length_take]; omega] at f3
      have hga : (1 : Int) ≤ a ∧ a < 10000000000 := HGB.out.1
      clear hown hbb hbn hscb
      have hwa : IntKind.i64.wrap (a - 1) = a - 1 := IntWalk.i64_in _ (by omega)
      go_upto_region 11 with fail
      obtain ⟨gf, hgf⟩ : ∃ gf, gf = wb.heap.size := ⟨_, rfl⟩
      obtain ⟨W2, hW2⟩ : ∃ W2, W2 = wb.alloc (.cells #[.int .i64 a, .int .i64 (a - 1), .int .i64 0, .int .i64 0, .bool true] 75) := ⟨_, rfl⟩
      rw [← hgf, ← hW2]
      have hb2 : Below wb.heap.size wb W2 := by rw [hW2]; exact below_alloc _ _
      have hx2 : W2.heap[gf]? = some (.cells #[.int .i64 a, .int .i64 (a - 1), .int .i64 0, .int .i64 0, .bool true] 75) := by rw [hW2, hgf]; exact heap_new _ _ _ rfl
      have hbr2 : Below wr.heap.size wr W2 := HBB.out.trans (hb2.mono HBB.out.size)
      have hsc2 := HSC.out.same hbr2.size fun j hj => hbr2.block j (HSC.out.lt j hj)
      have HGF := Lib.hid hgf
      have HX2 := Lib.hid hx2
      have HBR2 := Lib.hid hbr2
      have HSC2 := Lib.hid hsc2
      have HB2 := Lib.hid hb2
      obtain ⟨-, t1, -, -, -, -, tz⟩ := five_cells hx2
      obtain ⟨-, -, -, u3, -, -, uz⟩ := five_cells hsc2.box
      rw [show ((gs.take k).map fiG).length = k from by rw [List.length_map, List.length_take]; omega] at u3
      clear hgf hW2 hb2 hx2 hbr2 hsc2 f3 fz
      go_cut [53] from 17 to 76 (fun bv w' => bv = .bool false ∧ Hid (Below W2.heap.size W2 w'))
      case first =>
        cases k with
        | zero =>
          have q1 : decide (((0 : Nat) : Int) > 0) = false := by simp
          go_quiet (fail)
          go_wp2_with fail
          go_meet
          case rel => exact ⟨rfl, Lib.hid ((Below.refl _ _).drewMany _)⟩
        | succ k =>
          have hkl2 : k < gs.length := by omega
          have hrow := HSC2.out.frow
          have hln : ((gs.take (k + 1)).map fiG).length = k + 1 := by rw [List.length_map, List.length_take]; omega
          rw [hln] at hrow
          obtain ⟨gfl, hfa, hfc⟩ : ∃ gfl, fa = some ⟨gfl, 0, none⟩ ∧ k + 1 ≤ fc := by
            rcases hrow.2 with ⟨h1, h2⟩ | ⟨gg, cap, cur, h1, h2, h3, h4, -⟩
            · omega
            · cases h1; exact ⟨gg, rfl, h4⟩
          subst hfa
          have hcell : W2.cell? ⟨gfl, k * 5 + 1, none⟩ = some (.int .i64 (a - 1)) := by
            have h9 := hrow
            rw [h9.cellAt (g := gfl) (cap := fc) _ (by omega), fiCells_get _ k (by omega) 1 (by omega)]
            have h8 : ((gs.take (k + 1)).map fiG)[k]'(by omega) = fiG gs[k] := by simp
            rw [h8]
            have h7 := HGS.out.nx k hkl
            have h6 : gs[k + 1].1 = a := by rw [← HGG.out]
            simp only [fiG, fiV]
            simp
            omega
          have hgz := (lt_of_cell hcell).1
          have q1 : decide (((k + 1 : Nat) : Int) > 0) = true := decide_eq_true (by omega)
          have q2 : ((k + 1 : Nat) : Int) - 1 = (k : Int) := by omega
          have q3 : (k : Int) < ((k + 1 : Nat) : Int) := by omega
          have q4 : (k : Int) < (k : Int) + 1 := by omega
          clear hrow hln hkl2
          go_quiet (fail)
          go_wp2_with fail
          go_meet
          case rel => exact ⟨rfl, Lib.hid ((Below.refl _ _).drewMany _)⟩
      case rest =>
        obtain ⟨rfl, HB3⟩ := hcut
        obtain ⟨W3, hW3⟩ : ∃ x : World, x = wc := ⟨_, rfl⟩
        subst hW3
        clear t1 tz u3 uz
        have hz1 := HBW.out.size
        have hz2 := HBA.out.size
        have hz3 := HOWN.out.1.size
        have hz4 := HB2.out.size
        have hz5 := HB3.out.size
        have hg3 := HG3.out
        have hgf0 := HGF.out
        have hz0 := HO.out.size
        have hz9 := HZ1.out
        have hgfz : gf < W2.heap.size := lt_of_heap HX2.out
        have hXg : ¬ X gf := fun hx => by have := HSC.out.lt gf hx; omega
        have hsc3 := HSC2.out.same HB3.out.size fun j hj => HB3.out.block j (HSC2.out.lt j hj)
        have hx3 := old_below HX2.out HB3.out
        have hv3 : RepB W3 (fun q => wa.heap.size ≤ q ∧ q < wb.heap.size) (rowsB es) (.slice va bn vc) := by
          have h9 := HOWN.out.rep
          exact h9.same (fun _ h => h) fun q hq => (HB3.out.block q (by omega)).trans (HB2.out.block q hq.2)
        have hch := HGS.out.ch k (by rw [← HN.out]; exact hlt)
        rw [← HGG.out] at hch
        have hek := HGS.out.ok (a, es) (by rw [HGG.out]; exact List.getElem_mem _)
        have htk := take_rows es W3 X _ g3 gf (laidG (gs.take k)) ((gs.take k).map fiG) vr (.slice fa ((gs.take k).map fiG).length fc) (.slice va bn vc) rv a true hsc3 (by rw [HBN.out] at hv3 ⊢; exact hv3) (fun q hq => ⟨by omega, fun hx => by have := HSC.out.lt q hx; omega, by omega⟩) hx3 hXg hch (by have := HGB.out.2.1; omega) (Lib.hid (hT.out.next (HBW.out.trans ((HBR2.out.trans (HB3.out.mono HBR2.out.size)).mono hz1)))) ⟨fun hx => by rcases HX.out 0 hx with h | h; omega; have := HZ1.out; omega, by omega⟩ ⟨hga.1, by omega⟩ (by have h1 := laidG_le gs k; have h2 := HGS.out.few.1; have h3 := HGB.out.2.2; omega) hek
        have HTK := Lib.hid htk
        have HZZ : Hid (w.heap.size ≤ wr.heap.size ∧ wr.heap.size ≤ wa.heap.size ∧ wa.heap.size ≤ wb.heap.size ∧ wb.heap.size ≤ W2.heap.size ∧ W2.heap.size ≤ W3.heap.size ∧ g3 = w.heap.size + 1 ∧ gf = wb.heap.size ∧ gf < W2.heap.size ∧ w1.heap.size ≤ wr.heap.size ∧ w.heap.size + 2 ≤ w1.heap.size) := Lib.hid ⟨hz1, hz2, hz3, hz4, hz5, hg3, hgf0, hgfz, hz0, hz9⟩
        have HXG := Lib.hid hXg
        clear hsc3 hx3 hv3 hch hek htk hz1 hz2 hz3 hz4 hz5 hg3 hgf0 hgfz hz0 hz9 hXg
        go_wp2_with fail
        refine HTK.out.mono ?_
        rintro e w5 ⟨rfl, X5, vr5, vf5, rv5, hsc5, hX5, ho5, hgf5⟩
        rw [← HBN.out] at hgf5
        have hln : ((gs.take k).map fiG).length = k := by rw [List.length_map, List.length_take]; omega
        have hfr5 := hsc5.frow
        rw [hln] at hfr5
        obtain ⟨fa5, fc5, rfl⟩ := owned_slice hfr5
        have hX5g : ¬ X5 gf := fun hx => by
          obtain ⟨hz1, hz2, hz3, hz4, hz5, hg3, hgf0, hgfz, hz0, hz9⟩ := HZZ.out
          rcases hX5 gf hx with h | h
          · exact HXG.out h
          · omega
        obtain ⟨el, hel⟩ : ∃ el, el = es.length := ⟨_, rfl⟩
        rw [← hel] at hgf5
        obtain ⟨p0, p1, p2, p3, p4, -, pz⟩ := five_cells hgf5
        have pf3 := frozen_of_row _ _ 3 _ _ hgf5
        obtain ⟨-, -, -, k3, -, -, kz⟩ := five_cells hsc5.box
        have hg3f : g3 ≠ gf := fun e => hX5g (e ▸ hsc5.fg)
        obtain ⟨w6, hw6⟩ : ∃ w6, w6 = w5.setCell ⟨gf, 3, none⟩ (.int .i64 0) := ⟨_, rfl⟩
        have hsc6 : ScAt w6 X5 g3 (laidG (gs.take k) ++ laidAt es 0) ((gs.take k).map fiG) vr5 (.slice fa5 k fc5) rv5 := hsc5.same (by rw [hw6]; simp) fun j hj => by rw [hw6]; exact Below.heap_setCell _ _ _ _ (by show j ≠ gf; exact fun e => hX5g (e ▸ hj))
        obtain ⟨ib, hib, hib0, hib1, hib2⟩ := info_parts infoSgFile
        have hrow8 : ((w5.setCell ⟨gf, 3, none⟩ (.int .i64 0)).alloc (.cells #[.int .i64 a, .int .i64 (a - 1 + (el : Int)), .int .i64 (bn : Int), .int .i64 0, .bool true] 75)).ownsRow 0 75 5 (.slice fa5 k fc5) k (fiCells ((gs.take k).map fiG)) := by
          have h1 := hsc6.frow
          rw [hln, hw6] at h1
          exact ownsRow_same h1 fun q hq => Below.heap_alloc _ _ _ (h1.lt q hq).2
        have HSC5 := Lib.hid hsc5
        have HSC6 := Lib.hid hsc6
        have HO5 := Lib.hid ho5
        have HX5 := Lib.hid hX5
        have HW6 := Lib.hid hw6
        have HEL := Lib.hid hel
        have HLN := Lib.hid hln
        have hk9 : k ≤ 4096 := by omega
        clear hsc5 hsc6 ho5 hX5 hw6 hel hln hgf5 hfr5
        go_wp2_with (at_builtin; go_loud (refine wpList_append_any _ rfl (.tmp 71) (.tmp 73) 58 rfl 0 75 ib _ 5 40 Tryz.underlying58 hib hib0 hib1 hib2 rfl (by decide) (.slice fa5 k fc5) k (fiCells ((gs.take k).map fiG)) rfl hrow8 (.slice (some ⟨w5.heap.size, 0, none⟩) 1 1) rfl 1 [.int .i64 a, .int .i64 (a - 1 + (el : Int)), .int .i64 (bn : Int), .int .i64 0, .bool true] (yields_fi (w := w5.setCell ⟨gf, 3, none⟩ (.int .i64 0)) (by simp)) (by unfold maxLen; omega) (by omega) (Nat.zero_le _) ?_))
        intro v7 w7 happ
        obtain ⟨a7, c7, rfl⟩ := owned_slice happ.1
        have hpu := HSC6.out.pushFile (f := fiG (a, es)) (w1 := w6) (Below.refl _ _) (by rw [HLN.out, HW6.out]; have h9 := happ; rw [HEL.out, HBN.out, ← List.map_take] at h9; exact h9)
        have hg9 := happ.2.1
        have hz5w : g3 < w5.heap.size := kz
        have hbox7 := ((hg9.block g3 (by simp; omega) (fun e => (HSC6.out.ff g3 e.symm).2 rfl)).trans (Below.heap_alloc _ _ _ (by simp; omega))).trans ((Below.heap_setCell _ _ _ _ (by show g3 ≠ gf; exact hg3f)).trans HSC5.out.box)
        obtain ⟨-, -, -, y3, -, -, yz⟩ := five_cells hbox7
        have yf3 := frozen_of_row _ _ 3 _ _ hbox7
        have HNEW : Hid (ScnAt w1 g3 gs (k + 1) (w7.setCell ⟨g3, 3, none⟩ (.slice a7 (k + 1) c7))) := Lib.hid (by
          have hkl3 : k < gs.length := by rw [← HN.out]; exact hlt
          obtain ⟨q1, q2⟩ := hpu
          obtain ⟨hz1, hz2, hz3, hz4, hz5, hg3, hgf0, hgfz, hz0, hz9⟩ := HZZ.out
          have hW3 : w1.heap.size ≤ W3.heap.size := by have := HO.out.size; omega
          have q3 : ScAt (w7.setCell ⟨g3, 3, none⟩ (.slice a7 (k + 1) c7)) (fun j => X5 j ∨ (w6.heap.size ≤ j ∧ j < w7.heap.size)) g3 (laidG (gs.take (k + 1))) ((gs.take (k + 1)).map fiG) vr5 (.slice a7 (k + 1) c7) rv5 := by
            rw [laidG_take gs k hkl3, List.take_succ_eq_append_getElem hkl3, List.map_append, ← HGG.out]
            exact q1
          have q4 : Only (fun j => j = g3) w1 (w7.setCell ⟨g3, 3, none⟩ (.slice a7 (k + 1) c7)) := by
            have z1 : Only (fun j => j = g3) w1 w5 := (HO.out.next (HBR2.out.trans (HB3.out.mono HBR2.out.size))).thn (fun j hj => by
              rcases hj with hj | rfl
              · exact HX.out j hj
              · exact .inr (by omega)) HO5.out
            have z2 : Only (fun j => j = g3) w1 w6 := by
              rw [HW6.out]
              exact z1.set (g := gf) (j := 3) (.inr (by omega)) (.int .i64 0)
            exact z2.thn (X1 := X5) (fun j hj => by
              rcases HX5.out j hj with h | h
              · exact HX.out j h
              · exact .inr (by omega)) q2
          refine ⟨q4, _, _, _, _, q3, fun j hj => ?_⟩
          rcases hj with hj | hj
          · rcases HX5.out j hj with h | h
            · exact HX.out j h
            · exact .inr (by omega)
          · refine .inr ?_
            have h1 := HO5.out.size
            have h2 : w6.heap.size = w5.heap.size := by rw [HW6.out]; simp
            omega)
        clear happ hpu hbox7 hg9 hrow8
        go_wp2_with fail
        go_roundg (gk - 1)
        case measure => omega
        case rel => exact ⟨k + 1, by omega, rfl, by push_cast; rfl, HNEW⟩
    · obtain rfl : k = N := by omega
      have hkk : ¬ (k : Int) < (k : Int) := by omega
      obtain ⟨ho, X, vr, vf, rv, hsc, hX⟩ := HS.out
      rw [show gs.take k = gs from List.take_of_length_le (by rw [← HN.out]; exact Nat.le_refl _)] at hsc
      obtain ⟨ra, rc, rfl⟩ := owned_slice hsc.rrow
      obtain ⟨fa, fc, rfl⟩ := owned_slice hsc.frow
      obtain ⟨rl, hrl⟩ : ∃ rl, rl = rv.length := ⟨_, rfl⟩
      obtain ⟨fl, hfl⟩ : ∃ fl, fl = (gs.map fiG).length := ⟨_, rfl⟩
      rw [← hrl, ← hfl] at hsc
      clear hrl hfl
      obtain ⟨c0, c1, c2, c3, c4, -, cz⟩ := five_cells hsc.box
      have hy0 : wr.heap[w.heap.size]? = _ := (ho.block w.heap.size (lt_of_heap HX01.out) (by have := HG3.out; omega)).trans HX01.out
      obtain ⟨d0, d1, d2, d3, d4, -, dz⟩ := five_cells hy0
      have e0 := frozen_of_row _ _ 0 _ _ hy0
      have e1 := frozen_of_row _ _ 1 _ _ hy0
      have e2 := frozen_of_row _ _ 2 _ _ hy0
      have e3 := frozen_of_row _ _ 3 _ _ hy0
      have e4 := frozen_of_row _ _ 4 _ _ hy0
      have HSC := Lib.hid hsc
      have HX := Lib.hid hX
      have HBW : Hid (Below w.heap.size w wr) := Lib.hid (below_only HB1.out ho fun j hj => by have := HG3.out; omega)
      clear ho hsc hX hy0 HS
      go_wp2_with fail
      refine bodyPost_ret (v := .agg #[.int .i64 0, .int .i64 0, .slice ra rl rc, .slice fa fl fc, .int .i64 0]) (by simp [results, Tryz.results20, go_sem, d0, d1, d2, d3, d4, dz]) rfl ?_
      have hfar : ∀ j, X j → j ≠ w.heap.size := fun j hj => by
        have h1 := HG3.out
        have h2 := HZ1.out
        rcases HX.out j hj with h | h <;> omega
      refine ⟨X, g3, .slice ra rl rc, .slice fa fl fc, rv, rfl, (((((HBW.out).setCell (Nat.le_refl _) _).setCell (Nat.le_refl _) _).setCell (Nat.le_refl _) _).setCell (Nat.le_refl _) _).setCell (Nat.le_refl _) _, HSC.out.same (by simp) fun j hj => ?_, fun j hj => ?_⟩
      · have h1 := hfar j hj
        rw [Below.heap_setCell _ _ _ _ (by exact h1), Below.heap_setCell _ _ _ _ (by exact h1), Below.heap_setCell _ _ _ _ (by exact h1), Below.heap_setCell _ _ _ _ (by exact h1), Below.heap_setCell _ _ _ _ (by exact h1)]
      · have h1 := HG3.out
        have h2 := HZ1.out
        rcases HX.out j hj with h | h <;> omega
end Go.Proofs.YtamgjlegcegmeaaGreatDoor.M

/- Part: SegOpr. -/
namespace Go.Proofs.YtamgjlegcegmeaaGreatDoor.M
open Go.RowKit Go.Maps
open D (Fl Dk)

/-- What was scanned, as a log. -/
def scnH (gs : List (Int × List En)) : Hd := ⟨0, 0, laidG gs, gs.map fiG, 0⟩

theorem LS.scanned {K : Nat → Obj → Prop} {w wr W : World} {X Xd : Nat → Prop} {g3 gd : Nat} {d : Dk} {gs : List (Int × List En)} {vr vf : Value} {rv : List (Rw × Value)} (hd : DS w Xd gd d wr) (hk : ∀ k o, K k o → wr.heap[k]? = some o ∧ ¬ Xd k ∧ ¬ X k) (hsc : ScAt wr X g3 (laidG gs) (gs.map fiG) vr vf rv) (hX : ∀ j, X j → w.heap.size ≤ j ∧ ¬ Xd j) (least : Int) (g : Nat) (hg : g = wr.heap.size)
    (hW : W = wr.alloc (.cells #[.int .i64 0, .int .i64 0, vr, vf, .int .i64 0, .pointer (some ⟨gd, 0, none⟩), .int .i64 least] 63)) : LS K w (fun k => k = g ∨ (X k ∧ k ≠ g3)) Xd g gd least (scnH gs) d W := by
  have hb : Below wr.heap.size wr W := by rw [hW]; exact below_alloc _ _
  have hbox : W.heap[g]? = some (.cells #[.int .i64 0, .int .i64 0, vr, vf, .int .i64 0, .pointer (some ⟨gd, 0, none⟩), .int .i64 least] 63) := by rw [hW, hg]; exact heap_new _ _ _ rfl
  have hs2 := hsc.same hb.size fun j hj => hb.block j (hsc.lt j hj)
  have hlt := hsc.lt
  refine ⟨hd.next hb, ⟨⟨vr, vf, rv, hbox, hs2.rows, hs2.rrow, hs2.frow, (fun p hp => ?_), .inl rfl, (fun k hk => ?_), fun k hk => ?_⟩, fun k hk => ?_⟩, fun k hk => ?_, fun k hk hx => ?_, fun k o hko => ?_⟩
  · obtain ⟨B, h1, h2⟩ := hs2.bod p hp
    refine ⟨B, h1, fun k hk => ?_⟩
    obtain ⟨a1, a2, a3, a4⟩ := h2 k hk
    have := hlt k a1
    exact ⟨.inr ⟨a1, a2⟩, by omega, a3, a4⟩
  · obtain ⟨a1, a2, a3⟩ := hs2.fr k hk
    have := hlt k a1
    exact ⟨.inr ⟨a1, a2⟩, by omega, a3⟩
  · obtain ⟨a1, a2⟩ := hs2.ff k hk
    have := hlt k a1
    exact ⟨.inr ⟨a1, a2⟩, by omega⟩
  · rcases hk with rfl | hk
    · exact lt_of_heap hbox
    · exact Nat.lt_of_lt_of_le (hlt k hk.1) hb.size
  · rcases hk with rfl | hk
    · rw [hg]; exact hd.below.size
    · exact (hX k hk.1).1
  · rcases hk with rfl | hk
    · have := hd.lt k hx; omega
    · exact (hX k hk.1).2 hx
  · obtain ⟨k1, k2, k3⟩ := hk k o hko
    exact ⟨old_below k1 hb, fun e => by
      rcases e with rfl | e
      · have := lt_of_heap k1; omega
      · exact k3 e.1, k2⟩

theorem fiG_has {gs : List (Int × List En)} (h : ∀ g ∈ gs, g.2 ≠ []) : ∀ f ∈ (gs.map fiG), f.has = true ∧ f.torn = 0 := fun f hf => by
  obtain ⟨g, hg, rfl⟩ := List.mem_map.1 hf
  refine ⟨?_, rfl⟩
  unfold Fi.has fiG
  have : 0 < g.2.length := List.length_pos_iff.2 (h g hg)
  exact decide_eq_true (by simp only; omega)

set_option maxRecDepth 20000 in
set_option maxHeartbeats 3200000 in
theorem Open_rows (K : Nat → Obj → Prop) (w wr : World) (Xd : Nat → Prop) (gd : Nat) (d : Dk) (hd : DS w Xd gd d wr) (gs : List (Int × List En)) (hg : GsOk gs d) (hne : ∀ g ∈ gs, g.2 ≠ []) (hrs : laidG gs ≠ []) (hk : ∀ k o, K k o → wr.heap[k]? = some o ∧ ¬ Xd k) (mi mt : Int) (hm : (0 ≤ mi ∧ mi < 10000000000) ∧ (0 ≤ mt ∧ mt < 10000000000)) (size : Int) (hs : 1 ≤ size) (hP : Hid (Pow10 w)) (hT : Hid (Tab w))
    (ho : HdOk (scnH gs)) (ho2 : HdOk (begun (scnH gs) mi mt)) (hfit : fitsE (scnH gs) mi mt = true) (hlast : 0 ≤ (begun (scnH gs) mi mt).last.1 ∧ (begun (scnH gs) mi mt).last.1 < 10000000000) (h' : Hd) (d' : Dk) (hsy : syncE (begun (scnH gs) mi mt) d = (0, h', d')) :
    Calls Tryz.prog 6 #[.pointer (some ⟨gd, 0, none⟩), .agg #[.int .i64 mi, .int .i64 mt], .int .i64 size] wr fun e w' => ∃ g X Xd', e = .returned (.tuple #[.pointer (some ⟨g, 0, none⟩), .int .i64 0]) ∧ LS K w X Xd' g gd size h' d' w' := by
  obtain ⟨W, hW⟩ : ∃ W, W = wr.alloc (.cells #[.int .i64 mi, .int .i64 mt] 32) := ⟨_, rfl⟩
  obtain ⟨bm, hbm⟩ : ∃ b, b = wr.heap.size := ⟨_, rfl⟩
  have hb : Below wr.heap.size wr W := by rw [hW]; exact below_alloc _ _
  have hx : W.heap[bm]? = some (.cells #[.int .i64 mi, .int .i64 mt] 32) := by rw [hW, hbm]; exact heap_new _ _ _ rfl
  have hmk : okMark (mi, mt) = true := decide_eq_true ⟨hm.1.1, hm.1.2, hm.2.1, hm.2.2⟩
  have HMK := Lib.hid (IsMark_any mi mt)
  rw [hmk] at HMK
  have HD := Lib.hid hd
  have HK := Lib.hid hk
  have HW := Lib.hid hW
  have HB := Lib.hid hb
  have HX := Lib.hid hx
  have HM := Lib.hid hm
  have HBM := Lib.hid hbm
  have HGS := Lib.hid hg
  have HNE := Lib.hid hne
  have HRS := Lib.hid hrs
  have HOK := Lib.hid ho
  have HOK2 := Lib.hid ho2
  have HFIT := Lib.hid hfit
  have HLA := Lib.hid hlast
  have HSY := Lib.hid hsy
  obtain ⟨c0, c1, -, -, cz⟩ := block2 hx
  have hsl : (size < 1) = False := by simp; omega
  have hs2 : decide (size < 1) = false := decide_eq_false (by omega)
  clear hd hk hb hx hm hmk hg hne hrs hW hbm ho ho2 hfit hlast hsy
  go_enter Tryz.func6, Tryz.ntmps6
  go_wp2_with fail
  rw [← HW.out]
  refine (HMK.out W).mono ?_
  rintro e w1 ⟨rfl, hb1⟩
  have HB1 : Hid (Below wr.heap.size wr w1) := Lib.hid (HB.out.trans (hb1.mono HB.out.size))
  have HX1 := Lib.hid (old_below HX.out hb1)
  clear hb1 c0 c1 cz
  go_wp2_with fail
  refine (scan_rows gs d Xd gd w1 (HD.out.next HB1.out).dsk HGS.out (Lib.hid (hT.out.next (HD.out.below.trans (HB1.out.mono HD.out.below.size))))).mono ?_
  rintro e w2 ⟨Xs, g3, vr, vf, rv, rfl, hb2, hsc, hXs⟩
  have HB2 : Hid (Below wr.heap.size wr w2) := Lib.hid (HB1.out.trans (hb2.mono HB1.out.size))
  have HX2 := Lib.hid (old_below HX1.out hb2)
  have HSC := Lib.hid hsc
  have HXS : Hid (∀ j, Xs j → wr.heap.size < j) := Lib.hid fun j hj => by
    have h1 := hXs j hj
    have h2 := lt_of_heap HX1.out
    have h3 := HBM.out
    omega
  clear hb2 hsc hXs
  go_wp2_with fail
  obtain ⟨W3, hW3⟩ : ∃ W3, W3 = w2.alloc (.cells #[.int .i64 0, .int .i64 0, vr, vf, .int .i64 0, .pointer (some ⟨gd, 0, none⟩), .int .i64 size] 63) := ⟨_, rfl⟩
  obtain ⟨g, hg⟩ : ∃ g, g = w2.heap.size := ⟨_, rfl⟩
  have hb3 : Below w2.heap.size w2 W3 := by rw [hW3]; exact below_alloc _ _
  have HX3 := Lib.hid (old_below HX2.out hb3)
  have hnb : ¬ Xd bm := fun hx => by have := HD.out.lt _ hx; have := HBM.out; omega
  have hl0 : LS (fun k o => K k o ∨ (k = bm ∧ o = .cells #[.int .i64 mi, .int .i64 mt] 32)) w (fun k => k = g ∨ (Xs k ∧ k ≠ g3)) Xd g gd size (scnH gs) d W3 := LS.scanned (HD.out.next HB2.out) (fun k o hko => by
    rcases hko with hko | ⟨rfl, rfl⟩
    · obtain ⟨k1, k2⟩ := HK.out k o hko
      exact ⟨old_below k1 HB2.out, k2, fun hx => by have := HXS.out k hx; have := lt_of_heap k1; omega⟩
    · exact ⟨HX2.out, hnb, fun hx => by have := HXS.out k hx; have := HBM.out; omega⟩) HSC.out (fun j hj => ⟨by have := HXS.out j hj; have := HD.out.below.size; omega, fun hx => by have := HXS.out j hj; have := HD.out.lt j hx; omega⟩) size g hg hW3
  have HL0 := Lib.hid (hl0.next (Below.refl _ W3).drew)
  rw [← hW3, ← hg]
  have r0 : ∀ w' : World, w'.heap[bm]? = some (.cells #[.int .i64 mi, .int .i64 mt] 32) → w'.cell? ⟨bm, 0, none⟩ = some (.int .i64 mi) := fun w' h => cell_of_row _ _ 0 _ _ _ h
  have r1 : ∀ w' : World, w'.heap[bm]? = some (.cells #[.int .i64 mi, .int .i64 mt] 32) → w'.cell? ⟨bm, 1, none⟩ = some (.int .i64 mt) := fun w' h => cell_of_row _ _ 1 _ _ _ h
  rw [← HBM.out]
  have hS : W3.drew.heap[bm]? = some (.cells #[.int .i64 mi, .int .i64 mt] 32) := HX3.out
  clear hW3 hg hb3 hnb hl0
  refine wp_region_held (S := fun w' : World => w'.heap[bm]? = some (.cells #[.int .i64 mi, .int .i64 mt] 32)) (by kernel_rfl) ?_
  refine H_take (i := 0) (v := ?_) rfl (by as_aux_lemma => kernel_rfl) (by as_aux_lemma => kernel_rfl) (by as_aux_lemma => kernel_rfl) (fun _ _ _ h => h) (by rfl) hS ?_ ?_
  rotate_left
  · intro w' hw'; go_simp; with_reducible rfl
  go_simp
  refine H_take (i := 1) (v := ?_) rfl (by as_aux_lemma => kernel_rfl) (by as_aux_lemma => kernel_rfl) (by as_aux_lemma => kernel_rfl) (fun _ _ _ h => h) (by rfl) hS ?_ ?_
  rotate_left
  · intro w' hw'; go_simp; with_reducible rfl
  go_simp
  refine H_take (i := 2) (v := ?_) rfl (by as_aux_lemma => kernel_rfl) (by as_aux_lemma => kernel_rfl) (by as_aux_lemma => kernel_rfl) (fun _ _ _ h => h) (by rfl) hS ?_ ?_
  rotate_left
  · intro w' hw'; go_simp; with_reducible rfl
  go_simp
  refine H_take (i := 3) (v := ?_) rfl (by as_aux_lemma => kernel_rfl) (by as_aux_lemma => kernel_rfl) (by as_aux_lemma => kernel_rfl) (fun _ _ _ h => h) (by rfl) hS ?_ ?_
  rotate_left
  · intro w' hw'; go_simp; with_reducible rfl
  go_simp
  refine H_take (i := 4) (v := ?_) rfl (by as_aux_lemma => kernel_rfl) (by as_aux_lemma => kernel_rfl) (by as_aux_lemma => kernel_rfl) (fun _ _ _ h => h) (by rfl) hS ?_ ?_
  rotate_left
  · intro w' hw'; go_simp; with_reducible rfl
  go_simp
  refine H_one (i := 5) (by as_aux_lemma => kernel_rfl) rfl (by rfl) ?_
  go_simp
  have hrl : (scnH gs).rows.length ≤ 1000000 := by have := HGS.out.few.1; show (laidG gs).length ≤ 1000000; omega
  have hft : ∀ W, Lg W (fun k => k = g ∨ (Xs k ∧ k ≠ g3)) g gd size (scnH gs) → Calls Tryz.prog 46 #[.pointer (some ⟨g, 0, none⟩), .agg #[.int .i64 mi, .int .i64 mt]] W fun e w' => e = .returned (.bool true) ∧ Below W.heap.size W w' := fun W hl => by
    obtain ⟨r, rs, hr⟩ := List.exists_cons_of_ne_nil HRS.out
    have h9 := fits_rows _ g gd size (scnH gs) r rs W hl HOK.out hr mi mt HM.out.1 HM.out.2
    rw [HFIT.out] at h9
    exact h9
  refine (settle_fits _ w _ _ Xd g gd size (scnH gs) d HL0.out hrl mi mt hft HLA.out).mono ?_
  rintro e w4 ⟨gn, rfl, hgn, hnX, hnXd, hl4⟩
  have hS4 := (hl4.kp bm _ (.inr ⟨rfl, rfl⟩)).1
  have HL4 := Lib.hid hl4
  refine ⟨hS4, ?_⟩
  clear hl4 hrl hft
  go_simp
  refine H_one (i := 6) (by as_aux_lemma => kernel_rfl) rfl (by rfl) ?_
  go_simp
  have hmend := mend_any _ w w4 _ Xd g gd size _ d HL4.out (.func 49) #[.pointer (some ⟨gn, 0, none⟩)] (fun f hf g9 W9 h9 _ => mend1_has f g9 gn _ W9 (fiG_has HNE.out f hf).1 h9) (fun f hf => (fiG_has HNE.out f hf).2) HOK2.out hP
  rw [HSY.out] at hmend
  simp only at hmend
  refine hmend.mono ?_
  clear hmend
  rintro e w5 ⟨rfl, Xd5, hl5⟩
  have hS5 := (hl5.kp bm _ (.inr ⟨rfl, rfl⟩)).1
  have HL5 := Lib.hid hl5
  refine ⟨hS5, ?_⟩
  clear hl5
  go_simp
  refine H_take (i := 7) (v := ?_) rfl (by as_aux_lemma => kernel_rfl) (by as_aux_lemma => kernel_rfl) (by as_aux_lemma => kernel_rfl) (fun _ _ _ h => h) (by rfl) hS5 ?_ ?_
  rotate_left
  · intro w' hw'; go_simp; with_reducible rfl
  go_simp
  refine wpAnyH_done (by as_aux_lemma => kernel_rfl) ?_ _
  clear r0 r1 hS hS4 hS5 hgn
  go_wp2_with fail
  go_ret2
  exact ⟨g, _, Xd5, rfl, ⟨HL5.out.ds, HL5.out.lg, HL5.out.own, HL5.out.dis, fun k o hko => HL5.out.kp k o (.inl hko)⟩⟩
end Go.Proofs.YtamgjlegcegmeaaGreatDoor.M

/- Part: SegGr3. -/
namespace Go.Proofs.YtamgjlegcegmeaaGreatDoor.M
open Go.RowKit
open D (Fl Dk)

/-- The last term, of entries behind one. -/
def ltE (tm : Int) (es : List En) : Int := match es.getLast? with
  | none => tm
  | some e => e.term

theorem ltE_cons (tm : Int) (e : En) (es : List En) : ltE tm (e :: es) = ltE e.term es := by
  unfold ltE
  cases es with
  | nil => rfl
  | cons a es => rw [List.getLast?_cons_cons]; rw [List.getLast?_eq_some_getLast (by simp)]

theorem chain_append : ∀ (a b : List En) (ix tm : Int), chain ix tm (a ++ b) ↔ chain ix tm a ∧ chain (ix + (a.length : Int)) (ltE tm a) b
  | [], b, ix, tm => by simp [chain, ltE]
  | e :: a, b, ix, tm => by
    rw [List.cons_append, ltE_cons]
    simp only [chain, List.length_cons]
    rw [chain_append a b (ix + 1) e.term, show ix + 1 + (a.length : Int) = ix + ((a.length + 1 : Nat) : Int) by push_cast; omega]
    constructor
    · rintro ⟨h1, h2, h3, h4⟩; exact ⟨⟨h1, h2, h3⟩, h4⟩
    · rintro ⟨⟨h1, h2, h3⟩, h4⟩; exact ⟨h1, h2, h3, h4⟩

theorem chain_weak {ix tm tm' : Int} : ∀ {es : List En}, chain ix tm es → tm' ≤ tm → chain ix tm' es
  | [], _, _ => trivial
  | _ :: _, ⟨h1, h2, h3⟩, h => ⟨h1, Int.le_trans h h2, h3⟩

theorem chain_idx : ∀ {es : List En} {ix tm : Int}, chain ix tm es → ∀ i (h : i < es.length), es[i].idx = ix + 1 + (i : Int)
  | [], _, _, _, i, h => by simp at h
  | e :: es, ix, tm, ⟨h1, _, h3⟩, i, h => by
    cases i with
    | zero => simp only [List.getElem_cons_zero]; rw [h1]; simp
    | succ i =>
      simp only [List.getElem_cons_succ]
      rw [chain_idx h3 i (by simpa using h)]
      push_cast
      omega

theorem chain_term : ∀ {es : List En} {ix tm : Int}, chain ix tm es → ∀ i (h : i < es.length), tm ≤ es[i].term
  | [], _, _, _, i, h => by simp at h
  | e :: es, ix, tm, ⟨_, h2, h3⟩, i, h => by
    cases i with
    | zero => exact h2
    | succ i =>
      have := chain_term h3 i (by simpa using h)
      simp only [List.getElem_cons_succ]
      omega

theorem lastT_laidG (gs : List (Int × List En)) : lastT (laidG gs) = ltE 0 (entG gs) := by
  unfold lastT Hd.last ltE
  rw [← laidG_map, List.getLast?_map]
  simp only
  cases (laidG gs).getLast? <;> rfl

theorem Grp.at {gs : List (Int × List En)} : ∀ {ix : Int}, Grp ix gs → ∀ k (h : k < gs.length), gs[k].1 = ix + ((entG (gs.take k)).length : Int) + 1 := by
  induction gs with
  | nil => intro ix _ k h; simp at h
  | cons q gs ih =>
    intro ix h k hk
    obtain ⟨a1, a2, a3⟩ := h
    cases k with
    | zero => simp only [List.getElem_cons_zero, List.take_zero, entG, List.flatMap_nil, List.length_nil]; omega
    | succ k =>
      simp only [List.getElem_cons_succ, List.take_succ_cons]
      rw [ih a3 k (by simpa using hk)]
      simp only [entG, List.flatMap_cons, List.length_append]
      push_cast
      omega

theorem entG_take (gs : List (Int × List En)) (k : Nat) (h : k < gs.length) : entG gs = entG (gs.take k) ++ (gs[k].2 ++ entG (gs.drop (k + 1))) := by
  unfold entG
  conv => lhs; rw [← List.take_append_drop k gs, List.drop_eq_getElem_cons h, List.flatMap_append, List.flatMap_cons]

theorem laidG_length (gs : List (Int × List En)) : (laidG gs).length = (entG gs).length := by rw [← laidG_map, List.length_map]

theorem mem_used : ∀ {fs : List Fl} {f : Fl}, f ∈ fs → f.b.length ≤ D.used fs
  | g :: fs, f, h => by
    have e : D.used (g :: fs) = g.b.length + D.used fs := by unfold D.used; simp
    rw [e]
    rcases List.mem_cons.1 h with rfl | h
    · omega
    · have := mem_used h
      omega

theorem used_nb : ∀ fs : List Fl, D.used fs = ((nb fs).map fun p => p.2.length).sum
  | [] => rfl
  | f :: fs => by
    have := used_nb fs
    unfold D.used nb at this ⊢
    simp only [List.map_cons, List.sum_cons]
    rw [this]

theorem used_gnb : ∀ gs : List (Int × List En), ((gnb gs).map fun p => p.2.length).sum = (rowsB (entG gs)).length
  | [] => rfl
  | g :: gs => by
    have := used_gnb gs
    unfold gnb at this ⊢
    simp only [List.map_cons, List.sum_cons, entG, List.flatMap_cons]
    rw [this]
    unfold rowsB
    rw [List.flatMap_append, List.length_append]
    rfl

/-- Such a disk is one that scan reads whole. -/
theorem GsOk.of {gs : List (Int × List En)} {ix : Int} {d : Dk} (s : GDk gs ix d) (hc : chain ix 0 (entG gs)) (h0 : 0 ≤ ix) (hb : ∀ e ∈ entG gs, EnB e) (hn : ix + ((entG gs).length : Int) ≤ 4000) (hr : (rowsB (entG gs)).length ≤ 1000000) : GsOk gs d := by
  have hu : D.used d.fs ≤ 1000000 := by rw [used_nb, s.fs, used_gnb]; exact hr
  have hln := laidG_length gs
  refine ⟨s.fs, fun k hk => ?_, s.grp.next, fun g hg => ?_, fun g hg e he => hb e (List.mem_flatMap.2 ⟨g, hg, he⟩), ⟨by omega, by have := s.grp.len; omega⟩, s.well.1.2.1, by omega⟩
  · rw [entG_take gs k hk] at hc
    have h1 := ((chain_append _ _ _ _).1 hc).2
    have h2 := ((chain_append _ _ _ _).1 h1).1
    rw [lastT_laidG, show gs[k].1 - 1 = ix + ((entG (gs.take k)).length : Int) by have := s.grp.at k hk; omega]
    exact h2
  · obtain ⟨b1, b2, b3⟩ := s.grp.mem g hg
    have hl := List.length_pos_iff.2 b3
    refine ⟨⟨by omega, by omega⟩, ?_, by omega⟩
    have h1 : (sgName g.1, rowsB g.2) ∈ nb d.fs := by rw [s.fs]; exact List.mem_map.2 ⟨g, hg, rfl⟩
    obtain ⟨f, hf, he⟩ := List.mem_map.1 h1
    have hfb : f.b = rowsB g.2 := congrArg Prod.snd he
    have := mem_used hf
    rw [← hfb]
    omega

theorem laidG_get (gs : List (Int × List En)) (i : Nat) (h : i < (entG gs).length) : ∃ h' : i < (laidG gs).length, (laidG gs)[i].e = (entG gs)[i] := by
  have h' : i < (laidG gs).length := by rw [laidG_length]; exact h
  refine ⟨h', ?_⟩
  have h1 := congrArg (fun l => l[i]?) (laidG_map gs)
  simp only [List.getElem?_map] at h1
  rw [List.getElem?_eq_getElem h', List.getElem?_eq_getElem h] at h1
  simpa using h1

/-- It fits a mark within it, or right ahead of it. -/
theorem fits_grp {gs : List (Int × List En)} {ix mi mt : Int} (hc : chain ix 0 (entG gs)) (hne : entG gs ≠ []) (h1 : ix ≤ mi) (h2 : mi < ix + ((entG gs).length : Int)) (h3 : mi = ix → ∀ (h : 0 < (entG gs).length), mt ≤ (entG gs)[0].term) (h4 : ∀ i (h : i < (entG gs).length), (entG gs)[i].idx = mi → (entG gs)[i].term = mt) : fitsE (scnH gs) mi mt = true := by
  have hl := List.length_pos_iff.2 hne
  obtain ⟨g0, g1⟩ := laidG_get gs 0 hl
  have hi0 := chain_idx hc 0 hl
  obtain ⟨r, rs, hr⟩ := List.exists_cons_of_ne_nil (show laidG gs ≠ [] from fun h => by rw [h] at g0; simp at g0)
  have hre : r.e = (entG gs)[0] := by
    rw [← g1]
    simp only [hr, List.getElem_cons_zero]
  unfold fitsE scnH
  simp only [hr]
  by_cases he : r.e.idx = mi + 1
  · rw [if_pos he]
    rw [hre] at he ⊢
    exact decide_eq_true (h3 (by omega) hl)
  · rw [if_neg he]
    rw [hre] at he ⊢
    rw [if_neg (by omega)]
    have hk : (mi - (entG gs)[0].idx).toNat < (entG gs).length := by omega
    obtain ⟨k0, k1⟩ := laidG_get gs _ hk
    rw [← hr, List.getElem?_eq_getElem k0]
    simp only
    rw [k1]
    exact decide_eq_true (h4 _ hk (by rw [chain_idx hc _ hk]; omega))
end Go.Proofs.YtamgjlegcegmeaaGreatDoor.M

/- Part: SegDrw. -/
namespace Go.Proofs.YtamgjlegcegmeaaGreatDoor.M
open Go.RowKit Go.Maps
open D (Fl Dk)

set_option maxRecDepth 20000 in
set_option maxHeartbeats 3200000 in
theorem dropTo_wrong (X : Nat → Prop) (g gd : Nat) (least : Int) (h : Hd) (wa : World) (l : Lg wa X g gd least h) (ho : HdOk h) (hsq : h.Seq) (mi mt : Int) (ht : termAt h mi ≠ (mt, true)) :
    Calls Tryz.prog 9 #[.pointer (some ⟨g, 0, none⟩), .agg #[.int .i64 mi, .int .i64 mt]] wa fun e w' => e = .returned (.int .i64 2) ∧ Below wa.heap.size wa w' := by
  obtain ⟨W1, hW1⟩ : ∃ W1, W1 = wa.alloc (.cells #[.int .i64 mi, .int .i64 mt] 32) := ⟨_, rfl⟩
  have hb1 : Below wa.heap.size wa W1 := by rw [hW1]; exact below_alloc _ _
  have hx1 : W1.heap[wa.heap.size]? = some (.cells #[.int .i64 mi, .int .i64 mt] 32) := by rw [hW1]; exact heap_new _ _ _ rfl
  have HTM := Lib.hid (Term_any X g gd least h mi W1 (l.next hb1) ho hsq)
  obtain ⟨⟨t, b⟩, htb⟩ : ∃ q, q = termAt h mi := ⟨_, rfl⟩
  rw [← htb] at HTM ht
  have HW1 := Lib.hid hW1
  have HB1 := Lib.hid hb1
  have HX1 := Lib.hid hx1
  obtain ⟨b0, b1, -, -, bz⟩ := block2 hx1
  clear l ho hsq hW1 hb1 hx1 htb
  cases b with
  | false =>
    clear ht
    go_enter Tryz.func9, Tryz.ntmps9
    go_wp2_with fail
    rw [← HW1.out]
    refine HTM.out.mono ?_
    rintro e w2 ⟨rfl, hb2⟩
    have HB2 := Lib.hid hb2
    obtain ⟨b0', b1', -, -, bz'⟩ := block2 (old_below HX1.out hb2)
    clear hb2 b0 b1 bz
    go_wp2_with fail
    go_ret
    exact ⟨rfl, HB1.out.trans (HB2.out.mono HB1.out.size)⟩
  | true =>
    have hne : (t != mt) = true := by
      rw [bne_iff_ne]
      exact fun e => ht (by rw [e])
    clear ht
    go_enter Tryz.func9, Tryz.ntmps9
    go_wp2_with fail
    rw [← HW1.out]
    refine HTM.out.mono ?_
    rintro e w2 ⟨rfl, hb2⟩
    have HB2 := Lib.hid hb2
    obtain ⟨b0', b1', -, -, bz'⟩ := block2 (old_below HX1.out hb2)
    clear hb2 b0 b1 bz
    go_wp2_with fail
    go_ret
    exact ⟨rfl, HB1.out.trans (HB2.out.mono HB1.out.size)⟩
end Go.Proofs.YtamgjlegcegmeaaGreatDoor.M

/- Part: SegGr4. -/
namespace Go.Proofs.YtamgjlegcegmeaaGreatDoor.M
open Go.RowKit
open D (Fl Dk)

/-- Entries as the law makes them: numbered from 1 on, their terms rising from 1 on. -/
structure DrIn (E : List En) : Prop where
  ch : chain 0 1 E
  tm : ∀ e ∈ E, e.term ≤ 1000 ∧ (0 ≤ e.kind ∧ e.kind ≤ 255) ∧ e.b.length ≤ 6
  n : E.length ≤ 60

theorem DrIn.enb {E : List En} (h : DrIn E) : ∀ e ∈ E, EnB e := fun e he => by
  obtain ⟨i, hi, rfl⟩ := List.getElem_of_mem he
  have h1 := chain_idx h.ch i hi
  have h2 := chain_term h.ch i hi
  obtain ⟨h3, h4, h5⟩ := h.tm _ (List.getElem_mem hi)
  have := h.n
  exact ⟨⟨by omega, by omega⟩, ⟨by omega, by omega⟩, h4, by omega⟩

theorem follow_of : ∀ {E : List En} {ix tm t0 : Int}, chain ix tm E → 1 ≤ tm → t0 ≤ tm → (∀ e ∈ E, EnB e) → followE (ix, t0) E = true
  | [], _, _, _, _, _, _, _ => rfl
  | e :: E, ix, tm, t0, ⟨h1, h2, h3⟩, h4, h5, h6 => by
    obtain ⟨⟨a1, a2⟩, ⟨a3, a4⟩, ⟨a5, a6⟩, a7⟩ := h6 e (by simp)
    rw [followE, Bool.and_eq_true]
    refine ⟨decide_eq_true ⟨h1, a2, by simp only; omega, a4, a5, a6, a7⟩, ?_⟩
    rw [h1]
    exact follow_of h3 (by omega) (Int.le_refl _) fun x hx => h6 x (List.mem_cons_of_mem _ hx)

theorem sum_rows {B : Nat} : ∀ {E : List En}, (∀ e ∈ E, (sgRow e).length ≤ B) → ((E.map fun e => (sgRow e).length).sum) ≤ B * E.length
  | [], _ => by simp
  | e :: E, h => by
    have h1 := h e (by simp)
    have h2 := sum_rows fun x hx => h x (List.mem_cons_of_mem _ hx)
    simp only [List.map_cons, List.sum_cons, List.length_cons, Nat.mul_add, Nat.mul_one]
    omega

theorem sgRow_small {e : En} : (sgRow e).length ≤ 100 + e.b.length := by
  unfold sgRow sgForm
  simp only [List.length_append, four_length]
  have h1 := num_le e.idx.toNat
  have h2 := num_le e.term.toNat
  have h3 := num_le e.kind.toNat
  have h4 := num_le e.b.length
  omega

theorem DrIn.sum {E : List En} (h : DrIn E) : ((E.map fun e => (sgRow e).length).sum) ≤ 6360 := by
  have h1 := sum_rows (B := 106) (E := E) fun e he => by
    have := @sgRow_small e
    have := (h.tm e he).2.2
    omega
  have := h.n
  omega

/-- Laid and synced. -/
theorem drops_laid (least : Int) {E : List En} (h : DrIn E) : (appendE least k0 (fresh 100000) E).1 = 0 ∧ ∃ gs, GAt gs (appendE least k0 (fresh 100000) E).2.1 (appendE least k0 (fresh 100000) E).2.2 ∧ entG gs = E := by
  have hs := h.sum
  have hf : followE k0.last E = true := follow_of (ix := 0) (t0 := 0) h.ch (Int.le_refl _) (by omega) h.enb
  have hfree : (fresh 100000).free = 100000 := by simp [fresh, D.Dk.free, D.used]
  unfold appendE
  rw [hf, if_neg (by simp), if_neg (by rw [hfree]; omega)]
  obtain ⟨h1, gs, h2, h3⟩ := GAt.lays (least := least) E (GAt.empty (h := k0) (d := fresh 100000) rfl rfl rfl rfl (fresh_well (by omega) (by omega)) ⟨rfl, rfl⟩) (fun i hi => by rw [chain_idx h.ch i hi]; simp [entG]) (by have := h.n; simp [entG]; omega) (by rw [hfree]; omega)
  exact ⟨h1, gs, h2, by simpa [entG] using h3⟩

theorem filter_rows {ix tm mi : Int} : ∀ {rs : List Rw}, chain ix tm (rs.map (·.e)) → ix ≤ mi → (rs.filter fun r => decide (mi < r.e.idx)).map (·.e) = (rs.map (·.e)).drop (mi - ix).toNat
  | [], _, _ => by simp
  | r :: rs, hc, h => by
    obtain ⟨h1, h2, h3⟩ : r.e.idx = ix + 1 ∧ tm ≤ r.e.term ∧ chain (ix + 1) r.e.term (rs.map fun r => r.e) := by simpa [chain] using hc
    by_cases hm : mi = ix
    · have hz : (mi - ix).toNat = 0 := by omega
      rw [hz, List.drop_zero]
      congr 1
      rw [List.filter_eq_self]
      intro q hq
      obtain ⟨i, hi, rfl⟩ := List.getElem_of_mem hq
      have h4 := chain_idx hc i (by simpa using hi)
      simp only [List.getElem_map] at h4
      exact decide_eq_true (by omega)
    · have hz : (mi - ix).toNat = (mi - (ix + 1)).toNat + 1 := by omega
      rw [hz, List.map_cons, List.drop_succ_cons, List.filter_cons_of_neg (by simp only [decide_eq_true_eq]; omega)]
      exact filter_rows h3 (by omega)

/-- Rows of such entries, segments of such groups: within bounds. -/
theorem hdOk_of {h : Hd} {E : List En} {gs : List (Int × List En)} {ix : Int} (hE : ∀ e ∈ E, EnB e) (hr : ∀ r ∈ h.rows, r.e ∈ E) (hrl : h.rows.length ≤ 4000) (hg : Grp ix gs) (h0 : 0 ≤ ix) (hn : ix + ((entG gs).length : Int) ≤ 4000) (hsz : ∀ g ∈ gs, (rowsB g.2).length ≤ 1000000) (hf : ∀ f ∈ h.files, ∃ g ∈ gs, f.first = g.1 ∧ f.size = ((rowsB g.2).length : Int)) (hfl : h.files.length ≤ 4000)
    (hm : (0 ≤ h.mi ∧ h.mi < 10000000000) ∧ (0 ≤ h.mt ∧ h.mt < 10000000000)) : HdOk h := by
  refine ⟨by omega, by omega, fun f hff => ?_, hm, fun r hrr => ?_⟩
  · obtain ⟨g, hgg, e1, e2⟩ := hf f hff
    obtain ⟨b1, b2, b3⟩ := hg.mem g hgg
    have := hsz g hgg
    rw [e1, e2]
    exact ⟨⟨by omega, by omega⟩, by omega, by omega⟩
  · obtain ⟨⟨a1, a2⟩, ⟨a3, a4⟩, a5, a6⟩ := hE _ (hr r hrr)
    exact ⟨⟨by omega, by omega⟩, ⟨by omega, by omega⟩, a5, a6⟩

theorem seq_chain {h : Hd} {tm : Int} (hc : chain h.mi tm (h.rows.map (·.e))) : h.Seq := fun i hi => by
  have := chain_idx hc i (by simpa using hi)
  simpa using this

/-- Behind the first n entries the rest is numbered on. -/
theorem chain_drop {E : List En} {ix tm : Int} (h : chain ix tm E) (n : Nat) (hn : n ≤ E.length) : ∃ t, chain (ix + (n : Int)) t (E.drop n) ∧ tm ≤ t := by
  have h1 := h
  rw [← List.take_append_drop n E] at h1
  have h2 := ((chain_append _ _ _ _).1 h1)
  rw [List.length_take, Nat.min_eq_left hn] at h2
  refine ⟨_, h2.2, ?_⟩
  unfold ltE
  cases hl : (E.take n).getLast? with
  | none => exact Int.le_refl _
  | some e =>
    obtain ⟨i, hi, he⟩ := List.getElem_of_mem (List.mem_of_getLast? hl)
    have h3 := chain_term h2.1 i hi
    rw [he] at h3
    exact h3

theorem termAt_row {h : Hd} {E : List En} (hr : h.rows.map (·.e) = E) (i : Nat) (hi : i < E.length) : termAt h (h.mi + 1 + (i : Int)) = (E[i].term, true) := by
  have hil : i < h.rows.length := by rw [← List.length_map (f := (·.e)), hr]; exact hi
  unfold termAt Hd.row?
  rw [if_neg (by omega), if_neg (by omega), show (h.mi + 1 + (i : Int) - h.mi - 1).toNat = i by omega, List.getElem?_eq_getElem hil]
  subst hr
  simp

theorem termAt_out {h : Hd} {E : List En} (hr : h.rows.map (·.e) = E) : termAt h (h.mi + 1 + (E.length : Int)) = (0, false) := by
  have hil : h.rows.length = E.length := by rw [← hr, List.length_map]
  unfold termAt Hd.row?
  rw [if_neg (by omega), if_neg (by omega), List.getElem?_eq_none (by omega)]
end Go.Proofs.YtamgjlegcegmeaaGreatDoor.M
