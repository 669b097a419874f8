/- parsePart, parseList, parseRow of package mould read shapes as pShape does. parseRow of package mould reads rows as pRow does; so all three parsers read as pShape does. parse and Right of package mould answer as 'shape' does. -/
import Derived.Test.YtamgjlegcegmeaaGreatDoorSD5
import Derived.Test.YtamgjlegcegmeaaGreatDoorRows
import Derived.WalkKit
import Derived.WalkSpells
import Derived.WalkLawsBesides
import Derived.Lib.Hide
/- Part: MouldParse1. -/
namespace Go.Proofs.YtamgjlegcegmeaaGreatDoor.M
open Go.RowKit

/-- What the three parsers answer, at a text, of a reading of what is left of it. -/
def PaPost (s : ByteArray) (w : World) (r : Option (Sh × List UInt8)) (e : Ending) (w' : World) : Prop :=
  Below w.heap.size w w' ∧ match r with
  | none => e = .returned (.tuple #[.agg #[.int .u8 0, .slice none 0 0, .bool false], .int .i64 0, .bool false])
  | some (sh, rest) => ∃ v k, e = .returned (.tuple #[v, .int .i64 (k : Nat), .bool true]) ∧ k ≤ s.size ∧ rest = s.data.toList.drop k ∧ RepS w' (fun b => w.heap.size ≤ b ∧ b < w'.heap.size) sh v

def PartSaid (d : Nat) : Prop := ∀ (s : ByteArray) (k : Nat) (a nest : Int) (w : World), a = (k : Int) → s.size ≤ 64 → k ≤ s.size → nest = 9 - (d : Int) → d ≤ 9 →
  Calls Tryz.prog 106 #[.string s, .int .i64 a, .int .i64 nest] w (PaPost s w (pShape d (s.data.toList.drop k)))

def ListSaid (d : Nat) : Prop := ∀ (s : ByteArray) (k : Nat) (a nest : Int) (w : World), a = (k : Int) → s.size ≤ 64 → k ≤ s.size → nest = 9 - (d : Int) → d ≤ 9 →
  Calls Tryz.prog 125 #[.string s, .int .i64 a, .int .i64 nest] w (PaPost s w ((pShape d (s.data.toList.drop k)).map fun x => (.list x.1, x.2)))

def RowSaid (d : Nat) : Prop := ∀ (s : ByteArray) (k : Nat) (a nest : Int) (w : World), a = (k : Int) → s.size ≤ 64 → k ≤ s.size → nest = 9 - (d : Int) → d ≤ 9 →
  Calls Tryz.prog 126 #[.string s, .int .i64 a, .int .i64 nest] w
    (PaPost s w ((pRow (pShape d) (s.size - k + 1) (s.data.toList.drop k)).map fun x => (.row x.1, x.2)))

theorem drop_cons (s : ByteArray) (k : Nat) (h : k < s.size) : s.data.toList.drop k = s[k] :: s.data.toList.drop (k + 1) := by
  rw [List.drop_eq_getElem_cons (by simpa using h)]; rfl

theorem u8_beq (a b : UInt8) : ((a.toNat : Int) == (b.toNat : Int)) = (a == b) := by
  rw [Bool.eq_iff_iff]; simp [Int.natCast_inj, UInt8.toNat_inj]

/-- What a call that only makes memory leaves of a struct of three that was made just ahead of it. -/
theorem three_kept {w w1 : World} {x y z : Value} {t : TypeId} (hb : Below (w.alloc (.cells #[x, y, z] t)).heap.size (w.alloc (.cells #[x, y, z] t)) w1) :
    w1.cell? ⟨w.heap.size, 0, none⟩ = some x ∧ w1.cell? ⟨w.heap.size, 1, none⟩ = some y ∧ w1.cell? ⟨w.heap.size, 2, none⟩ = some z ∧
    w1.frozen? ⟨w.heap.size, 0, none⟩ = false ∧ w1.frozen? ⟨w.heap.size, 1, none⟩ = false ∧ w1.frozen? ⟨w.heap.size, 2, none⟩ = false ∧ w.heap.size < w1.heap.size := by
  have hc := fun o => hb.cell (p := ⟨w.heap.size, o, none⟩) (by simp)
  have hf := fun o => hb.frozen (p := ⟨w.heap.size, o, none⟩) (by simp)
  have hz := hb.size
  simp only [hc, hf]
  refine ⟨?_, ?_, ?_, ?_, ?_, ?_, ?_⟩ <;> first | (simp [World.cell?_alloc_at, World.frozen?_alloc_at]; done) | (simp at hz; omega)

set_option maxRecDepth 20000 in
set_option maxHeartbeats 400000 in
theorem list_of_part {d : Nat} (hp : PartSaid d) : ListSaid d := by
  rintro s k _ nest w rfl hs hk hn hd
  have H := Lib.hid hn
  clear hn
  go_enter Tryz.func125, Tryz.ntmps125
  go_wp2_with fail
  refine (hp s k _ nest _ rfl hs hk H.out hd).mono ?_
  rintro e w1 ⟨hb, hr⟩
  obtain ⟨c0, c1, c2, f0, f1, f2, hz⟩ := three_kept hb
  cases hq : pShape d (s.data.toList.drop k) with
  | none =>
    rw [hq] at hr
    subst hr
    have Hq := Lib.hid hq
    clear hq
    go_wp2_with fail
    refine bodyPost_ret (v := .tuple #[.agg #[.int .u8 0, .slice none 0 0, .bool false], .int .i64 0, .bool false]) (by simp [results, Tryz.results125, go_sem, c0, c1, c2, hz]) rfl ?_
    rw [Hq.out]
    refine ⟨?_, rfl⟩
    exact (((((below_alloc _ _).trans (hb.mono (by simp))).setCell (by simp) _).setCell (by simp) _).setCell (by simp) _).alloc (by simp; omega) _
  | some x =>
    obtain ⟨sh, rest⟩ := x
    rw [hq] at hr
    obtain ⟨v, k1, rfl, hk1, hrest, hv⟩ := hr
    have Hq := Lib.hid hq
    clear hq
    have Hr := Lib.hid hrest
    clear hrest
    obtain ⟨pa, pn, pc, rfl⟩ := hv.agg
    go_wp2_with fail
    refine bodyPost_ret (v := .tuple #[.agg #[.int .u8 42, .slice (some ⟨w1.heap.size + 1, 0, none⟩) 1 1, .bool true], .int .i64 (k1 : Nat), .bool true]) (by simp [results, Tryz.results125, go_sem, c0, c1, c2, hz]) rfl ?_
    rw [Hq.out]
    refine ⟨(((((below_alloc _ _).trans (hb.mono (by simp))).setCell (by simp) _).setCell (by simp) _).setCell (by simp) _ |>.alloc (by simp; omega) _).alloc (by simp; omega) _, _, k1, rfl, hk1, Hr.out, ?_⟩
    unfold RepS
    refine ⟨w1.heap.size + 1, 0, 1, .agg #[.int .u8 (kind sh), .slice pa pn pc, .bool (solid sh)], rfl, ⟨by omega, by simp⟩, ⟨_, _, _, rfl, ?_, ?_, ?_⟩, hv.same ?_ ?_⟩
    · simp [World.cell?_alloc_at]
    · simp [World.cell?_alloc_at]
    · simp [World.cell?_alloc_at]
    · simp; intro k h1 h2; omega
    · intro k ⟨h1, h2⟩
      simp only [World.size_alloc] at h1
      simp (disch := (simp; omega)) only [heap_alloc_old, heap_setCell_other]

theorem pShape_end {d : Nat} : pShape d [] = none := by cases d <;> simp [pShape]

theorem byte_lit (c : UInt8) (n : Nat) (h : n < 256) : ((c.toNat : Int) == (n : Int)) = decide (c = UInt8.ofNat n) := by
  rw [Bool.eq_iff_iff]
  simp only [beq_iff_eq, decide_eq_true_eq, Int.natCast_inj, ← UInt8.toNat_inj, UInt8.toNat_ofNat_of_lt' h]

/-- A part's first byte, tested as the walk writes its tests. -/
theorem pShape_cons (d : Nat) (c : UInt8) (r : List UInt8) : pShape (d + 1) (c :: r) =
    if ((c.toNat : Int) == 110) = true then some (.num, r)
    else if ((c.toNat : Int) == 98) = true then some (.blob, r)
    else if ((c.toNat : Int) == 42) = true then (pShape d r).map fun x => (.list x.1, x.2)
    else if ((c.toNat : Int) == 91) = true then (pRow (pShape d) (r.length + 1) r).map fun x => (.row x.1, x.2)
    else none := by
  have e1 := byte_lit c 110 (by decide)
  have e2 := byte_lit c 98 (by decide)
  have e3 := byte_lit c 42 (by decide)
  have e4 := byte_lit c 91 (by decide)
  have k1 : (UInt8.ofNat 110) = 110 := rfl
  have k2 : (UInt8.ofNat 98) = 98 := rfl
  have k3 : (UInt8.ofNat 42) = 42 := rfl
  have k4 : (UInt8.ofNat 91) = 91 := rfl
  rw [k1] at e1; rw [k2] at e2; rw [k3] at e3; rw [k4] at e4
  simp only [Int.cast_ofNat_Int] at e1 e2 e3 e4
  rw [pShape, e1, e2, e3, e4]
  simp only [decide_eq_true_eq]
  repeat' split
  all_goals simp_all

set_option maxRecDepth 20000 in
set_option maxHeartbeats 800000 in
theorem part_of {d : Nat} (hl : ∀ e, d = e + 1 → ListSaid e) (hr : ∀ e, d = e + 1 → RowSaid e) : PartSaid d := by
  rintro s k _ nest w rfl hs hk hn hd
  by_cases hk2 : k < s.size
  · by_cases hd0 : d = 0
    · subst hd0
      have H : Hid (pShape 0 (s.data.toList.drop k) = none) := Lib.hid (by simp [pShape])
      have hn1 : 8 < nest := by omega
      clear hn
      go_enter Tryz.func106, Tryz.ntmps106
      go_wp2_with fail
      refine bodyPost_ret (v := .tuple #[.agg #[.int .u8 0, .slice none 0 0, .bool false], .int .i64 0, .bool false]) (by simp [results, Tryz.results106, go_sem]) rfl ?_
      rw [H.out]
      exact ⟨below_alloc _ _, rfl⟩
    · obtain ⟨e, rfl⟩ : ∃ e, d = e + 1 := ⟨d - 1, by omega⟩
      have HC : Hid (s.data.toList.drop k = s[k] :: s.data.toList.drop (k + 1)) := Lib.hid (drop_cons s k hk2)
      have hn1 : nest ≤ 8 := by omega
      have hn0 : 0 ≤ nest := by omega
      have Hn := Lib.hid hn
      have HL : Hid (ListSaid e) := Lib.hid (hl e rfl)
      have HR : Hid (RowSaid e) := Lib.hid (hr e rfl)
      have HLn : Hid ((s.data.toList.drop (k + 1)).length = s.size - (k + 1)) := Lib.hid (by simp)
      clear hn hl hr
      go_enter Tryz.func106, Tryz.ntmps106
      go_wp2_with fail
      · have ht : (s[k].toNat : Int) = 110 := by simpa using ‹((s[k].toNat : Int) == 110) = true›
        refine bodyPost_ret (v := .tuple #[.agg #[.int .u8 (s[k].toNat : Int), .slice none 0 0, .bool true], .int .i64 ((k + 1 : Nat) : Int), .bool true]) (by simp [results, Tryz.results106, go_sem]) rfl ?_
        rw [HC.out, pShape_cons, ht]
        exact ⟨below_alloc _ _, _, k + 1, rfl, by omega, rfl, by unfold RepS; rfl⟩
      · have ht : (s[k].toNat : Int) = 98 := by simpa using ‹((s[k].toNat : Int) == 98) = true›
        refine bodyPost_ret (v := .tuple #[.agg #[.int .u8 (s[k].toNat : Int), .slice none 0 0, .bool true], .int .i64 ((k + 1 : Nat) : Int), .bool true]) (by simp [results, Tryz.results106, go_sem]) rfl ?_
        rw [HC.out, pShape_cons, ht]
        exact ⟨below_alloc _ _, _, k + 1, rfl, by omega, rfl, by unfold RepS; rfl⟩
      · have HT : Hid ((s[k].toNat : Int) = 42) := Lib.hid (by simpa using ‹((s[k].toNat : Int) == 42) = true›)
        refine (HL.out s (k + 1) _ (nest + 1) _ rfl hs (by omega) (by rw [Hn.out]; omega) (by omega)).mono ?_
        rintro e1 w1 ⟨hb, hr⟩
        obtain ⟨c0, c1, c2, f0, f1, f2, hz⟩ := three_kept hb
        cases hq : (pShape e (s.data.toList.drop (k + 1))).map fun x => (Sh.list x.1, x.2) with
        | none =>
          rw [hq] at hr
          subst hr
          have Hq := Lib.hid hq
          clear hq
          go_wp2_with fail
          refine bodyPost_ret (v := .tuple #[.agg #[.int .u8 0, .slice none 0 0, .bool false], .int .i64 0, .bool false]) (by simp [results, Tryz.results106, go_sem, c0, c1, c2, hz]) rfl ?_
          rw [HC.out, pShape_cons, HT.out]
          simp only [Int.reduceBEq, Bool.false_eq_true, if_false, if_true, Hq.out]
          exact ⟨((((below_alloc _ _).trans (hb.mono (by simp))).setCell (by simp) _).setCell (by simp) _).setCell (by simp) _, rfl⟩
        | some x =>
          rw [hq] at hr
          obtain ⟨sh, rest⟩ := x
          obtain ⟨v, k1, rfl, hk1, hrest, hv⟩ := hr
          have Hq := Lib.hid hq
          clear hq
          have Hr := Lib.hid hrest
          clear hrest
          have HV := Lib.hid hv
          obtain ⟨pa, pn, pc, rfl⟩ := hv.agg
          clear hv
          go_wp2_with fail
          refine bodyPost_ret (v := .tuple #[.agg #[.int .u8 (kind _), .slice pa pn pc, .bool (solid _)], .int .i64 (k1 : Nat), .bool true]) (by simp [results, Tryz.results106, go_sem, c0, c1, c2, hz]; exact ⟨rfl, rfl⟩) rfl ?_
          rw [HC.out, pShape_cons, HT.out]
          simp only [Int.reduceBEq, Bool.false_eq_true, if_false, if_true, Hq.out]
          refine ⟨((((below_alloc _ _).trans (hb.mono (by simp))).setCell (by simp) _).setCell (by simp) _).setCell (by simp) _, _, k1, rfl, hk1, Hr.out, HV.out.same ?_ ?_⟩
          · simp; intro k h1 h2; omega
          · intro k ⟨h1, h2⟩
            simp only [World.size_alloc] at h1
            simp (disch := (simp; omega)) only [heap_setCell_other]
      · have HT : Hid ((s[k].toNat : Int) = 91) := Lib.hid (by simpa using ‹((s[k].toNat : Int) == 91) = true›)
        refine (HR.out s (k + 1) _ (nest + 1) _ rfl hs (by omega) (by rw [Hn.out]; omega) (by omega)).mono ?_
        rintro e1 w1 ⟨hb, hr⟩
        obtain ⟨c0, c1, c2, f0, f1, f2, hz⟩ := three_kept hb
        cases hq : (pRow (pShape e) (s.size - (k + 1) + 1) (s.data.toList.drop (k + 1))).map fun x => (Sh.row x.1, x.2) with
        | none =>
          rw [hq] at hr
          subst hr
          have Hq := Lib.hid hq
          clear hq
          go_wp2_with fail
          refine bodyPost_ret (v := .tuple #[.agg #[.int .u8 0, .slice none 0 0, .bool false], .int .i64 0, .bool false]) (by simp [results, Tryz.results106, go_sem, c0, c1, c2, hz]) rfl ?_
          rw [HC.out, pShape_cons, HT.out]
          simp only [Int.reduceBEq, Bool.false_eq_true, if_false, if_true, HLn.out, Hq.out]
          exact ⟨((((below_alloc _ _).trans (hb.mono (by simp))).setCell (by simp) _).setCell (by simp) _).setCell (by simp) _, rfl⟩
        | some x =>
          rw [hq] at hr
          obtain ⟨sh, rest⟩ := x
          obtain ⟨v, k1, rfl, hk1, hrest, hv⟩ := hr
          have Hq := Lib.hid hq
          clear hq
          have Hr := Lib.hid hrest
          clear hrest
          have HV := Lib.hid hv
          obtain ⟨pa, pn, pc, rfl⟩ := hv.agg
          clear hv
          go_wp2_with fail
          refine bodyPost_ret (v := .tuple #[.agg #[.int .u8 (kind _), .slice pa pn pc, .bool (solid _)], .int .i64 (k1 : Nat), .bool true]) (by simp [results, Tryz.results106, go_sem, c0, c1, c2, hz]; exact ⟨rfl, rfl⟩) rfl ?_
          rw [HC.out, pShape_cons, HT.out]
          simp only [Int.reduceBEq, Bool.false_eq_true, if_false, if_true, HLn.out, Hq.out]
          refine ⟨((((below_alloc _ _).trans (hb.mono (by simp))).setCell (by simp) _).setCell (by simp) _).setCell (by simp) _, _, k1, rfl, hk1, Hr.out, HV.out.same ?_ ?_⟩
          · simp; intro k h1 h2; omega
          · intro k ⟨h1, h2⟩
            simp only [World.size_alloc] at h1
            simp (disch := (simp; omega)) only [heap_setCell_other]
      · have h1 : ((s[k].toNat : Int) == 110) = false := by assumption
        have h2 : ((s[k].toNat : Int) == 98) = false := by assumption
        have h3 : ((s[k].toNat : Int) == 42) = false := by assumption
        have h4 : ((s[k].toNat : Int) == 91) = false := by assumption
        refine bodyPost_ret (v := .tuple #[.agg #[.int .u8 0, .slice none 0 0, .bool false], .int .i64 0, .bool false]) (by simp [results, Tryz.results106, go_sem]) rfl ?_
        rw [HC.out, pShape_cons, h1, h2, h3, h4]
        exact ⟨below_alloc _ _, rfl⟩
  · have hk3 : s.size ≤ k := by omega
    have H : Hid (pShape d (s.data.toList.drop k) = none) := Lib.hid (by rw [List.drop_of_length_le (by simpa using hk3)]; exact pShape_end)
    clear hn
    go_enter Tryz.func106, Tryz.ntmps106
    go_wp2_with fail
    refine bodyPost_ret (v := .tuple #[.agg #[.int .u8 0, .slice none 0 0, .bool false], .int .i64 0, .bool false]) (by simp [results, Tryz.results106, go_sem]) rfl ?_
    rw [H.out]
    exact ⟨below_alloc _ _, rfl⟩
end Go.Proofs.YtamgjlegcegmeaaGreatDoor.M

/- Part: MouldParse2. -/
namespace Go.Proofs.YtamgjlegcegmeaaGreatDoor.M
open Go.RowKit

theorem infoPart : (Tryz.prog.info? 123).map (fun i => (i.zero, i.size, i.bytes)) = some (some (.agg #[.int .u8 0, .slice none 0 0, .bool false]), 3, 40) := by kernel_rfl

/-- The state at the head of parseRow's loop: i parts are read, up to place k1. -/
def RowAt (s : ByteArray) (k d : Nat) (w : World) (k1 : Nat) (wr : World) : Prop :=
  ∃ (l : List Sh) (a : Option Addr) (n c : Nat) (xs : List Value), k ≤ k1 ∧ k1 ≤ s.size ∧ l.length ≤ k1 - k ∧
    pRow (pShape d) (s.size - k + 1) (s.data.toList.drop k) = cat l (pRow (pShape d) (s.size - k + 1 - l.length) (s.data.toList.drop k1)) ∧
    Below (w.heap.size + 1) (w.alloc (.cells #[.int .u8 0, .slice none 0 0, .bool false] 123)) wr ∧
    wr.heap[w.heap.size + 1]? = some (.cells #[.int .u8 91, .slice a n c, .bool (solids l)] 123) ∧
    wr.ownsRow (w.heap.size + 2) 123 3 (.slice a n c) l.length xs ∧
    Kids (RepS wr fun b => w.heap.size + 2 ≤ b ∧ b < wr.heap.size ∧ (Value.slice a n c).ownBlock ≠ some b) l xs

set_option maxRecDepth 20000 in
set_option maxHeartbeats 800000 in
theorem row_of_part {d : Nat} (hp : PartSaid d) : RowSaid d := by
  rintro s k _ nest w rfl hs hk hn hd
  have HN := Lib.hid hn
  have HP : Hid (PartSaid d) := Lib.hid hp
  clear hn hp
  go_enter Tryz.func126, Tryz.ntmps126
  go_wp2_with fail
  go_loopw [1] (fun i wr => ∃ k1 : Nat, i = .int .i64 (k1 : Int) ∧ RowAt s k d w k1 wr) (fun i _ => s.size - (intOf i).toNat)
  case atStart =>
    refine ⟨k, rfl, [], none, 0, 0, [], by omega, hk, by simp, cat_nil _, ?_, heap_new _ _ _ (by simp), World.ownsRow_nil _ _ _ _, rfl⟩
    exact (Below.refl _ _).alloc (by simp) _
  case round =>
    obtain ⟨k1, rfl, l, a, n, c, xs, hk1, hk2, hl, hsp, hB, hall, hown, hkids⟩ := hrel
    obtain ⟨c0, c1, c2, f0, f1, f2, hz⟩ := block3 ((hB.block w.heap.size (by omega)).trans (heap_new w _ _ rfl))
    obtain ⟨a0, a1, a2, g0, g1, g2, hz2⟩ := block3 hall
    have HS := Lib.hid hsp
    have HA := Lib.hid hall
    clear hsp hall
    by_cases hk3 : k1 < s.size
    · have HC : Hid (s.data.toList.drop k1 = s[k1] :: s.data.toList.drop (k1 + 1)) := Lib.hid (drop_cons s k1 hk3)
      by_cases h93 : (((s[k1].toNat : Int) != 93) = true)
      · go_wp2_with fail
        refine (HP.out s k1 _ nest _ rfl hs (by omega) HN.out (by omega)).mono ?_
        rintro e1 w1 ⟨hb, hr⟩
        obtain ⟨c0, c1, c2, f0, f1, f2, hz⟩ := block3 ((hb.block w.heap.size (by omega)).trans ((hB.block w.heap.size (by omega)).trans (heap_new w _ _ rfl)))
        have HA1 := Lib.hid ((hb.block (w.heap.size + 1) (by omega)).trans HA.out)
        obtain ⟨a0, a1, a2, g0, g1, g2, hz2⟩ := block3 HA1.out
        have hb9 : s[k1] ≠ 93 := by
          have e := byte_lit s[k1] 93 (by decide)
          simp only [Int.cast_ofNat_Int] at e
          intro h; rw [h] at h93; simp at h93
        cases hq : pShape d (s.data.toList.drop k1) with
        | none =>
          rw [hq] at hr
          subst hr
          have Hq := Lib.hid hq
          clear hq
          go_wp2_with fail
          refine bodyPost_ret (v := .tuple #[.agg #[.int .u8 0, .slice none 0 0, .bool false], .int .i64 0, .bool false]) (by simp [results, Tryz.results126, go_sem, c0, c1, c2, hz]) rfl ?_
          have Hq1 := Hq.out
          rw [HC.out] at Hq1
          rw [HS.out, HC.out, show s.size - k + 1 - l.length = (s.size - k - l.length) + 1 from by omega, cat_fails hb9 Hq1]
          exact ⟨((((below_behind hB).trans (hb.mono (by omega))).setCell (by simp) _).setCell (by simp) _).setCell (by simp) _ |>.alloc (by simp; omega) _, rfl⟩
        | some x =>
          rw [hq] at hr
          obtain ⟨sh, rest⟩ := x
          obtain ⟨u, k2, rfl, hk4, hrest, hu⟩ := hr
          have Hq := Lib.hid hq
          clear hq
          have Hr := Lib.hid hrest
          clear hrest
          have HU := Lib.hid hu
          obtain ⟨pa, pn, pc, rfl⟩ := hu.agg
          clear hu
          have hown1 := hown.kept (grown_of_below hb) (by cases (Value.slice a n c).ownBlock <;> simp)
          obtain ⟨ip, hip, hip0, hip1, hip2⟩ := info_parts infoPart
          go_wp2_with (at_builtin; go_loud (refine wpList_append_own2 _ rfl _ _ 121 rfl (w.heap.size + 2) 123 ip (.agg #[.int .u8 0, .slice none 0 0, .bool false]) 3 40 Tryz.underlying121 hip hip0 hip1 hip2 rfl (by decide) _ _ _ rfl ((hown1.alloc _).alloc _) ⟨w1.heap.size + 1, 0, none⟩ 1 1 [.int .u8 (kind sh), .slice pa pn pc, .bool (solid sh)] rfl rfl ?c1 ?c2 ?c3 ?c4 ?c5 ?_))
          case c1 => exact three_new (by simp)
          case c2 => intro u hu; simp at hu; rcases hu with rfl | rfl | rfl <;> rfl
          case c3 => unfold maxLen; omega
          case c4 => omega
          case c5 => simp; omega
          intro v' w4 hown2 hg _ hwhere
          have hE := grown_keeps ((hown1.alloc _).alloc _) hg (by omega) (old_alloc (old_alloc HA1.out))
          have hE0 := grown_keeps ((hown1.alloc _).alloc _) hg (by omega) (old_alloc (old_alloc (old_below (((hB.block w.heap.size (by omega)).trans (heap_new w _ _ rfl))) hb)))
          obtain ⟨c0, c1, c2, f0, f1, f2, hz⟩ := block3 hE0
          obtain ⟨a0, a1, a2, g0, g1, g2, hz2⟩ := block3 hE
          have HE := Lib.hid hE
          have HE0 := Lib.hid hE0
          clear hE hE0
          obtain ⟨a', c', hv'⟩ := owned_slice hown2
          subst hv'
          have hE2 : w4.heap[w1.heap.size]? = some (.cells #[.int .u8 (kind sh), .slice pa pn pc, .bool (solid sh)] 123) := by
            rw [hg.block w1.heap.size (by simp; omega) ?_]
            · exact old_alloc (heap_new _ _ _ rfl)
            · intro h1
              have := (hown.lt w1.heap.size h1.symm).2
              have := hb.size
              omega
          obtain ⟨b0, b1, b2, _, _, _, hz3⟩ := block3 hE2
          clear hE2
          have hk5 : k1 < k2 := by
            have := pShape_less _ _ _ _ Hq.out
            rw [Hr.out] at this
            simp at this
            omega
          have hstep : ∀ so, so = solids (l ++ [sh]) → RowAt s k d w k2 ((w4.setCell ⟨w.heap.size + 1, 1, none⟩ (.slice a' (l.length + 1) c')).setCell ⟨w.heap.size + 1, 2, none⟩ (.bool so)) := by
            rintro so rfl
            have hq2 := Hq.out
            rw [HC.out] at hq2
            have hbs := hb.size
            refine ⟨l ++ [sh], a', l.length + 1, c', xs ++ [.int .u8 (kind sh), .slice pa pn pc, .bool (solid sh)], by omega, hk4, by simp; omega, ?_, ?_, ?_, ?_, ?_⟩
            · rw [HS.out, HC.out, show s.size - k + 1 - l.length = (s.size - k - l.length) + 1 from by omega, cat_step hb9 hq2, Hr.out]
              simp
            · have h4 : Below (w.heap.size + 1) w1 w4 := (((Below.refl _ w1).alloc (by omega) _).alloc (by simp; omega) _).grown hg (by simp; omega) (fun k hk => by have := (hown.lt k hk).1; omega)
              exact (((hB.trans (hb.mono (by omega))).trans h4).setCell (by simp) _).setCell (by simp) _
            · rw [heap_setCell_same _ _ _ _ _ _ (heap_setCell_same _ _ _ _ _ _ HE.out)]
              simp
            · rw [show (l ++ [sh]).length = l.length + 1 from by simp]
              exact ownsRow_setCell_below (ownsRow_setCell_below hown2 (by simp) _) (by simp) _
            · have hkeep : ∀ b, w.heap.size + 2 ≤ b → b < w1.heap.size → (Value.slice a n c).ownBlock ≠ some b → ((w4.setCell ⟨w.heap.size + 1, 1, none⟩ (.slice a' (l.length + 1) c')).setCell ⟨w.heap.size + 1, 2, none⟩ (.bool (solids (l ++ [sh])))).heap[b]? = w1.heap[b]? := by
                intro b h1 h2 h3
                rw [Below.heap_setCell _ _ _ _ (by simp; omega), Below.heap_setCell _ _ _ _ (by simp; omega), hg.block b (by simp; omega) (fun h => h3 h.symm),
                  Below.heap_alloc _ _ _ (by simp; omega), Below.heap_alloc _ _ _ h2]
              have hnew : ∀ b, b < w1.heap.size → (Value.slice a n c).ownBlock ≠ some b → (Value.slice a' (l.length + 1) c').ownBlock ≠ some b := by
                intro b h2 h3 h4
                rcases hwhere with h5 | h5
                · exact h3 (h5.symm.trans h4)
                · rw [h4] at h5; simp at h5; omega
              have hz9 : w1.heap.size < w4.heap.size := hz3
              refine Kids.snoc (HU.out.same ?_ ?_) (hkids.mono fun s u h => h.same ?_ ?_)
              · intro b ⟨h1, h2⟩
                have h3 : (Value.slice a n c).ownBlock ≠ some b := fun h => by have := (hown.lt b h).2; omega
                exact ⟨by omega, by simp; omega, hnew b h2 h3⟩
              · intro b ⟨h1, h2⟩
                exact hkeep b (by omega) h2 fun h => by have := (hown.lt b h).2; omega
              · intro b ⟨h1, h2, h3⟩
                exact ⟨h1, by simp; omega, hnew b (by omega) h3⟩
              · intro b ⟨h1, h2, h3⟩
                rw [hkeep b h1 (by omega) h3, hb.block b h2]
          have HStep := Lib.hid hstep
          clear hstep
          go_wp2_with fail
          · go_roundw
            case rel => exact ⟨k2, rfl, HStep.out _ (by rw [solids_snoc]; simp [*])⟩
            case measure => simp [intOf]; omega
          · go_roundw
            case rel => exact ⟨k2, rfl, HStep.out _ (by rw [solids_snoc]; simp [*])⟩
            case measure => simp [intOf]; omega
      · have h94 : ((s[k1].toNat : Int) != 93) = false := by simpa using h93
        go_wp2_with fail
        refine bodyPost_ret (v := .tuple #[.agg #[.int .u8 91, .slice a n c, .bool (solids l)], .int .i64 ((k1 + 1 : Nat) : Int), .bool true]) (by simp [results, Tryz.results126, go_sem, c0, c1, c2]) rfl ?_
        have h5 : s[k1] = 93 := by
          have e := byte_lit s[k1] 93 (by decide)
          have e2 : ((s[k1].toNat : Int) == 93) = true := by simpa [bne] using h94
          simp only [Int.cast_ofNat_Int] at e
          rw [e2] at e
          simpa using e.symm
        rw [HS.out, HC.out, h5, show s.size - k + 1 - l.length = (s.size - k - l.length) + 1 from by omega, cat_ends]
        refine ⟨(((below_behind hB).setCell (by simp) _).setCell (by simp) _).setCell (by simp) _, _, k1 + 1, rfl, by omega, rfl, ?_⟩
        unfold RepS
        refine ⟨_, rfl, ?_⟩
        rcases owned_kids hown hkids with h1 | ⟨b, c', hv, ho, hb, hlt, h3, h4, hx⟩
        · exact .inl h1
        · refine .inr ⟨b, 0, c', hv, ⟨by omega, by simp; omega⟩, RepSs.of l fun i hi => ?_⟩
          obtain ⟨u, ha, hu⟩ := hx i hi
          refine ⟨u, ha.same ?_, hu.same ?_ ?_⟩
          · simp (disch := (simp; omega)) only [heap_setCell_other]
          · simp; intro k h1 h2 _; omega
          · intro k ⟨h1, h2, _⟩
            simp (disch := (simp; omega)) only [heap_setCell_other]
    · have HD : Hid (s.data.toList.drop k1 = []) := Lib.hid (List.drop_of_length_le (by simp; omega))
      have hk4 : s.size ≤ k1 := by omega
      go_wp2_with fail
      refine bodyPost_ret (v := .tuple #[.agg #[.int .u8 0, .slice none 0 0, .bool false], .int .i64 0, .bool false]) (by simp [results, Tryz.results126, go_sem, c0, c1, c2]) rfl ?_
      rw [HS.out, HD.out, cat_short]
      exact ⟨(((below_behind hB).setCell (by simp) _).setCell (by simp) _).setCell (by simp) _, rfl⟩

theorem parts : ∀ d, PartSaid d
  | 0 => part_of (by omega) (by omega)
  | d + 1 => part_of (fun e h => by obtain rfl : d = e := by omega
                                    exact list_of_part (parts d)) (fun e h => by obtain rfl : d = e := by omega
                                                                                 exact row_of_part (parts d))
end Go.Proofs.YtamgjlegcegmeaaGreatDoor.M

/- Part: MouldParse3. -/
namespace Go.Proofs.YtamgjlegcegmeaaGreatDoor.M
open Go.RowKit

def ShapePost (w : World) (r : Option Sh) (e : Ending) (w' : World) : Prop :=
  Below w.heap.size w w' ∧ match r with
  | none => e = .returned (.tuple #[.agg #[.int .u8 0, .slice none 0 0, .bool false], .bool false])
  | some sh => ∃ v, e = .returned (.tuple #[v, .bool true]) ∧ RepS w' (fun b => w.heap.size ≤ b ∧ b < w'.heap.size) sh v

set_option maxRecDepth 20000 in
set_option maxHeartbeats 800000 in
theorem parse_any (s : ByteArray) (w : World) (hs : s.size ≤ 9223372036854775807) :
    Calls Tryz.prog 73 #[.string s] w (ShapePost w (shape s.data.toList)) := by
  by_cases hl : 64 < s.size
  · have H : Hid (shape s.data.toList = none) := Lib.hid (by unfold shape; rw [if_pos (by simpa using hl)])
    go_enter Tryz.func73, Tryz.ntmps73
    go_wp2_with fail
    refine bodyPost_ret (v := .tuple #[.agg #[.int .u8 0, .slice none 0 0, .bool false], .bool false]) (by simp [results, Tryz.results73, go_sem]) rfl ?_
    rw [H.out]
    exact ⟨below_alloc _ _, rfl⟩
  · have hl2 : s.size ≤ 64 := by omega
    have H : Hid (shape s.data.toList = match pShape 9 s.data.toList with | some (s, []) => some s | _ => none) := Lib.hid (by unfold shape; rw [if_neg (by simpa using hl)] <;> rfl)
    go_enter Tryz.func73, Tryz.ntmps73
    go_wp2_with fail
    refine (parts 9 s 0 _ 0 _ rfl hl2 (by omega) rfl (by omega)).mono ?_
    rintro e w1 ⟨hb, hr⟩
    obtain ⟨c0, c1, c2, f0, f1, f2, hz⟩ := three_kept hb
    rw [List.drop_zero] at hr
    cases hq : pShape 9 s.data.toList with
    | none =>
      rw [hq] at hr
      subst hr
      have Hq := Lib.hid hq
      clear hq
      go_wp2_with fail
      refine bodyPost_ret (v := .tuple #[.agg #[.int .u8 0, .slice none 0 0, .bool false], .bool false]) (by simp [results, Tryz.results73, go_sem, c0, c1, c2, hz]) rfl ?_
      rw [H.out, Hq.out]
      exact ⟨((((below_alloc _ _).trans (hb.mono (by simp))).setCell (by simp) _).setCell (by simp) _).setCell (by simp) _ |>.alloc (by simp; omega) _, rfl⟩
    | some x =>
      rw [hq] at hr
      obtain ⟨sh, rest⟩ := x
      obtain ⟨u, k2, rfl, hk4, hrest, hu⟩ := hr
      have Hq := Lib.hid hq
      clear hq
      have Hr := Lib.hid hrest
      clear hrest
      have HU := Lib.hid hu
      obtain ⟨pa, pn, pc, rfl⟩ := hu.agg
      clear hu
      by_cases hk : k2 = s.size
      · have HR : Hid (rest = []) := Lib.hid (by rw [Hr.out, hk]; simp)
        have hk2 : ((k2 : Int) != (s.size : Int)) = false := by simp [hk]
        clear hk
        go_wp2_with fail
        refine bodyPost_ret (v := .tuple #[.agg #[.int .u8 (kind sh), .slice pa pn pc, .bool (solid sh)], .bool true]) (by simp [results, Tryz.results73, go_sem, c0, c1, c2, hz]) rfl ?_
        rw [H.out, Hq.out, HR.out]
        refine ⟨((((below_alloc _ _).trans (hb.mono (by simp))).setCell (by simp) _).setCell (by simp) _).setCell (by simp) _ |>.alloc (by simp; omega) _, _, rfl, HU.out.same ?_ ?_⟩
        · simp; intro k h1 h2; omega
        · intro k ⟨h1, h2⟩
          simp only [World.size_alloc] at h1
          rw [Below.heap_alloc _ _ _ (by simp; omega)]
          simp (disch := (simp; omega)) only [Below.heap_setCell]
      · have HR : Hid (∃ c r, rest = c :: r) := Lib.hid (by
          rw [Hr.out, drop_cons s k2 (by omega)]; exact ⟨_, _, rfl⟩)
        have hk2 : ((k2 : Int) != (s.size : Int)) = true := by simp; omega
        clear hk
        go_wp2_with fail
        refine bodyPost_ret (v := .tuple #[.agg #[.int .u8 0, .slice none 0 0, .bool false], .bool false]) (by simp [results, Tryz.results73, go_sem, c0, c1, c2, hz]) rfl ?_
        obtain ⟨c, r, hc⟩ := HR.out
        rw [H.out, Hq.out, hc]
        exact ⟨((((below_alloc _ _).trans (hb.mono (by simp))).setCell (by simp) _).setCell (by simp) _).setCell (by simp) _ |>.alloc (by simp; omega) _, rfl⟩

/-- A slice of strings. -/
def RepT (w : World) (l : List ByteArray) (v : Value) : Prop :=
  ∃ a c, v = .slice a l.length c ∧ l.length ≤ 9223372036854775807 ∧ ∀ (i : Nat) (hi : i < l.length), ∃ b off, a = some ⟨b, off, none⟩ ∧ w.cell? ⟨b, off + i, none⟩ = some (.string l[i]) ∧ l[i].size ≤ 9223372036854775807

end Go.Proofs.YtamgjlegcegmeaaGreatDoor.M
