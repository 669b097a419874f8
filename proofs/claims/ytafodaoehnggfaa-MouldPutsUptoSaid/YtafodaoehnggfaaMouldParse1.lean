/- parsePart, parseList, parseRow of package mould read shapes as pShape does. -/
import Derived.Test.YtafodaoehnggfaaMouldRep
import Derived.Test.YtafodaoehnggfaaRows
import Derived.WalkKit
import Derived.WalkSpells
import Derived.WalkLawsBesides
import Derived.Lib.Hide
namespace Go.Proofs.Ytafodaoehnggfaa.M
open Go.RowKit

/-- What the three parsers answer, at a text, of a reading of what is left of it. -/
def PPost (s : ByteArray) (w : World) (r : Option (Sh × List UInt8)) (e : Ending) (w' : World) : Prop :=
  Below w.heap.size w w' ∧ match r with
  | none => e = .returned (.tuple #[.agg #[.int .u8 0, .slice none 0 0, .bool false], .int .i64 0, .bool false])
  | some (sh, rest) => ∃ v k, e = .returned (.tuple #[v, .int .i64 (k : Nat), .bool true]) ∧ k ≤ s.size ∧ rest = s.data.toList.drop k ∧ RepS w' (fun b => w.heap.size ≤ b ∧ b < w'.heap.size) sh v

def PartSaid (d : Nat) : Prop := ∀ (s : ByteArray) (k : Nat) (a nest : Int) (w : World), a = (k : Int) → s.size ≤ 64 → k ≤ s.size → nest = 9 - (d : Int) → d ≤ 9 →
  Calls Try.prog 32 #[.string s, .int .i64 a, .int .i64 nest] w (PPost s w (pShape d (s.data.toList.drop k)))

def ListSaid (d : Nat) : Prop := ∀ (s : ByteArray) (k : Nat) (a nest : Int) (w : World), a = (k : Int) → s.size ≤ 64 → k ≤ s.size → nest = 9 - (d : Int) → d ≤ 9 →
  Calls Try.prog 35 #[.string s, .int .i64 a, .int .i64 nest] w (PPost s w ((pShape d (s.data.toList.drop k)).map fun x => (.list x.1, x.2)))

def RowSaid (d : Nat) : Prop := ∀ (s : ByteArray) (k : Nat) (a nest : Int) (w : World), a = (k : Int) → s.size ≤ 64 → k ≤ s.size → nest = 9 - (d : Int) → d ≤ 9 →
  Calls Try.prog 36 #[.string s, .int .i64 a, .int .i64 nest] w
    (PPost s w ((pRow (pShape d) (s.size - k + 1) (s.data.toList.drop k)).map fun x => (.row x.1, x.2)))

theorem below_alloc (w : World) (o : Obj) : Below w.heap.size w (w.alloc o) := (Below.refl _ _).alloc (Nat.le_refl _) o

theorem drop_cons (s : ByteArray) (k : Nat) (h : k < s.size) : s.data.toList.drop k = s[k] :: s.data.toList.drop (k + 1) := by
  rw [List.drop_eq_getElem_cons (by simpa using h)]; rfl

theorem u8_beq (a b : UInt8) : ((a.toNat : Int) == (b.toNat : Int)) = (a == b) := by
  rw [Bool.eq_iff_iff]; simp [Int.natCast_inj, UInt8.toNat_inj]

/-- What a call that only makes memory leaves of a struct of three that was made just ahead of it. -/
theorem three_kept {w w1 : World} {x y z : Value} {t : TypeId} (hb : Below (w.alloc (.cells #[x, y, z] t)).heap.size (w.alloc (.cells #[x, y, z] t)) w1) :
    w1.cell? ⟨w.heap.size, 0, none⟩ = some x ∧ w1.cell? ⟨w.heap.size, 1, none⟩ = some y ∧ w1.cell? ⟨w.heap.size, 2, none⟩ = some z ∧
    w1.frozen? ⟨w.heap.size, 0, none⟩ = false ∧ w1.frozen? ⟨w.heap.size, 1, none⟩ = false ∧ w1.frozen? ⟨w.heap.size, 2, none⟩ = false ∧ w.heap.size < w1.heap.size := by
  have hc := fun o => hb.cell (p := ⟨w.heap.size, o, none⟩) (by simp)
  have hf := fun o => hb.frozen (p := ⟨w.heap.size, o, none⟩) (by simp)
  have hz := hb.size
  simp only [hc, hf]
  refine ⟨?_, ?_, ?_, ?_, ?_, ?_, ?_⟩ <;> first | (simp [World.cell?_alloc_at, World.frozen?_alloc_at]; done) | (simp at hz; omega)

set_option maxHeartbeats 400000 in
theorem list_of_part {d : Nat} (hp : PartSaid d) : ListSaid d := by
  rintro s k _ nest w rfl hs hk hn hd
  have H := Lib.hid hn
  clear hn
  go_enter Try.func35, Try.ntmps35
  go_wp2_with fail
  refine (hp s k _ nest _ rfl hs hk H.out hd).mono ?_
  rintro e w1 ⟨hb, hr⟩
  obtain ⟨c0, c1, c2, f0, f1, f2, hz⟩ := three_kept hb
  cases hq : pShape d (s.data.toList.drop k) with
  | none =>
    rw [hq] at hr
    subst hr
    have Hq := Lib.hid hq
    clear hq
    go_wp2_with fail
    refine bodyPost_ret (v := .tuple #[.agg #[.int .u8 0, .slice none 0 0, .bool false], .int .i64 0, .bool false]) (by simp [results, Try.results35, go_sem, c0, c1, c2, hz]) rfl ?_
    rw [Hq.out]
    refine ⟨?_, rfl⟩
    exact (((((below_alloc _ _).trans (hb.mono (by simp))).setCell (by simp) _).setCell (by simp) _).setCell (by simp) _).alloc (by simp; omega) _
  | some x =>
    obtain ⟨sh, rest⟩ := x
    rw [hq] at hr
    obtain ⟨v, k1, rfl, hk1, hrest, hv⟩ := hr
    have Hq := Lib.hid hq
    clear hq
    have Hr := Lib.hid hrest
    clear hrest
    obtain ⟨pa, pn, pc, rfl⟩ := hv.agg
    go_wp2_with fail
    refine bodyPost_ret (v := .tuple #[.agg #[.int .u8 42, .slice (some ⟨w1.heap.size + 1, 0, none⟩) 1 1, .bool true], .int .i64 (k1 : Nat), .bool true]) (by simp [results, Try.results35, go_sem, c0, c1, c2, hz]) rfl ?_
    rw [Hq.out]
    refine ⟨(((((below_alloc _ _).trans (hb.mono (by simp))).setCell (by simp) _).setCell (by simp) _).setCell (by simp) _ |>.alloc (by simp; omega) _).alloc (by simp; omega) _, _, k1, rfl, hk1, Hr.out, ?_⟩
    unfold RepS
    refine ⟨w1.heap.size + 1, 0, 1, .agg #[.int .u8 (kind sh), .slice pa pn pc, .bool (solid sh)], rfl, ⟨by omega, by simp⟩, ⟨_, _, _, rfl, ?_, ?_, ?_⟩, hv.same ?_ ?_⟩
    · simp [World.cell?_alloc_at]
    · simp [World.cell?_alloc_at]
    · simp [World.cell?_alloc_at]
    · simp; intro k h1 h2; omega
    · intro k ⟨h1, h2⟩
      simp only [World.size_alloc] at h1
      simp (disch := (simp; omega)) only [heap_alloc_old, heap_setCell_other]

theorem pShape_end {d : Nat} : pShape d [] = none := by cases d <;> simp [pShape]

theorem byte_lit (c : UInt8) (n : Nat) (h : n < 256) : ((c.toNat : Int) == (n : Int)) = decide (c = UInt8.ofNat n) := by
  rw [Bool.eq_iff_iff]
  simp only [beq_iff_eq, decide_eq_true_eq, Int.natCast_inj, ← UInt8.toNat_inj, UInt8.toNat_ofNat_of_lt' h]

/-- A part's first byte, tested as the walk writes its tests. -/
theorem pShape_cons (d : Nat) (c : UInt8) (r : List UInt8) : pShape (d + 1) (c :: r) =
    if ((c.toNat : Int) == 110) = true then some (.num, r)
    else if ((c.toNat : Int) == 98) = true then some (.blob, r)
    else if ((c.toNat : Int) == 42) = true then (pShape d r).map fun x => (.list x.1, x.2)
    else if ((c.toNat : Int) == 91) = true then (pRow (pShape d) (r.length + 1) r).map fun x => (.row x.1, x.2)
    else none := by
  have e1 := byte_lit c 110 (by decide)
  have e2 := byte_lit c 98 (by decide)
  have e3 := byte_lit c 42 (by decide)
  have e4 := byte_lit c 91 (by decide)
  have k1 : (UInt8.ofNat 110) = 110 := rfl
  have k2 : (UInt8.ofNat 98) = 98 := rfl
  have k3 : (UInt8.ofNat 42) = 42 := rfl
  have k4 : (UInt8.ofNat 91) = 91 := rfl
  rw [k1] at e1; rw [k2] at e2; rw [k3] at e3; rw [k4] at e4
  simp only [Int.cast_ofNat_Int] at e1 e2 e3 e4
  rw [pShape, e1, e2, e3, e4]
  simp only [decide_eq_true_eq]
  repeat' split
  all_goals simp_all

set_option maxHeartbeats 800000 in
theorem part_of {d : Nat} (hl : ∀ e, d = e + 1 → ListSaid e) (hr : ∀ e, d = e + 1 → RowSaid e) : PartSaid d := by
  rintro s k _ nest w rfl hs hk hn hd
  by_cases hk2 : k < s.size
  · by_cases hd0 : d = 0
    · subst hd0
      have H : Hid (pShape 0 (s.data.toList.drop k) = none) := Lib.hid (by simp [pShape])
      have hn1 : 8 < nest := by omega
      clear hn
      go_enter Try.func32, Try.ntmps32
      go_wp2_with fail
      refine bodyPost_ret (v := .tuple #[.agg #[.int .u8 0, .slice none 0 0, .bool false], .int .i64 0, .bool false]) (by simp [results, Try.results32, go_sem]) rfl ?_
      rw [H.out]
      exact ⟨below_alloc _ _, rfl⟩
    · obtain ⟨e, rfl⟩ : ∃ e, d = e + 1 := ⟨d - 1, by omega⟩
      have HC : Hid (s.data.toList.drop k = s[k] :: s.data.toList.drop (k + 1)) := Lib.hid (drop_cons s k hk2)
      have hn1 : nest ≤ 8 := by omega
      have hn0 : 0 ≤ nest := by omega
      have Hn := Lib.hid hn
      have HL : Hid (ListSaid e) := Lib.hid (hl e rfl)
      have HR : Hid (RowSaid e) := Lib.hid (hr e rfl)
      have HLn : Hid ((s.data.toList.drop (k + 1)).length = s.size - (k + 1)) := Lib.hid (by simp)
      clear hn hl hr
      go_enter Try.func32, Try.ntmps32
      go_wp2_with fail
      · have ht : (s[k].toNat : Int) = 110 := by simpa using ‹((s[k].toNat : Int) == 110) = true›
        refine bodyPost_ret (v := .tuple #[.agg #[.int .u8 (s[k].toNat : Int), .slice none 0 0, .bool true], .int .i64 ((k + 1 : Nat) : Int), .bool true]) (by simp [results, Try.results32, go_sem]) rfl ?_
        rw [HC.out, pShape_cons, ht]
        exact ⟨below_alloc _ _, _, k + 1, rfl, by omega, rfl, by unfold RepS; rfl⟩
      · have ht : (s[k].toNat : Int) = 98 := by simpa using ‹((s[k].toNat : Int) == 98) = true›
        refine bodyPost_ret (v := .tuple #[.agg #[.int .u8 (s[k].toNat : Int), .slice none 0 0, .bool true], .int .i64 ((k + 1 : Nat) : Int), .bool true]) (by simp [results, Try.results32, go_sem]) rfl ?_
        rw [HC.out, pShape_cons, ht]
        exact ⟨below_alloc _ _, _, k + 1, rfl, by omega, rfl, by unfold RepS; rfl⟩
      · have HT : Hid ((s[k].toNat : Int) = 42) := Lib.hid (by simpa using ‹((s[k].toNat : Int) == 42) = true›)
        refine (HL.out s (k + 1) _ (nest + 1) _ rfl hs (by omega) (by rw [Hn.out]; omega) (by omega)).mono ?_
        rintro e1 w1 ⟨hb, hr⟩
        obtain ⟨c0, c1, c2, f0, f1, f2, hz⟩ := three_kept hb
        cases hq : (pShape e (s.data.toList.drop (k + 1))).map fun x => (Sh.list x.1, x.2) with
        | none =>
          rw [hq] at hr
          subst hr
          have Hq := Lib.hid hq
          clear hq
          go_wp2_with fail
          refine bodyPost_ret (v := .tuple #[.agg #[.int .u8 0, .slice none 0 0, .bool false], .int .i64 0, .bool false]) (by simp [results, Try.results32, go_sem, c0, c1, c2, hz]) rfl ?_
          rw [HC.out, pShape_cons, HT.out]
          simp only [Int.reduceBEq, Bool.false_eq_true, if_false, if_true, Hq.out]
          exact ⟨((((below_alloc _ _).trans (hb.mono (by simp))).setCell (by simp) _).setCell (by simp) _).setCell (by simp) _, rfl⟩
        | some x =>
          rw [hq] at hr
          obtain ⟨sh, rest⟩ := x
          obtain ⟨v, k1, rfl, hk1, hrest, hv⟩ := hr
          have Hq := Lib.hid hq
          clear hq
          have Hr := Lib.hid hrest
          clear hrest
          have HV := Lib.hid hv
          obtain ⟨pa, pn, pc, rfl⟩ := hv.agg
          clear hv
          go_wp2_with fail
          refine bodyPost_ret (v := .tuple #[.agg #[.int .u8 (kind _), .slice pa pn pc, .bool (solid _)], .int .i64 (k1 : Nat), .bool true]) (by simp [results, Try.results32, go_sem, c0, c1, c2, hz]; exact ⟨rfl, rfl⟩) rfl ?_
          rw [HC.out, pShape_cons, HT.out]
          simp only [Int.reduceBEq, Bool.false_eq_true, if_false, if_true, Hq.out]
          refine ⟨((((below_alloc _ _).trans (hb.mono (by simp))).setCell (by simp) _).setCell (by simp) _).setCell (by simp) _, _, k1, rfl, hk1, Hr.out, HV.out.same ?_ ?_⟩
          · simp; intro k h1 h2; omega
          · intro k ⟨h1, h2⟩
            simp only [World.size_alloc] at h1
            simp (disch := (simp; omega)) only [heap_setCell_other]
      · have HT : Hid ((s[k].toNat : Int) = 91) := Lib.hid (by simpa using ‹((s[k].toNat : Int) == 91) = true›)
        refine (HR.out s (k + 1) _ (nest + 1) _ rfl hs (by omega) (by rw [Hn.out]; omega) (by omega)).mono ?_
        rintro e1 w1 ⟨hb, hr⟩
        obtain ⟨c0, c1, c2, f0, f1, f2, hz⟩ := three_kept hb
        cases hq : (pRow (pShape e) (s.size - (k + 1) + 1) (s.data.toList.drop (k + 1))).map fun x => (Sh.row x.1, x.2) with
        | none =>
          rw [hq] at hr
          subst hr
          have Hq := Lib.hid hq
          clear hq
          go_wp2_with fail
          refine bodyPost_ret (v := .tuple #[.agg #[.int .u8 0, .slice none 0 0, .bool false], .int .i64 0, .bool false]) (by simp [results, Try.results32, go_sem, c0, c1, c2, hz]) rfl ?_
          rw [HC.out, pShape_cons, HT.out]
          simp only [Int.reduceBEq, Bool.false_eq_true, if_false, if_true, HLn.out, Hq.out]
          exact ⟨((((below_alloc _ _).trans (hb.mono (by simp))).setCell (by simp) _).setCell (by simp) _).setCell (by simp) _, rfl⟩
        | some x =>
          rw [hq] at hr
          obtain ⟨sh, rest⟩ := x
          obtain ⟨v, k1, rfl, hk1, hrest, hv⟩ := hr
          have Hq := Lib.hid hq
          clear hq
          have Hr := Lib.hid hrest
          clear hrest
          have HV := Lib.hid hv
          obtain ⟨pa, pn, pc, rfl⟩ := hv.agg
          clear hv
          go_wp2_with fail
          refine bodyPost_ret (v := .tuple #[.agg #[.int .u8 (kind _), .slice pa pn pc, .bool (solid _)], .int .i64 (k1 : Nat), .bool true]) (by simp [results, Try.results32, go_sem, c0, c1, c2, hz]; exact ⟨rfl, rfl⟩) rfl ?_
          rw [HC.out, pShape_cons, HT.out]
          simp only [Int.reduceBEq, Bool.false_eq_true, if_false, if_true, HLn.out, Hq.out]
          refine ⟨((((below_alloc _ _).trans (hb.mono (by simp))).setCell (by simp) _).setCell (by simp) _).setCell (by simp) _, _, k1, rfl, hk1, Hr.out, HV.out.same ?_ ?_⟩
          · simp; intro k h1 h2; omega
          · intro k ⟨h1, h2⟩
            simp only [World.size_alloc] at h1
            simp (disch := (simp; omega)) only [heap_setCell_other]
      · have h1 : ((s[k].toNat : Int) == 110) = false := by assumption
        have h2 : ((s[k].toNat : Int) == 98) = false := by assumption
        have h3 : ((s[k].toNat : Int) == 42) = false := by assumption
        have h4 : ((s[k].toNat : Int) == 91) = false := by assumption
        refine bodyPost_ret (v := .tuple #[.agg #[.int .u8 0, .slice none 0 0, .bool false], .int .i64 0, .bool false]) (by simp [results, Try.results32, go_sem]) rfl ?_
        rw [HC.out, pShape_cons, h1, h2, h3, h4]
        exact ⟨below_alloc _ _, rfl⟩
  · have hk3 : s.size ≤ k := by omega
    have H : Hid (pShape d (s.data.toList.drop k) = none) := Lib.hid (by rw [List.drop_of_length_le (by simpa using hk3)]; exact pShape_end)
    clear hn
    go_enter Try.func32, Try.ntmps32
    go_wp2_with fail
    refine bodyPost_ret (v := .tuple #[.agg #[.int .u8 0, .slice none 0 0, .bool false], .int .i64 0, .bool false]) (by simp [results, Try.results32, go_sem]) rfl ?_
    rw [H.out]
    exact ⟨below_alloc _ _, rfl⟩
end Go.Proofs.Ytafodaoehnggfaa.M
