/- Package hard: a slot read. Package hard: the newest slot, what a disk has, what is opened. How a log in segments lies in memory. Package segment: the small calls. Package segment: an entry's row. Package segment: entries as they come in; a copy; which follow. -/
import Derived.Test.YtamgjlegcegmeaaGreatDoorSD27
import Derived.Test.YtamgjlegcegmeaaGreatDoorSD25
import Derived.Laws.Cover3
import Derived.Deep.QuietTactic
import Derived.Test.YtamgjlegcegmeaaGreatDoorSD28
import Derived.Test.YtamgjlegcegmeaaGreatDoorSD23
import Derived.Test.YtamgjlegcegmeaaGreatDoorSD11
import Derived.OrdersHeld
import Derived.Deep.RegionHeld
import Derived.Test.YtamgjlegcegmeaaGreatDoorSD19
import Derived.Deep.LoopGhost
/- Part: PHard3. -/
namespace Go.Proofs.YtamgjlegcegmeaaGreatDoor.M
open Go.RowKit Go.Maps
open D (Fl Dk)

/-- What a read answers: a slot that isn't whole is nobody's. -/
def pslot (L : List UInt8) : Nat × (Int × Int) := if (slot L).1 = 0 then (0, (0, -1)) else slot L

theorem take_row (b : List UInt8) : takeAt nmRow.data.toList b = match three b with
    | .error e => .error e
    | .ok ((x, y, z), []) => .ok (rowOf x y z)
    | .ok (_, _ :: _) => .error 12 := by
  unfold takeAt
  rw [shape_row]
  simp only [takeV, takeVs]
  unfold three
  cases h1 : takeNum b with
  | error e => rfl
  | ok p =>
    obtain ⟨x, b1⟩ := p
    simp only
    cases h2 : takeNum b1 with
    | error e => rfl
    | ok p =>
      obtain ⟨y, b2⟩ := p
      simp only
      cases h3 : takeNum b2 with
      | error e => rfl
      | ok p =>
        obtain ⟨z, b3⟩ := p
        cases b3 <;> rfl

theorem takeNum_err {b : List UInt8} {e : Int} (h : takeNum b = .error e) : e = 11 ∨ e = 13 := by
  cases b with
  | nil => rw [takeNum] at h; cases h; exact .inl rfl
  | cons c r =>
    rw [takeNum] at h
    split at h
    · cases h; exact .inr rfl
    · split at h
      · cases h; exact .inr rfl
      · split at h
        · cases h; exact .inl rfl
        · cases h

theorem three_err {b : List UInt8} {e : Int} (h : three b = .error e) : e = 11 ∨ e = 13 := by
  unfold three at h
  cases h1 : takeNum b with
  | error e => rw [h1] at h; cases h; exact takeNum_err h1
  | ok p =>
    obtain ⟨x, b1⟩ := p
    rw [h1] at h
    simp only at h
    cases h2 : takeNum b1 with
    | error e => rw [h2] at h; cases h; exact takeNum_err h2
    | ok p =>
      obtain ⟨y, b2⟩ := p
      rw [h2] at h
      simp only at h
      cases h3 : takeNum b2 with
      | error e => rw [h3] at h; cases h; exact takeNum_err h3
      | ok p => rw [h3] at h; cases h

/-- What Take answers of bytes behind a sum. -/
theorem takeAt_err {b : List UInt8} {e : Int} (h : takeAt nmRow.data.toList b = .error e) : (e == 0) = false := by
  rw [take_row] at h
  cases h3 : three b with
  | error c => rw [h3] at h; cases h; rcases three_err h3 with rfl | rfl <;> rfl
  | ok p =>
    obtain ⟨⟨x, y, z⟩, q⟩ := p
    rw [h3] at h
    cases q with
    | nil => cases h
    | cons a q => cases h; rfl

theorem pslot_none {L : List UInt8} {x y z : Nat} (h : slot L = if x < top ∧ y < top ∧ z ≤ top then (x, ((y : Int), (z : Int) - 1)) else (0, (0, 0))) (h2 : x < 1 ∨ top ≤ x ∨ top ≤ y ∨ top < z) : pslot L = (0, (0, -1)) := by
  have h1 : (slot L).1 = 0 := by
    rw [h]
    split
    · rename_i h3; simp only; omega
    · rfl
  unfold pslot
  rw [if_pos h1]

theorem pslot_some {L : List UInt8} {x y z : Nat} (h : slot L = if x < top ∧ y < top ∧ z ≤ top then (x, ((y : Int), (z : Int) - 1)) else (0, (0, 0))) (h2 : 1 ≤ x ∧ x < top ∧ y < top ∧ z ≤ top) : pslot L = (x, ((y : Int), (z : Int) - 1)) := by
  rw [if_pos h2.2] at h
  unfold pslot
  rw [h, if_neg (by simp only; omega)]

theorem rep_three {w : World} {F : Nat → Prop} {x y z : Nat} {v : Value} (h : RepVl w F [.mk x [] [], .mk y [] [], .mk z [] []] v) :
    ∃ b off c, v = .slice (some ⟨b, off, none⟩) 3 c ∧ F b ∧ x < 18446744073709551616 ∧ y < 18446744073709551616 ∧ z < 18446744073709551616 ∧
      w.cell? ⟨b, off, none⟩ = some (.int .u64 (x : Int)) ∧ w.cell? ⟨b, off + 3, none⟩ = some (.int .u64 (y : Int)) ∧ w.cell? ⟨b, off + 6, none⟩ = some (.int .u64 (z : Int)) := by
  rcases h with ⟨h, -⟩ | ⟨b, off, c, hv, hb, h1, h2, hl⟩
  · cases h
  · have one : ∀ (n : Nat) (o : Nat) (u : Value), At3 w b o u → RepV w F (.mk n [] []) u → n < 18446744073709551616 ∧ w.cell? ⟨b, o, none⟩ = some (.int .u64 (n : Int)) := fun n o u ha hr => by
      obtain ⟨p, q, r, rfl, a0, -, -⟩ := ha
      obtain ⟨vb, vl, he, hn, -, -⟩ := RepV_mk.1 hr
      simp only [Value.agg.injEq, Array.mk.injEq, List.cons.injEq] at he
      exact ⟨hn, by rw [a0, he.1]⟩
    obtain ⟨u0, a0, r0⟩ := RepVs.get _ hl 0 (by simp)
    obtain ⟨u1, a1, r1⟩ := RepVs.get _ hl 1 (by simp)
    obtain ⟨u2, a2, r2⟩ := RepVs.get _ hl 2 (by simp)
    have e0 := one x _ _ a0 r0
    have e1 := one y _ _ a1 r1
    have e2 := one z _ _ a2 r2
    exact ⟨b, off, c, hv, hb, e0.1, e1.1, e2.1, e0.2, e1.2, e2.2⟩

theorem four_test {L : List UInt8} {cs : Nat} (hc : cs < 4294967296) (h4 : 4 ≤ L.length) :
    ((cs : Int) / (16777216 : Int) == (L[0].toNat : Int) && ((cs : Int) / (65536 : Int) % (256 : Int) == (L[1].toNat : Int) && ((cs : Int) / (256 : Int) % (256 : Int) == (L[2].toNat : Int) && (cs : Int) % (256 : Int) == (L[3].toNat : Int)))) = decide (L.take 4 = four cs) := by
  match L, h4 with
  | a :: b :: c :: d :: r, _ =>
    have ha := a.toNat_lt
    have hb := b.toNat_lt
    have hcc := c.toNat_lt
    have hd := d.toNat_lt
    rw [Bool.eq_iff_iff]
    simp only [Bool.and_eq_true, beq_iff_eq, decide_eq_true_eq, List.getElem_cons_zero, List.getElem_cons_succ, List.take_succ_cons, List.take_zero, four, List.cons.injEq, and_true, ← UInt8.toNat_inj, UInt8.toNat_ofNat']
    omega

end Go.Proofs.YtamgjlegcegmeaaGreatDoor.M

/- Part: PHard4. -/
namespace Go.Proofs.YtamgjlegcegmeaaGreatDoor.M
open Go.RowKit Go.Maps
open D (Fl Dk)

theorem newest_first {fs : List Fl} (h1 : 0 < (pslot (bytesOf fs nmH0)).1) (h2 : (pslot (bytesOf fs nmH1)).1 ≤ (pslot (bytesOf fs nmH0)).1) :
    newest fs = (0, (pslot (bytesOf fs nmH0)).1, (pslot (bytesOf fs nmH0)).2) := by
  unfold newest pslot at *
  split at h1
  · simp at h1
  · rename_i h3
    rw [if_neg (fun h => h3 h.1), if_neg h3, if_neg]
    rw [if_neg h3] at h2
    split at h2
    · rename_i h4; omega
    · omega

theorem newest_second {fs : List Fl} (h : ¬ (0 < (pslot (bytesOf fs nmH0)).1 ∧ (pslot (bytesOf fs nmH1)).1 ≤ (pslot (bytesOf fs nmH0)).1)) :
    (newest fs).2 = ((pslot (bytesOf fs nmH1)).1, (pslot (bytesOf fs nmH1)).2) ∧ other (newest fs).1 = nmH0 := by
  unfold newest pslot at *
  by_cases h0 : (slot (bytesOf fs nmH0)).1 = 0
  · by_cases h1 : (slot (bytesOf fs nmH1)).1 = 0
    · rw [if_pos ⟨h0, h1⟩, if_pos h1]; exact ⟨rfl, rfl⟩
    · rw [if_neg (fun h => h1 h.2), if_pos (by omega), if_neg h1]; exact ⟨rfl, rfl⟩
  · rw [if_neg h0] at h
    by_cases h1 : (slot (bytesOf fs nmH1)).1 = 0
    · rw [if_pos h1] at h
      exfalso; apply h; exact ⟨by omega, by simp⟩
    · rw [if_neg h1] at h ⊢
      rw [if_neg (fun h => h1 h.2), if_pos (by omega)]; exact ⟨rfl, rfl⟩

end Go.Proofs.YtamgjlegcegmeaaGreatDoor.M

/- Part: SegRep. -/
namespace Go.Proofs.YtamgjlegcegmeaaGreatDoor.M
open Go.RowKit
open D (Fl Dk)

/-- The five cells of what is held of a log. -/
structure HdC (w : World) (g : Nat) (a b : Int) (vr vf : Value) (s : Int) : Prop where
  c0 : w.cell? ⟨g, 0, none⟩ = some (.int .i64 a)
  c1 : w.cell? ⟨g, 1, none⟩ = some (.int .i64 b)
  c2 : w.cell? ⟨g, 2, none⟩ = some vr
  c3 : w.cell? ⟨g, 3, none⟩ = some vf
  c4 : w.cell? ⟨g, 4, none⟩ = some (.int .i64 s)
  z : g < w.heap.size

theorem HdC.same {w w' : World} {g : Nat} {a b : Int} {vr vf : Value} {s : Int} (h : HdC w g a b vr vf s) (hb : w'.heap[g]? = w.heap[g]?) : HdC w' g a b vr vf s := by
  have e : ∀ j, w'.cell? ⟨g, j, none⟩ = w.cell? ⟨g, j, none⟩ := fun j => World.cell?_of_block (a := ⟨g, j, none⟩) hb
  refine ⟨(e 0).trans h.c0, (e 1).trans h.c1, (e 2).trans h.c2, (e 3).trans h.c3, (e 4).trans h.c4, ?_⟩
  exact lt_of_heap (hb.trans (Array.getElem?_eq_getElem h.z))

def rwV (p : Rw × Value) : List Value := [.int .i64 p.1.e.idx, .int .i64 p.1.e.term, .int .i64 p.1.e.kind, p.2, .int .i64 p.1.pos]
def rwCells (rv : List (Rw × Value)) : List Value := rv.flatMap rwV
def fiV (f : Fi) : List Value := [.int .i64 f.first, .int .i64 f.last, .int .i64 f.size, .int .i64 f.torn, .bool f.loose]
def fiCells (fs : List Fi) : List Value := fs.flatMap fiV

theorem flat5 {α : Type} (f : α → List Value) (h5 : ∀ a, (f a).length = 5) (l : List α) : (l.flatMap f).length = l.length * 5 := by
  induction l with
  | nil => rfl
  | cons a r ih => simp only [List.flatMap_cons, List.length_append, List.length_cons, ih, h5]; omega

theorem flat5_get {α : Type} (f : α → List Value) (h5 : ∀ a, (f a).length = 5) : ∀ (l : List α) (i : Nat) (h : i < l.length) (j : Nat), j < 5 → (l.flatMap f)[i * 5 + j]? = (f l[i])[j]?
  | a :: r, 0, _, j, hj => by
    simp only [List.flatMap_cons, List.getElem_cons_zero, Nat.zero_mul, Nat.zero_add]
    rw [List.getElem?_append_left (by rw [h5]; exact hj)]
  | a :: r, i + 1, h, j, hj => by
    have ih := flat5_get f h5 r i (by simpa using h) j hj
    simp only [List.flatMap_cons, List.getElem_cons_succ]
    rw [List.getElem?_append_right (by rw [h5]; omega), h5, ← ih]
    congr 1
    omega

theorem rwCells_length (rv : List (Rw × Value)) : (rwCells rv).length = rv.length * 5 := flat5 _ (fun _ => rfl) rv
theorem fiCells_length (fs : List Fi) : (fiCells fs).length = fs.length * 5 := flat5 _ (fun _ => rfl) fs

/-- An element of a row of five cells each. -/
theorem row5_elem {α : Type} {w : World} {t : TypeId} {v : Value} {f : α → List Value} {l : List α} (h5 : ∀ a, (f a).length = 5) (h : w.ownsRow 0 t 5 v l.length (l.flatMap f)) (i : Nat) (hi : i < l.length) :
    ∃ ga c, v = .slice (some ⟨ga, 0, none⟩) l.length c ∧ ga < w.heap.size ∧ l.length ≤ c ∧ c ≤ 9223372036854775807 ∧ (∀ j, j < 5 → w.cell? ⟨ga, i * 5 + j, none⟩ = (f l[i])[j]?) ∧ (∀ j, w.frozen? ⟨ga, j, none⟩ = false) := by
  have hr := h
  rcases h.2 with ⟨h1, h2⟩ | ⟨g, cap, cur, hv, hg, hcur, hn, hm, hs, ht⟩
  · omega
  · rw [hv] at hr
    unfold maxLen at hm
    refine ⟨g, cap, hv, (hr.lt g rfl).2, hn, hm, fun j hj => ?_, fun j => hr.frozenAt j⟩
    rw [hr.cellAt _ (by omega)]
    exact flat5_get f h5 l i hi j hj

theorem row5_slice {w : World} {t n : Nat} {v : Value} {xs : List Value} (h : w.ownsRow 0 t 5 v n xs) : ∃ a c, v = .slice a n c ∧ n ≤ c ∧ c ≤ 9223372036854775807 := by
  rcases h.2 with ⟨h1, h2⟩ | ⟨g, cap, cur, hv, hg, hcur, hn, hm, hs, ht⟩
  · subst h2; exact ⟨none, 0, h1, Nat.le_refl _, by omega⟩
  · unfold maxLen at hm
    exact ⟨_, cap, hv, hn, hm⟩

/-- A log in memory, part by part. -/
structure LgAt (w : World) (X : Nat → Prop) (g gd : Nat) (least : Int) (h : Hd) (vr vf : Value) (rv : List (Rw × Value)) : Prop where
  box : w.heap[g]? = some (.cells #[.int .i64 h.mi, .int .i64 h.mt, vr, vf, .int .i64 h.synced, .pointer (some ⟨gd, 0, none⟩), .int .i64 least] 63)
  rows : rv.map (·.1) = h.rows
  rrow : w.ownsRow 0 77 5 vr rv.length (rwCells rv)
  frow : w.ownsRow 0 75 5 vf h.files.length (fiCells h.files)
  bod : ∀ p ∈ rv, ∃ B : Nat → Prop, RepB w B p.1.e.b p.2 ∧ ∀ k, B k → X k ∧ k ≠ g ∧ vr.ownBlock ≠ some k ∧ vf.ownBlock ≠ some k
  fg : X g
  fr : ∀ k, vr.ownBlock = some k → X k ∧ k ≠ g ∧ vf.ownBlock ≠ some k
  ff : ∀ k, vf.ownBlock = some k → X k ∧ k ≠ g

theorem LgAt.hc {w : World} {X : Nat → Prop} {g gd : Nat} {least : Int} {h : Hd} {vr vf : Value} {rv : List (Rw × Value)} (l : LgAt w X g gd least h vr vf rv) : HdC w g h.mi h.mt vr vf h.synced :=
  ⟨cell_of_row w g 0 _ _ _ l.box, cell_of_row w g 1 _ _ _ l.box, cell_of_row w g 2 _ _ _ l.box, cell_of_row w g 3 _ _ _ l.box, cell_of_row w g 4 _ _ _ l.box, lt_of_heap l.box⟩

theorem LgAt.same {w w' : World} {X Y : Nat → Prop} {g gd : Nat} {least : Int} {h : Hd} {vr vf : Value} {rv : List (Rw × Value)} (l : LgAt w X g gd least h vr vf rv) (hX : ∀ k, X k → Y k) (hs : ∀ k, X k → w'.heap[k]? = w.heap[k]?) : LgAt w' Y g gd least h vr vf rv :=
  ⟨(hs g l.fg).trans l.box, l.rows, ownsRow_same l.rrow fun k hk => hs k (l.fr k hk).1, ownsRow_same l.frow fun k hk => hs k (l.ff k hk).1, fun p hp => by
    obtain ⟨B, h1, h2⟩ := l.bod p hp
    exact ⟨B, h1.same (fun _ h => h) fun k hk => hs k (h2 k hk).1, fun k hk => ⟨hX k (h2 k hk).1, (h2 k hk).2⟩⟩, hX g l.fg, fun k hk => ⟨hX k (l.fr k hk).1, (l.fr k hk).2⟩, fun k hk => ⟨hX k (l.ff k hk).1, (l.ff k hk).2⟩⟩

/-- A log in memory. -/
def Lg (w : World) (X : Nat → Prop) (g gd : Nat) (least : Int) (h : Hd) : Prop := (∃ vr vf rv, LgAt w X g gd least h vr vf rv) ∧ ∀ k, X k → k < w.heap.size

theorem Lg.next {w w' : World} {X : Nat → Prop} {g gd : Nat} {least : Int} {h : Hd} (l : Lg w X g gd least h) (hb : Below w.heap.size w w') : Lg w' X g gd least h := by
  obtain ⟨⟨vr, vf, rv, l⟩, hz⟩ := l
  exact ⟨⟨vr, vf, rv, l.same (fun _ h => h) fun k hk => hb.block k (hz k hk)⟩, fun k hk => Nat.lt_of_lt_of_le (hz k hk) hb.size⟩

theorem Lg.only {w w' : World} {X Y : Nat → Prop} {g gd : Nat} {least : Int} {h : Hd} (l : Lg w X g gd least h) (ho : Only Y w w') (hd : ∀ k, X k → ¬ Y k) : Lg w' X g gd least h := by
  obtain ⟨⟨vr, vf, rv, l⟩, hz⟩ := l
  exact ⟨⟨vr, vf, rv, l.same (fun _ h => h) fun k hk => ho.block k (hz k hk) (hd k hk)⟩, fun k hk => Nat.lt_of_lt_of_le (hz k hk) ho.size⟩
end Go.Proofs.YtamgjlegcegmeaaGreatDoor.M

/- Part: SegA. -/
namespace Go.Proofs.YtamgjlegcegmeaaGreatDoor.M
open Go.RowKit
open D (Fl Dk)

def fiAgg (f : Fi) : Value := .agg #[.int .i64 f.first, .int .i64 f.last, .int .i64 f.size, .int .i64 f.torn, .bool f.loose]

theorem five_cells {w : World} {g : Nat} {x0 x1 x2 x3 x4 : Value} {t : TypeId} (h : w.heap[g]? = some (.cells #[x0, x1, x2, x3, x4] t)) :
    w.cell? ⟨g, 0, none⟩ = some x0 ∧ w.cell? ⟨g, 1, none⟩ = some x1 ∧ w.cell? ⟨g, 2, none⟩ = some x2 ∧ w.cell? ⟨g, 3, none⟩ = some x3 ∧ w.cell? ⟨g, 4, none⟩ = some x4 ∧ (∀ j, w.frozen? ⟨g, j, none⟩ = false) ∧ g < w.heap.size := by
  have hc := fun j => cell_of_row w g j _ t _ h
  exact ⟨hc 0, hc 1, hc 2, hc 3, hc 4, fun j => frozen_of_row w g j _ t h, lt_of_heap h⟩

set_option maxRecDepth 20000 in
theorem SgHas_any (f : Fi) (w : World) : Calls Tryz.prog 32 #[fiAgg f] w fun e w' => e = .returned (.bool f.has) ∧ Below w.heap.size w w' := by
  obtain ⟨a, b, c, d, l⟩ := f
  unfold fiAgg
  simp only
  go_enter Tryz.func32, Tryz.ntmps32
  go_wp2_with fail
  go_ret
  exact ⟨rfl, below_alloc _ _⟩

set_option maxRecDepth 20000 in
theorem SgHollow_any (f : Fi) (w : World) : Calls Tryz.prog 50 #[fiAgg f] w fun e w' => e = .returned (.bool f.hollow) ∧ Below w.heap.size w w' := by
  obtain ⟨a, b, c, d, l⟩ := f
  unfold fiAgg Fi.hollow
  simp only
  by_cases h1 : c = 0
  · subst h1
    by_cases h2 : d = 0
    · subst h2
      go_enter Tryz.func50, Tryz.ntmps50
      go_wp2_with fail
      go_ret
      exact ⟨rfl, below_alloc _ _⟩
    · have q : (d == 0) = false := beq_eq_false_iff_ne.2 h2
      go_enter Tryz.func50, Tryz.ntmps50
      go_wp2_with fail
      go_ret
      exact ⟨by simp [h2], below_alloc _ _⟩
  · have q : (c == 0) = false := beq_eq_false_iff_ne.2 h1
    go_enter Tryz.func50, Tryz.ntmps50
    go_wp2_with fail
    go_ret
    exact ⟨by simp [h1], below_alloc _ _⟩

set_option maxRecDepth 20000 in
theorem IsMark_any (a b : Int) (w : World) : Calls Tryz.prog 19 #[.agg #[.int .i64 a, .int .i64 b]] w fun e w' => e = .returned (.bool (okMark (a, b))) ∧ Below w.heap.size w w' := by
  have H : Hid (∀ x, x = decide (0 ≤ a ∧ a < 10000000000 ∧ 0 ≤ b ∧ b < 10000000000) → okMark (a, b) = x) := Lib.hid fun x h => h.symm
  rcases (show a < 0 ∨ (0 ≤ a ∧ ¬ a < 10000000000) ∨ (0 ≤ a ∧ a < 10000000000 ∧ b < 0) ∨ (0 ≤ a ∧ a < 10000000000 ∧ 0 ≤ b ∧ ¬ b < 10000000000) ∨ (0 ≤ a ∧ a < 10000000000 ∧ 0 ≤ b ∧ b < 10000000000) by omega) with h | ⟨h, h2⟩ | ⟨h, h2, h3⟩ | ⟨h, h2, h3, h4⟩ | ⟨h, h2, h3, h4⟩
  · have q : decide (0 ≤ a) = false := decide_eq_false (by omega)
    go_enter Tryz.func19, Tryz.ntmps19
    go_wp2_with fail
    go_ret
    exact ⟨by rw [H.out false (decide_eq_false (by omega)).symm]; rfl, below_alloc _ _⟩
  · have q : decide (a < 10000000000) = false := decide_eq_false (by omega)
    go_enter Tryz.func19, Tryz.ntmps19
    go_wp2_with fail
    go_ret
    exact ⟨by rw [H.out false (decide_eq_false (by omega)).symm]; rfl, below_alloc _ _⟩
  · have q : decide (0 ≤ b) = false := decide_eq_false (by omega)
    go_enter Tryz.func19, Tryz.ntmps19
    go_wp2_with fail
    go_ret
    exact ⟨by rw [H.out false (decide_eq_false (by omega)).symm]; rfl, below_alloc _ _⟩
  · have q : decide (b < 10000000000) = false := decide_eq_false (by omega)
    go_enter Tryz.func19, Tryz.ntmps19
    go_wp2_with fail
    go_ret
    exact ⟨by rw [H.out false (decide_eq_false (by omega)).symm]; rfl, below_alloc _ _⟩
  · go_enter Tryz.func19, Tryz.ntmps19
    go_wp2_with fail
    go_ret
    exact ⟨by rw [H.out true (decide_eq_true (by omega)).symm]; rfl, below_alloc _ _⟩

/-- The last one's place, as cells say it. -/
def lastOf (a b : Int) (rv : List (Rw × Value)) : Int × Int := match rv.getLast? with
  | none => (a, b)
  | some p => (p.1.e.idx, p.1.e.term)

set_option maxRecDepth 20000 in
set_option maxHeartbeats 3200000 in
theorem SgLast_any (g : Nat) (a b s : Int) (vr vf : Value) (rv : List (Rw × Value)) (w : World) (hc : HdC w g a b vr vf s) (hrow : w.ownsRow 0 77 5 vr rv.length (rwCells rv)) (hsl : ∀ p ∈ rv, ∃ a n c, p.2 = .slice a n c) :
    Calls Tryz.prog 24 #[.pointer (some ⟨g, 0, none⟩)] w fun e w' => e = .returned (.agg #[.int .i64 (lastOf a b rv).1, .int .i64 (lastOf a b rv).2]) ∧ Below w.heap.size w w' := by
  obtain ⟨c0, c1, c2, c3, c4, cz⟩ := hc
  obtain ⟨ra, rc, rfl, hrl, hrm⟩ := row5_slice hrow
  rcases rv.eq_nil_or_concat with rfl | ⟨rv0, p, hcat⟩
  · have HL : Hid (lastOf a b [] = (a, b)) := Lib.hid rfl
    clear hrow c3 c4
    simp only [List.length_nil] at *
    go_enter Tryz.func24, Tryz.ntmps24
    go_wp2_with fail
    refine bodyPost_ret (v := .agg #[.int .i64 a, .int .i64 b]) (by simp [results, Tryz.results24, go_sem]) rfl ?_
    rw [HL.out]
    exact ⟨rfl, below_alloc _ _⟩
  · have HL : Hid (lastOf a b rv = (p.1.e.idx, p.1.e.term)) := Lib.hid (by rw [hcat]; unfold lastOf; simp)
    obtain ⟨n, hn⟩ : ∃ n, n = rv0.length := ⟨_, rfl⟩
    have hlen : rv.length = n + 1 := by rw [hcat, hn]; simp
    obtain ⟨gr, c, hv, hgz, hlc, hcm, hel, hfz⟩ := row5_elem (f := rwV) (fun _ => rfl) hrow n (by omega)
    have hge : rv[n] = p := by simp [hcat, hn]
    rw [hge] at hel
    have e0 := hel 0 (by omega)
    have e1 := hel 1 (by omega)
    have e2 := hel 2 (by omega)
    have e3 := hel 3 (by omega)
    have e4 := hel 4 (by omega)
    simp only [rwV, Nat.add_zero, List.getElem?_cons_zero, List.getElem?_cons_succ] at e0 e1 e2 e3 e4
    rw [hlen] at hv hrl hlc c2
    obtain ⟨pa, pn, pc, hpv⟩ := hsl p (by rw [hcat]; simp)
    obtain ⟨⟨⟨ix, te, ki, bo⟩, po⟩, pv⟩ := p
    simp only at hpv
    subst hpv
    simp only at HL e0 e1 e2 e3 e4
    cases hv
    have hwn : IntKind.i64.wrap (n : Int) = (n : Int) := IntWalk.i64_in _ (by omega)
    have hn1 : (n : Int) < (n : Int) + 1 := by omega
    have hn2 : ((n : Int) + 1 == 0) = false := beq_eq_false_iff_ne.2 (by omega)
    clear hrow hel hfz hge hlen hcat c3 c4 hn hcm hrm hlc hrl hsl
    go_enter Tryz.func24, Tryz.ntmps24
    go_wp2_with fail
    obtain ⟨W, hW⟩ : ∃ W, W = w.alloc (.cells #[.int .i64 0, .int .i64 0] 32) := ⟨_, rfl⟩
    have HB : Hid (Below w.heap.size w W) := Lib.hid (by rw [hW]; exact below_alloc _ _)
    have hbox : W.heap[w.heap.size]? = some (.cells #[.int .i64 0, .int .i64 0] 32) := by rw [hW]; exact heap_new _ _ _ rfl
    have HBX := Lib.hid hbox
    rw [← hW]
    have hzW := HB.out.size
    have old : ∀ (w' : World) (q j : Nat) (u : Value), Below W.heap.size W w' → q < w.heap.size → w.cell? ⟨q, j, none⟩ = some u → w'.cell? ⟨q, j, none⟩ = some u := fun w' q j u hw' hq hu => (hw'.cell (p := ⟨q, j, none⟩) (by show q < _; omega)).trans ((HB.out.cell (p := ⟨q, j, none⟩) hq).trans hu)
    have r2 : ∀ w', Below W.heap.size W w' → w'.cell? ⟨g, 2, none⟩ = some (.slice (some ⟨gr, 0, none⟩) (n + 1) rc) := fun w' hw' => old w' _ _ _ hw' cz c2
    have p0 : ∀ w', Below W.heap.size W w' → w'.cell? ⟨gr, n * 5, none⟩ = some (.int .i64 ix) := fun w' hw' => old w' _ _ _ hw' hgz e0
    have p1 : ∀ w', Below W.heap.size W w' → w'.cell? ⟨gr, n * 5 + 1, none⟩ = some (.int .i64 te) := fun w' hw' => old w' _ _ _ hw' hgz e1
    have p2 : ∀ w', Below W.heap.size W w' → w'.cell? ⟨gr, n * 5 + 2, none⟩ = some (.int .i64 ki) := fun w' hw' => old w' _ _ _ hw' hgz e2
    have p3 : ∀ w', Below W.heap.size W w' → w'.cell? ⟨gr, n * 5 + 3, none⟩ = some (.slice pa pn pc) := fun w' hw' => old w' _ _ _ hw' hgz e3
    have p4 : ∀ w', Below W.heap.size W w' → w'.cell? ⟨gr, n * 5 + 4, none⟩ = some (.int .i64 po) := fun w' hw' => old w' _ _ _ hw' hgz e4
    clear hW old hbox c0 c1 c2 e0 e1 e2 e3 e4
    have hS : Below W.heap.size W W.drew := (Below.refl _ _).drew
    refine wp_region_held (S := fun w' => Below W.heap.size W w') (by kernel_rfl) ?_
    refine H_take (i := 0) (v := ?_) rfl (by as_aux_lemma => kernel_rfl) (by as_aux_lemma => kernel_rfl) (by as_aux_lemma => kernel_rfl) (fun _ _ _ h => h) (by rfl) hS ?_ ?_
    rotate_left
    · intro w' hw'; go_simp; with_reducible rfl
    go_simp
    refine H_take (i := 1) (v := ?_) rfl (by as_aux_lemma => kernel_rfl) (by as_aux_lemma => kernel_rfl) (by as_aux_lemma => kernel_rfl) (fun _ _ _ h => h) (by rfl) hS ?_ ?_
    rotate_left
    · intro w' hw'; go_simp; with_reducible rfl
    go_simp
    refine H_take (i := 2) (v := ?_) rfl (by as_aux_lemma => kernel_rfl) (by as_aux_lemma => kernel_rfl) (by as_aux_lemma => kernel_rfl) (fun _ _ _ h => h) (by rfl) hS ?_ ?_
    rotate_left
    · intro w' hw'; go_simp; with_reducible rfl
    go_simp
    refine H_take (i := 3) (v := ?_) rfl (by as_aux_lemma => kernel_rfl) (by as_aux_lemma => kernel_rfl) (by as_aux_lemma => kernel_rfl) (fun _ _ _ h => h) (by rfl) hS ?_ ?_
    rotate_left
    · intro w' hw'; go_simp; with_reducible rfl
    go_simp
    refine H_take (i := 4) (v := ?_) rfl (by as_aux_lemma => kernel_rfl) (by as_aux_lemma => kernel_rfl) (by as_aux_lemma => kernel_rfl) (fun _ _ _ h => h) (by rfl) hS ?_ ?_
    rotate_left
    · intro w' hw'; go_simp; with_reducible rfl
    go_simp
    refine H_take (i := 5) (v := ?_) rfl (by as_aux_lemma => kernel_rfl) (by as_aux_lemma => kernel_rfl) (by as_aux_lemma => kernel_rfl) (fun _ _ _ h => h) (by rfl) hS ?_ ?_
    rotate_left
    · intro w' hw'; go_simp; with_reducible rfl
    go_simp
    refine H_take (i := 6) (v := ?_) rfl (by as_aux_lemma => kernel_rfl) (by as_aux_lemma => kernel_rfl) (by as_aux_lemma => kernel_rfl) (fun _ _ _ h => h) (by rfl) hS ?_ ?_
    rotate_left
    · intro w' hw'; go_simp; with_reducible rfl
    go_simp
    refine H_take (i := 7) (v := ?_) rfl (by as_aux_lemma => kernel_rfl) (by as_aux_lemma => kernel_rfl) (by as_aux_lemma => kernel_rfl) (fun _ _ _ h => h) (by rfl) hS ?_ ?_
    rotate_left
    · intro w' hw'; go_simp; with_reducible rfl
    go_simp
    refine H_take (i := 8) (v := ?_) rfl (by as_aux_lemma => kernel_rfl) (by as_aux_lemma => kernel_rfl) (by as_aux_lemma => kernel_rfl) (fun _ _ _ h => h) (by rfl) hS ?_ ?_
    rotate_left
    · intro w' hw'; go_simp; with_reducible rfl
    go_simp
    refine H_take (i := 9) (v := ?_) rfl (by as_aux_lemma => kernel_rfl) (by as_aux_lemma => kernel_rfl) (by as_aux_lemma => kernel_rfl) (fun _ _ _ h => h) (by rfl) hS ?_ ?_
    rotate_left
    · intro w' hw'; go_simp; with_reducible rfl
    go_simp
    refine H_take (i := 10) (v := ?_) rfl (by as_aux_lemma => kernel_rfl) (by as_aux_lemma => kernel_rfl) (by as_aux_lemma => kernel_rfl) (fun _ _ _ h => h) (by rfl) hS ?_ ?_
    rotate_left
    · intro w' hw'; go_simp; with_reducible rfl
    go_simp
    refine H_take (i := 11) (v := ?_) rfl (by as_aux_lemma => kernel_rfl) (by as_aux_lemma => kernel_rfl) (by as_aux_lemma => kernel_rfl) (fun _ _ _ h => h) (by rfl) hS ?_ ?_
    rotate_left
    · intro w' hw'; go_simp; with_reducible rfl
    go_simp
    refine H_one (i := 12) (by as_aux_lemma => kernel_rfl) rfl (by rfl) ?_
    go_simp
    have hS2 : Below W.heap.size W (W.alloc (.cells #[.int .i64 0, .int .i64 0, .int .i64 0, .slice none 0 0, .int .i64 0] 77)).drew := (below_alloc _ _).drew
    refine ⟨hS2, ?_⟩
    refine H_one (i := 13) (by as_aux_lemma => kernel_rfl) rfl (by rfl) ?_
    go_simp
    obtain ⟨W2, hW2⟩ : ∃ W2, W2 = (W.alloc (.cells #[.int .i64 ix, .int .i64 te, .int .i64 ki, .slice pa pn pc, .int .i64 po] 77)).drew := ⟨_, rfl⟩
    have hS3 : Below W.heap.size W W2 := by rw [hW2]; exact (below_alloc _ _).drew
    have HB3 := Lib.hid hS3
    obtain ⟨x0, x1, -, -, -, -, xz⟩ := five_cells (show W2.heap[W.heap.size]? = some (.cells #[.int .i64 ix, .int .i64 te, .int .i64 ki, .slice pa pn pc, .int .i64 po] 77) by rw [hW2]; exact heap_alloc_new _ _)
    rw [← hW2]
    refine ⟨hS3, ?_⟩
    refine wpAnyH_done (by as_aux_lemma => kernel_rfl) ?_ _
    obtain ⟨b0, b1, f0, f1, bz⟩ := block2 (old_below HBX.out hS3)
    clear hS hS2 hS3 r2 p0 p1 p2 p3 p4 hW2
    go_wp2_with fail
    refine bodyPost_ret (v := .agg #[.int .i64 ix, .int .i64 te]) (by simp [results, Tryz.results24, go_sem, b0, b1, f0, f1, bz]) rfl ?_
    rw [HL.out]
    exact ⟨rfl, ((HB.out.trans (HB3.out.mono HB.out.size)).setCell (by simp) _).setCell (by simp) _⟩

theorem mark_idx (a b : Int) (w : World) : (Instr.field 32 (.agg #[.int .i64 a, .int .i64 b]) 0).run Tryz.prog w = .ok (.int .i64 a) w := by
  unfold Instr.field
  go_simp
  simp [part, asAgg, go_sem]

set_option maxRecDepth 20000 in
set_option maxHeartbeats 3200000 in
theorem Place_any (g : Nat) (a b s : Int) (vr vf : Value) (rv : List (Rw × Value)) (ix : Int) (w : World) (hc : HdC w g a b vr vf s) (hrow : w.ownsRow 0 77 5 vr rv.length (rwCells rv)) (hsl : ∀ p ∈ rv, ∃ a n c, p.2 = .slice a n c)
    (ha : -1099511627776 ≤ a ∧ a ≤ 1099511627776) (hl : (lastOf a b rv).1 ≤ 1099511627776) :
    Calls Tryz.prog 34 #[.pointer (some ⟨g, 0, none⟩), .int .i64 ix] w fun e w' => e = .returned (.tuple (if ix ≤ a ∨ (lastOf a b rv).1 < ix then #[.int .i64 0, .bool false] else #[.int .i64 (ix - a - 1), .bool true])) ∧ Below w.heap.size w w' := by
  have HL := Lib.hid (SgLast_any g a b s vr vf rv w hc hrow hsl)
  have HC := Lib.hid hc
  obtain ⟨l, hle⟩ : ∃ l, l = lastOf a b rv := ⟨_, rfl⟩
  rw [← hle] at HL hl ⊢
  obtain ⟨li, lt⟩ := l
  simp only at HL hl ⊢
  obtain ⟨c0, c1, c2, c3, c4, cz⟩ := hc
  clear hle hrow hsl c1 c2 c3 c4
  have hfm := mark_idx li lt
  obtain ⟨A, hA⟩ : ∃ A : Array Value, A = if ix ≤ a ∨ li < ix then #[.int .i64 0, .bool false] else #[.int .i64 (ix - a - 1), .bool true] := ⟨_, rfl⟩
  rw [← hA]
  have HA := Lib.hid hA
  clear hA
  by_cases h1 : ix ≤ a
  · have HI : Hid (ix ≤ a ∨ li < ix) := Lib.hid (.inl h1)
    go_enter Tryz.func34, Tryz.ntmps34
    go_wp2_with fail
    go_ret2
    rw [HA.out, if_pos HI.out]
    exact ⟨rfl, Below.refl _ _⟩
  · have q1 : decide (ix ≤ a) = false := decide_eq_false h1
    by_cases h2 : li < ix
    · have HI : Hid (ix ≤ a ∨ li < ix) := Lib.hid (.inr h2)
      go_enter Tryz.func34, Tryz.ntmps34
      go_wp2_with fail
      refine HL.out.mono ?_
      rintro e w1 ⟨rfl, hb1⟩
      have HB1 := Lib.hid hb1
      clear hb1
      go_wp2_with fail
      go_ret2
      rw [HA.out, if_pos HI.out]
      exact ⟨rfl, HB1.out⟩
    · have q2 : decide (li < ix) = false := decide_eq_false h2
      have HI : Hid (¬ (ix ≤ a ∨ li < ix)) := Lib.hid (by omega)
      have e1 : IntKind.i64.wrap (ix - a) = ix - a := IntWalk.i64_in _ (by omega)
      have e2 : IntKind.i64.wrap (ix - a - 1) = ix - a - 1 := IntWalk.i64_in _ (by omega)
      have E1 := Lib.hid e1
      have E2 := Lib.hid e2
      have hbd : Hid (0 ≤ ix - a - 1 ∧ ix - a ≤ 9223372036854775807) := Lib.hid (by omega)
      go_enter Tryz.func34, Tryz.ntmps34
      go_wp2_with fail
      refine HL.out.mono ?_
      rintro e w1 ⟨rfl, hb1⟩
      have HB1 := Lib.hid hb1
      obtain ⟨c0', -, -, -, -, cz'⟩ := HC.out.same (hb1.block g HC.out.z)
      clear hb1
      go_wp2_with fail
      go_ret2
      rw [HA.out, if_neg HI.out]
      refine ⟨?_, HB1.out⟩
      first
        | rfl
        | (simp [E1.out, E2.out])
end Go.Proofs.YtamgjlegcegmeaaGreatDoor.M

/- Part: SegRow. -/
namespace Go.Proofs.YtamgjlegcegmeaaGreatDoor.M
open Go.RowKit
open D (Fl Dk)

def enAgg (e : En) (v : Value) : Value := .agg #[.int .i64 e.idx, .int .i64 e.term, .int .i64 e.kind, v]

theorem four_rep {w : World} {x g : Nat} (hx : x < 4294967296) (hg : g = w.heap.size) {t : TypeId} :
    RepB (w.alloc (.cells #[.int .u8 ((x : Int) / 16777216), .int .u8 ((x : Int) / 65536 % 256), .int .u8 ((x : Int) / 256 % 256), .int .u8 ((x : Int) % 256)] t)) (fun b => b = g) (four x) (.slice (some ⟨g, 0, none⟩) 4 4) := by
  have h := RepB.new (w := w) (L := four x) (t := t) (fr := (0, 0)) hg (by rw [four_length]; omega)
  have e4 : ((four x).map byteV).toArray = #[.int .u8 ((x : Int) / 16777216), .int .u8 ((x : Int) / 65536 % 256), .int .u8 ((x : Int) / 256 % 256), .int .u8 ((x : Int) % 256)] := by
    unfold four
    simp only [List.map_cons, List.map_nil, byteV, UInt8.toNat_ofNat']
    congr 3 <;> omega
  rw [e4, four_length] at h
  exact h

set_option maxRecDepth 20000 in
theorem layWord_any (x : Nat) (w : World) (hx : x < 4294967296) :
    Calls Tryz.prog 52 #[.slice none 0 0, .int .u32 (x : Int)] w fun e w' => ∃ v, e = .returned v ∧ Own w (four x) v w' := by
  go_enter Tryz.func52, Tryz.ntmps52
  go_wp2_with (at_builtin; refine wpList_own_append (F := fun b => b = w.heap.size) rfl (.tmp 5) (.tmp 17) rfl rfl rfl (Own.bare (below_alloc _ _)) rfl (four_rep hx rfl) (by rw [four_length]; simp) ?_)
  intro v' w' hown
  go_wp2_with fail
  go_ret
  exact ⟨_, rfl, hown⟩

/-- A value's four numbers. -/
def rowV (i t k : Nat) (b : List UInt8) : V := .mk 0 [] [.mk i [] [], .mk t [] [], .mk k [] [], .mk 0 b []]

def nmRow4 : ByteArray := ⟨#[91, 110, 110, 110, 98, 93]⟩

theorem shape_row4 : shape nmRow4.data.toList = some (.row [.num, .num, .num, .blob]) := by kernel_rfl

theorem put_row4 (i t k : Nat) (b : List UInt8) : putAll nmRow4.data.toList [rowV i t k b] = .ok (num i ++ (num t ++ (num k ++ (num b.length ++ b)))) := by
  unfold putAll
  rw [shape_row4]
  simp only
  rw [if_pos (by simp [rowV, isV, isVs, V.l])]
  simp [rowV, putV, putVs, V.l, V.n, V.b]

theorem rep_row4 {w : World} {F : Nat → Prop} {i t k : Nat} {b : List UInt8} {vb : Value} {g : Nat} (hg : g = w.heap.size) (hi : i < 18446744073709551616) (ht : t < 18446744073709551616) (hk : k < 18446744073709551616) (hb : RepB w F b vb) (hF : ∀ j, F j → j < w.heap.size) {T1 T2 : TypeId} :
    RepVl ((w.alloc (.cells #[.int .u64 (i : Int), .slice none 0 0, .slice none 0 0, .int .u64 (t : Int), .slice none 0 0, .slice none 0 0, .int .u64 (k : Int), .slice none 0 0, .slice none 0 0, .int .u64 0, vb, .slice none 0 0] T1)).alloc
      (.cells #[.int .u64 0, .slice none 0 0, .slice (some ⟨g, 0, none⟩) 4 4] T2)) (fun j => F j ∨ (g ≤ j ∧ j < g + 2)) [rowV i t k b] (.slice (some ⟨g + 1, 0, none⟩) 1 1) := by
  subst hg
  obtain ⟨W, hW⟩ : ∃ W, W = (w.alloc (.cells #[.int .u64 (i : Int), .slice none 0 0, .slice none 0 0, .int .u64 (t : Int), .slice none 0 0, .slice none 0 0, .int .u64 (k : Int), .slice none 0 0, .slice none 0 0, .int .u64 0, vb, .slice none 0 0] T1)).alloc
      (.cells #[.int .u64 0, .slice none 0 0, .slice (some ⟨w.heap.size, 0, none⟩) 4 4] T2) := ⟨_, rfl⟩
  have hbw : Below w.heap.size w W := by rw [hW]; exact ((Below.refl _ w).alloc (Nat.le_refl _) _).alloc (by simp) _
  have b0 : W.heap[w.heap.size]? = some (.cells #[.int .u64 (i : Int), .slice none 0 0, .slice none 0 0, .int .u64 (t : Int), .slice none 0 0, .slice none 0 0, .int .u64 (k : Int), .slice none 0 0, .slice none 0 0, .int .u64 0, vb, .slice none 0 0] T1) := by
    rw [hW]; exact old_alloc (heap_new w _ _ rfl)
  have b1 : W.heap[w.heap.size + 1]? = some (.cells #[.int .u64 0, .slice none 0 0, .slice (some ⟨w.heap.size, 0, none⟩) 4 4] T2) := by
    rw [hW]; exact heap_new _ _ _ (by simp)
  rw [← hW]
  clear hW
  have c0 := fun j => cell_of_row W w.heap.size j _ T1 _ b0
  have c1 := fun j => cell_of_row W (w.heap.size + 1) j _ T2 _ b1
  have one : ∀ n : Nat, n < 18446744073709551616 → RepV W (fun j => F j ∨ (w.heap.size ≤ j ∧ j < w.heap.size + 2)) (.mk n [] []) (.agg #[.int .u64 (n : Int), .slice none 0 0, .slice none 0 0]) := fun n hn =>
    RepV_mk.2 ⟨_, _, rfl, hn, .inl ⟨rfl, Bare.nil⟩, .inl ⟨rfl, Bare.nil⟩⟩
  refine .inr ⟨w.heap.size + 1, 0, 1, rfl, .inr ⟨by omega, by omega⟩, Nat.le_refl _, by omega, ?_⟩
  refine RepVs.of _ fun j hj => ?_
  obtain rfl : j = 0 := by simpa using hj
  refine ⟨.agg #[.int .u64 0, .slice none 0 0, .slice (some ⟨w.heap.size, 0, none⟩) 4 4], ⟨_, _, _, rfl, c1 0, c1 1, c1 2⟩, ?_⟩
  refine RepV_mk.2 ⟨.slice none 0 0, .slice (some ⟨w.heap.size, 0, none⟩) 4 4, rfl, by omega, .inl ⟨rfl, Bare.nil⟩, .inr ⟨w.heap.size, 0, 4, rfl, .inr ⟨by omega, by omega⟩, Nat.le_refl _, by omega, ?_⟩⟩
  refine RepVs.of _ fun j hj => ?_
  match j, hj with
  | 0, _ => exact ⟨_, ⟨_, _, _, rfl, c0 0, c0 1, c0 2⟩, one i hi⟩
  | 1, _ => exact ⟨_, ⟨_, _, _, rfl, c0 3, c0 4, c0 5⟩, one t ht⟩
  | 2, _ => exact ⟨_, ⟨_, _, _, rfl, c0 6, c0 7, c0 8⟩, one k hk⟩
  | 3, _ => exact ⟨_, ⟨_, _, _, rfl, c0 9, c0 10, c0 11⟩, RepV_mk.2 ⟨_, _, rfl, by omega, hb.same (fun _ h => .inl h) (fun q hq => hbw.block q (hF q hq)), .inl ⟨rfl, Bare.nil⟩⟩⟩

theorem sgForm_le (e : En) : (sgForm e).length ≤ e.b.length + 36 := by
  unfold sgForm
  have h1 := num_le e.idx.toNat
  have h2 := num_le e.term.toNat
  have h3 := num_le e.kind.toNat
  have h4 := num_le e.b.length
  simp only [List.length_append]
  omega

theorem sgRow_length (e : En) : (sgRow e).length = (sgForm e).length + 8 := by
  unfold sgRow
  simp only [List.length_append, four_length]
  omega

set_option maxRecDepth 20000 in
set_option maxHeartbeats 3200000 in
theorem rowOf_any (e : En) (v : Value) (F : Nat → Prop) (w : World) (hv : RepB w F e.b v) (hF : ∀ k, F k → k < w.heap.size) (h1 : 0 ≤ e.idx ∧ e.idx ≤ 9223372036854775807) (h2 : 0 ≤ e.term ∧ e.term ≤ 9223372036854775807) (h3 : 0 ≤ e.kind ∧ e.kind ≤ 9223372036854775807) (hl : e.b.length ≤ 1048576) (hT : Hid (Tab w)) :
    Calls Tryz.prog 25 #[enAgg e v] w fun x w' => ∃ u, x = .returned u ∧ Own w (sgRow e) u w' := by
  obtain ⟨ei, et, ek, b⟩ := e
  simp only at hv h1 h2 h3 hl
  obtain ⟨i, rfl⟩ := Int.eq_ofNat_of_zero_le h1.1
  obtain ⟨t, rfl⟩ := Int.eq_ofNat_of_zero_le h2.1
  obtain ⟨k, rfl⟩ := Int.eq_ofNat_of_zero_le h3.1
  unfold enAgg
  simp only
  obtain ⟨va, vc, rfl, hvl⟩ := hv.slice
  have HV := Lib.hid hv
  have HF := Lib.hid hF
  obtain ⟨n, hn⟩ : ∃ n, n = b.length := ⟨_, rfl⟩
  rw [← hn] at HV hl ⊢
  have HN := Lib.hid hn
  have bi : (i : Int) ≤ 9223372036854775807 := h1.2
  have bt : (t : Int) ≤ 9223372036854775807 := h2.2
  have bk : (k : Int) ≤ 9223372036854775807 := h3.2
  have H123 : Hid (i < 18446744073709551616 ∧ t < 18446744073709551616 ∧ k < 18446744073709551616) := Lib.hid (by omega)
  clear hv hF hn hvl h1 h2 h3
  go_enter Tryz.func25, Tryz.ntmps25
  go_wp2_with fail
  obtain ⟨W0, hW0⟩ : ∃ W0, W0 = w.alloc (.cells #[.int .i64 (i : Int), .int .i64 (t : Int), .int .i64 (k : Int), .slice va n vc] 36) := ⟨_, rfl⟩
  have hb0 : Below w.heap.size w W0 := by rw [hW0]; exact below_alloc _ _
  have hz0 : w.heap.size + 1 = W0.heap.size := by rw [hW0]; simp
  have HB0 := Lib.hid hb0
  have HV0 : Hid (RepB W0 F b (.slice va n vc)) := Lib.hid (HV.out.same (fun _ h => h) fun j hj => hb0.block j (HF.out j hj))
  rw [← hW0, hz0]
  clear hW0 hb0
  have HR := rep_row4 (w := W0) (g := W0.heap.size) (T1 := 95) (T2 := 95) rfl H123.out.1 H123.out.2.1 H123.out.2.2 HV0.out fun j hj => by have := HF.out j hj; omega
  refine (Put_any nmRow4 [rowV i t k b] _ _ _ (by decide) HR (fun j hj => by
    simp only [World.size_alloc]
    rcases hj with hj | hj
    · have := HF.out j hj; omega
    · omega) (by have := HN.out; simp [vsizes, vsize, rowV]; omega)).mono ?_
  rintro e w1 ⟨hb, hr⟩
  rw [put_row4] at hr
  obtain ⟨u, rfl, hu⟩ := hr
  have HB1 : Hid (Below w.heap.size w w1) := Lib.hid (HB0.out.trans (((below_alloc W0 _).trans (((below_alloc _ _).trans (hb.mono (by simp))).mono (by simp))).mono (by omega)))
  have HU : Hid (RepB w1 (fun j => j < w1.heap.size) (sgForm ⟨(i : Int), (t : Int), (k : Int), b⟩) u) := Lib.hid ((RepB.of_own hu).weak fun j hj => hj.2)
  have hfl := sgForm_le ⟨(i : Int), (t : Int), (k : Int), b⟩
  simp only at hfl
  rw [← HN.out] at hfl
  obtain ⟨L, hL⟩ : ∃ L, L = sgForm ⟨(i : Int), (t : Int), (k : Int), b⟩ := ⟨_, rfl⟩
  rw [← hL] at HU hfl
  have HL := Lib.hid hL
  obtain ⟨ua, uc, rfl, hul⟩ := HU.out.slice
  obtain ⟨m, hm⟩ : ∃ m, m = L.length := ⟨_, rfl⟩
  rw [← hm] at HU hfl hul ⊢
  have HM := Lib.hid hm
  have hm2 : m ≤ 1048612 := by omega
  have hmw : (m : Int) ≤ 1048612 := by omega
  have HM2 := Lib.hid hm2
  clear hb hu hL hm HR hz0 hfl hul bi bt bk
  go_wp2_with fail
  refine (layWord_any m w1 (by omega)).mono ?_
  rintro e w2 ⟨v2, rfl, ho2⟩
  have HO2 := Lib.hid ho2
  obtain ⟨sa, sc, rfl⟩ := ho2.slice
  rw [four_length]
  have HU2 : Hid (RepB w2 (fun j => j < w2.heap.size) L (.slice ua m uc)) := Lib.hid (HU.out.same (fun j hj => Nat.lt_of_lt_of_le hj ho2.1.size) fun j hj => ho2.1.block j hj)
  have HS2 : Hid (RepB w2 (fun j => j < w2.heap.size) (four m) (.slice sa 4 sc)) := Lib.hid (by have := ho2.now; rw [four_length] at this; exact this)
  have HB2 : Hid (Below w.heap.size w w2) := Lib.hid (HB1.out.trans (ho2.1.mono HB1.out.size))
  clear ho2
  go_wp2_with fail
  have hb3 := below_alloc w2 (.cells #[.slice sa 4 sc, .slice ua m uc] 34)
  refine (Of_any [four m, L] _ _ _ (lay2 HS2.out HU2.out rfl) (Lib.hid (hT.out.next (HB2.out.trans (hb3.mono HB2.out.size))))).mono ?_
  rintro e w3 ⟨rfl, rfl⟩
  have hcs := C.sumOf_lt [four m, L].flatten
  obtain ⟨cs, hcs2⟩ : ∃ cs, cs = C.sumOf [four m, L].flatten := ⟨_, rfl⟩
  rw [← hcs2] at hcs ⊢
  have HCS := Lib.hid hcs2
  obtain ⟨W3, hW3⟩ : ∃ W3, W3 = w2.alloc (.cells #[.slice sa 4 sc, .slice ua m uc] 34) := ⟨_, rfl⟩
  have HB3 : Hid (Below w.heap.size w W3) := Lib.hid (by rw [hW3]; exact HB2.out.trans (hb3.mono HB2.out.size))
  have HU3 : Hid (RepB W3 (fun j => j < W3.heap.size) L (.slice ua m uc)) := Lib.hid (by rw [hW3]; exact HU2.out.same (fun j hj => Nat.lt_of_lt_of_le hj hb3.size) fun j hj => hb3.block j hj)
  have HS3 : Hid (RepB W3 (fun j => j < W3.heap.size) (four m) (.slice sa 4 sc)) := Lib.hid (by rw [hW3]; exact HS2.out.same (fun j hj => Nat.lt_of_lt_of_le hj hb3.size) fun j hj => hb3.block j hj)
  rw [← hW3]
  clear hcs2 hW3 hb3
  go_wp2_with fail
  refine (layWord_any cs W3 hcs).mono ?_
  rintro e w4 ⟨v4, rfl, ho4⟩
  have HO4 : Hid (Own W3 (four cs) v4 w4) := Lib.hid ho4
  have HU4 : Hid (RepB w4 (fun j => j < w4.heap.size) L (.slice ua m uc)) := Lib.hid (HU3.out.same (fun j hj => Nat.lt_of_lt_of_le hj ho4.1.size) fun j hj => ho4.1.block j hj)
  have HS4 : Hid (RepB w4 (fun j => j < w4.heap.size) (four m) (.slice sa 4 sc)) := Lib.hid (HS3.out.same (fun j hj => Nat.lt_of_lt_of_le hj ho4.1.size) fun j hj => ho4.1.block j hj)
  obtain ⟨fa, fc, rfl⟩ := ho4.slice
  rw [four_length]
  clear ho4
  have HO4' : Hid (Own W3 (four cs) (.slice fa 4 fc) w4) := Lib.hid (by have := HO4.out; rw [four_length] at this; exact this)
  go_wp2_with (at_builtin; refine wpList_own_append rfl (.tmp 37) (.tmp 38) rfl rfl rfl HO4'.out rfl HS4.out (by simp [four_length]) ?_)
  intro v5 w5 ho5
  obtain ⟨ha, hc, rfl⟩ := ho5.slice
  have h8 : (four cs ++ four m).length = 8 := by simp [four_length]
  rw [h8] at ho5 ⊢
  have HU5 : Hid (RepB w5 (fun j => j < W3.heap.size) L (.slice ua m uc)) := Lib.hid (HU3.out.same (fun _ h => h) fun j hj => ho5.1.block j hj)
  have HO5 := Lib.hid ho5
  clear ho5
  go_wp2_with (at_builtin; refine wpList_own_append rfl (.tmp 40) (.tmp 41) rfl rfl rfl HO5.out rfl HU5.out (by have := HM.out; have := HM2.out; simp [four_length]; omega) ?_)
  intro v6 w6 ho6
  have HO6 := Lib.hid ho6
  clear ho6
  go_wp2_with fail
  go_ret
  refine ⟨_, rfl, ?_⟩
  have e6 : sgRow ⟨(i : Int), (t : Int), (k : Int), b⟩ = four cs ++ four m ++ L := by
    unfold sgRow
    rw [← HL.out, ← HM.out, HCS.out]
    simp
  rw [e6]
  exact HO6.out.base HB3.out
end Go.Proofs.YtamgjlegcegmeaaGreatDoor.M

/- Part: SegEs. -/
namespace Go.Proofs.YtamgjlegcegmeaaGreatDoor.M
open Go.RowKit
open D (Fl Dk)

def enInt (e : En) : Prop := (-9223372036854775808 ≤ e.idx ∧ e.idx ≤ 9223372036854775807) ∧ (-9223372036854775808 ≤ e.term ∧ e.term ≤ 9223372036854775807) ∧ (-9223372036854775808 ≤ e.kind ∧ e.kind ≤ 9223372036854775807)

/-- A slice of entries. -/
def RepEs (w : World) (F : Nat → Prop) (l : List En) (v : Value) : Prop :=
  (l = [] ∧ Bare v) ∨ ∃ b off c, v = .slice (some ⟨b, off, none⟩) l.length c ∧ F b ∧ l.length ≤ c ∧ c ≤ 9223372036854775807 ∧
    ∀ (i : Nat) (h : i < l.length), enInt l[i] ∧ w.cell? ⟨b, off + i * 4, none⟩ = some (.int .i64 l[i].idx) ∧ w.cell? ⟨b, off + i * 4 + 1, none⟩ = some (.int .i64 l[i].term) ∧ w.cell? ⟨b, off + i * 4 + 2, none⟩ = some (.int .i64 l[i].kind) ∧
      ∃ u, w.cell? ⟨b, off + i * 4 + 3, none⟩ = some u ∧ RepB w F l[i].b u

theorem RepEs.same {w w' : World} {F G : Nat → Prop} (hF : ∀ k, F k → G k) (hw : ∀ k, F k → w'.heap[k]? = w.heap[k]?) {l : List En} {v : Value} (h : RepEs w F l v) : RepEs w' G l v := by
  rcases h with h | ⟨b, off, c, hv, hb, hl, hm, hc⟩
  · exact .inl h
  · refine .inr ⟨b, off, c, hv, hF b hb, hl, hm, fun i hi => ?_⟩
    obtain ⟨h0, h1, h2, h3, u, h4, h5⟩ := hc i hi
    have e : ∀ j, w'.cell? ⟨b, j, none⟩ = w.cell? ⟨b, j, none⟩ := fun j => World.cell?_of_block (a := ⟨b, j, none⟩) (hw b hb)
    exact ⟨h0, by rw [e]; exact h1, by rw [e]; exact h2, by rw [e]; exact h3, u, by rw [e]; exact h4, h5.same hF hw⟩

theorem RepEs.slice {w : World} {F : Nat → Prop} {l : List En} {v : Value} (h : RepEs w F l v) : ∃ a c, v = .slice a l.length c ∧ l.length ≤ 9223372036854775807 := by
  rcases h with ⟨rfl, a, c, rfl, _⟩ | ⟨b, off, c, rfl, _, h1, h2, _⟩
  · exact ⟨a, c, rfl, by simp⟩
  · exact ⟨_, c, rfl, by omega⟩

theorem RepEs.elem {w : World} {F : Nat → Prop} {l : List En} {a : Option Addr} {n c : Nat} (h : RepEs w F l (.slice a n c)) (i : Nat) (hi : i < l.length) :
    ∃ b off, a = some ⟨b, off, none⟩ ∧ F b ∧ enInt l[i] ∧ w.cell? ⟨b, off + i * 4, none⟩ = some (.int .i64 l[i].idx) ∧ w.cell? ⟨b, off + i * 4 + 1, none⟩ = some (.int .i64 l[i].term) ∧ w.cell? ⟨b, off + i * 4 + 2, none⟩ = some (.int .i64 l[i].kind) ∧
      ∃ u, w.cell? ⟨b, off + i * 4 + 3, none⟩ = some u ∧ RepB w F l[i].b u := by
  rcases h with ⟨h, _⟩ | ⟨b, off, c', h, hb, _, _, hc⟩
  · rw [h] at hi; simp at hi
  · cases h
    exact ⟨b, off, rfl, hb, hc i hi⟩

set_option maxRecDepth 20000 in
theorem copied_any (e : En) (v : Value) (F : Nat → Prop) (w : World) (hv : RepB w F e.b v) (hF : ∀ k, F k → k < w.heap.size) (hl : e.b.length ≤ 140737488355328) :
    Calls Tryz.prog 35 #[enAgg e v] w fun x w' => ∃ u, x = .returned (enAgg e u) ∧ Own w e.b u w' := by
  obtain ⟨i, t, k, b⟩ := e
  simp only at hv hl
  unfold enAgg
  simp only
  obtain ⟨va, vc, rfl, hvl⟩ := hv.slice
  obtain ⟨n, hn⟩ : ∃ n, n = b.length := ⟨_, rfl⟩
  rw [← hn] at hv hl hvl ⊢
  obtain ⟨W, hW⟩ : ∃ W, W = (w.alloc (.cells #[.int .i64 i, .int .i64 t, .int .i64 k, .slice va n vc] 36)).alloc (.cells #[.int .i64 0, .int .i64 0, .int .i64 0, .slice none 0 0] 36) := ⟨_, rfl⟩
  have HW := Lib.hid hW
  have hb0 : Below w.heap.size w W := by rw [hW]; exact ((Below.refl _ w).alloc (Nat.le_refl _) _).alloc (by simp) _
  have HB0 := Lib.hid hb0
  have HX0 : Hid (W.heap[w.heap.size]? = some (.cells #[.int .i64 i, .int .i64 t, .int .i64 k, .slice va n vc] 36)) := Lib.hid (by rw [hW]; exact old_alloc (heap_new _ _ _ rfl))
  have HX1 : Hid (W.heap[w.heap.size + 1]? = some (.cells #[.int .i64 0, .int .i64 0, .int .i64 0, .slice none 0 0] 36)) := Lib.hid (by rw [hW]; exact heap_new _ _ _ (by simp))
  have HV : Hid (RepB W F b (.slice va n vc)) := Lib.hid (hv.same (fun _ h => h) fun j hj => hb0.block j (hF j hj))
  have HN := Lib.hid hn
  have HZ : Hid (w.heap.size + 2 = W.heap.size) := Lib.hid (by rw [hW]; simp)
  clear hb0 hv hF hW hn
  go_enter Tryz.func35, Tryz.ntmps35
  go_wp2_with (at_builtin; rw [← HW.out]; refine wpList_own_append rfl (.const (.slice none 0 0)) (.tmp 4) rfl rfl rfl (Own.bare (Below.refl _ W)) rfl HV.out (by have := HN.out; simp; omega) ?_)
  intro v' w' hown
  obtain ⟨ua, uc, rfl⟩ := hown.slice
  rw [← HN.out] at hown ⊢
  have HO := Lib.hid hown
  have hz := HZ.out
  have k0 : w'.heap[w.heap.size]? = some (.cells #[.int .i64 i, .int .i64 t, .int .i64 k, .slice va n vc] 36) := old_below HX0.out hown.1
  have k1 : w'.heap[w.heap.size + 1]? = some (.cells #[.int .i64 0, .int .i64 0, .int .i64 0, .slice none 0 0] 36) := old_below HX1.out hown.1
  obtain ⟨b0, b1, b2, b3, bz⟩ : w'.cell? ⟨w.heap.size, 0, none⟩ = some (.int .i64 i) ∧ w'.cell? ⟨w.heap.size, 1, none⟩ = some (.int .i64 t) ∧ w'.cell? ⟨w.heap.size, 2, none⟩ = some (.int .i64 k) ∧ w'.cell? ⟨w.heap.size, 3, none⟩ = some (.slice va n vc) ∧ w.heap.size < w'.heap.size :=
    ⟨cell_of_row _ _ 0 _ _ _ k0, cell_of_row _ _ 1 _ _ _ k0, cell_of_row _ _ 2 _ _ _ k0, cell_of_row _ _ 3 _ _ _ k0, lt_of_heap k0⟩
  have f3 : w'.frozen? ⟨w.heap.size, 3, none⟩ = false := frozen_of_row _ _ 3 _ _ k0
  obtain ⟨d0, d1, d2, d3, dz⟩ : w'.cell? ⟨w.heap.size + 1, 0, none⟩ = some (.int .i64 0) ∧ w'.cell? ⟨w.heap.size + 1, 1, none⟩ = some (.int .i64 0) ∧ w'.cell? ⟨w.heap.size + 1, 2, none⟩ = some (.int .i64 0) ∧ w'.cell? ⟨w.heap.size + 1, 3, none⟩ = some (.slice none 0 0) ∧ w.heap.size + 1 < w'.heap.size :=
    ⟨cell_of_row _ _ 0 _ _ _ k1, cell_of_row _ _ 1 _ _ _ k1, cell_of_row _ _ 2 _ _ _ k1, cell_of_row _ _ 3 _ _ _ k1, lt_of_heap k1⟩
  have fd : ∀ j, w'.frozen? ⟨w.heap.size + 1, j, none⟩ = false := fun j => frozen_of_row _ _ j _ _ k1
  have fd0 := fd 0
  have fd1 := fd 1
  have fd2 := fd 2
  have fd3 := fd 3
  clear hown k0 k1 fd hz
  go_wp2_with fail
  refine bodyPost_ret (v := .agg #[.int .i64 i, .int .i64 t, .int .i64 k, .slice ua n uc]) (by simp [results, Tryz.results35, go_sem, d0, d1, d2, d3, dz]) rfl ?_
  refine ⟨_, rfl, ?_⟩
  have ho := HO.out.base HB0.out
  have hne : ∀ g, g < W.heap.size → (Value.slice ua n uc).ownBlock ≠ some g := fun g hg e => by
    have := (HO.out.2.lt g e).1
    omega
  have hz := HZ.out
  exact (((((ho.far (Nat.le_refl _) (hne _ (by omega)) _).far (by omega) (hne _ (by omega)) _).far (by omega) (hne _ (by omega)) _).far (by omega) (hne _ (by omega)) _).far (by omega) (hne _ (by omega)) _)

theorem heap_two {w : World} {g : Nat} {a b x y : Value} {t : TypeId} (h : w.heap[g]? = some (.cells #[a, b] t)) :
    ((w.setCell ⟨g, 0, none⟩ x).setCell ⟨g, 1, none⟩ y).heap[g]? = some (.cells #[x, y] t) := by
  simp [World.setCell, Array.getElem?_modify, h]

theorem followE_fail {m : Int × Int} {e : En} {es : List En} (h : nextTo m e = false) : followE m (e :: es) = false := by rw [followE, h]; rfl
theorem followE_next {m : Int × Int} {e : En} {es : List En} (h : nextTo m e = true) : followE m (e :: es) = followE (e.idx, e.term) es := by rw [followE, h]; rfl

set_option maxRecDepth 20000 in
set_option maxHeartbeats 6400000 in
theorem follow_any (m1 m2 : Int) (es : List En) (v : Value) (F : Nat → Prop) (w : World) (hv : RepEs w F es v) (hF : ∀ k, F k → k < w.heap.size) (hm1 : -1099511627776 ≤ m1 ∧ m1 ≤ 1099511627776) (hm2 : -9223372036854775808 ≤ m2 ∧ m2 ≤ 9223372036854775807) :
    Calls Tryz.prog 23 #[.agg #[.int .i64 m1, .int .i64 m2], v] w fun x w' => x = .returned (.bool (followE (m1, m2) es)) ∧ Below w.heap.size w w' := by
  obtain ⟨va, vc, rfl, hvl⟩ := hv.slice
  have HV := Lib.hid hv
  have HF := Lib.hid hF
  obtain ⟨n, hn⟩ : ∃ n, n = es.length := ⟨_, rfl⟩
  rw [← hn] at HV hvl ⊢
  have HN := Lib.hid hn
  obtain ⟨A, hA⟩ : ∃ A, A = followE (m1, m2) es := ⟨_, rfl⟩
  rw [← hA]
  have HA := Lib.hid hA
  clear hv hF hn hA
  go_enter Tryz.func23, Tryz.ntmps23
  go_wp2_with fail
  go_loopw [9] (fun i wr => ∃ (k : Nat) (a b : Int), i = .int .i64 (k : Int) ∧ k ≤ n ∧ (-1099511627776 ≤ a ∧ a ≤ 1099511627776) ∧ Hid (A = followE (a, b) (es.drop k)) ∧ Hid (Below w.heap.size w wr) ∧ wr.heap[w.heap.size]? = some (.cells #[.int .i64 a, .int .i64 b] 32)) (fun i _ => n - (intOf i).toNat)
  case atStart => exact ⟨0, m1, m2, rfl, Nat.zero_le _, hm1, Lib.hid (by rw [HA.out]; rfl), Lib.hid (below_alloc _ _), heap_new _ _ _ rfl⟩
  case round =>
    obtain ⟨k, a, b, rfl, hk, ha, HAK, HBW, hbox⟩ := hrel
    obtain ⟨b0, b1, f0, f1, bz⟩ := block2 hbox
    have HBOX := Lib.hid hbox
    clear hbox
    by_cases hlt : k < n
    · have hkk : (k : Int) < (n : Int) := by omega
      have hlt2 : k < es.length := by rw [← HN.out]; exact hlt
      obtain ⟨gb, off, rfl, hFb, ⟨i1, i2, i3⟩, c0, c1, c2, u, c3, hu⟩ := HV.out.elem k hlt2
      have hgz := HF.out gb hFb
      have hgz2 : gb < wr.heap.size := Nat.lt_of_lt_of_le hgz HBW.out.size
      have hcw : ∀ j, wr.cell? ⟨gb, j, none⟩ = w.cell? ⟨gb, j, none⟩ := fun j => HBW.out.cell (p := ⟨gb, j, none⟩) hgz
      rw [← hcw] at c0 c1 c2 c3
      obtain ⟨ua, uc, rfl, hul⟩ := hu.slice
      have hstep : Hid ((nextTo (a, b) es[k] = false → A = false) ∧ (nextTo (a, b) es[k] = true → A = followE (es[k].idx, es[k].term) (es.drop (k + 1)))) := Lib.hid (by
        have hd : es.drop k = es[k] :: es.drop (k + 1) := List.drop_eq_getElem_cons hlt2
        have h := HAK.out
        rw [hd] at h
        exact ⟨fun q => h.trans (followE_fail q), fun q => h.trans (followE_next q)⟩)
      obtain ⟨e, he⟩ : ∃ e, e = es[k] := ⟨_, rfl⟩
      rw [← he] at i1 i2 i3 c0 c1 c2 c3 hstep hul
      obtain ⟨xi, xt, xk, xb⟩ := e
      simp only at i1 i2 i3 c0 c1 c2 c3 hstep hul
      obtain ⟨l, hl⟩ : ∃ l, l = xb.length := ⟨_, rfl⟩
      rw [← hl] at c3 hul
      have hno : Hid ((xi ≠ a + 1 ∨ 10000000000 ≤ xi ∨ xt < max b 1 ∨ 10000000000 ≤ xt ∨ xk < 0 ∨ 255 < xk ∨ 1048576 < l) → A = false) := Lib.hid fun h => hstep.out.1 (by
        unfold nextTo
        apply decide_eq_false
        simp only
        rw [← hl]
        omega)
      have hyes : Hid (¬ (xi ≠ a + 1 ∨ 10000000000 ≤ xi ∨ xt < max b 1 ∨ 10000000000 ≤ xt ∨ xk < 0 ∨ 255 < xk ∨ 1048576 < l) → A = followE (xi, xt) (es.drop (k + 1))) := Lib.hid fun h => hstep.out.2 (by
        unfold nextTo
        apply decide_eq_true
        simp only
        rw [← hl]
        omega)
      have hwa : IntKind.i64.wrap (a + 1) = a + 1 := IntWalk.i64_in _ (by omega)
      clear hcw hu he hl hstep hlt2
      by_cases t1 : ¬ xi = a + 1
      · have q1 : (xi != a + 1) = true := by simp [t1]
        have HFA : Hid (A = false) := Lib.hid (hno.out (.inl t1))
        go_wp2_with fail
        go_ret
        exact ⟨by rw [HFA.out]; rfl, HBW.out.alloc HBW.out.size _⟩
      have q1 : (xi != a + 1) = false := by simp; omega
      by_cases t2 : 10000000000 ≤ xi
      · have q2 : decide (10000000000 ≤ xi) = true := decide_eq_true t2
        have HFA : Hid (A = false) := Lib.hid (hno.out (.inr (.inl t2)))
        go_wp2_with fail
        go_ret
        exact ⟨by rw [HFA.out]; rfl, HBW.out.alloc HBW.out.size _⟩
      have q2 : decide (10000000000 ≤ xi) = false := decide_eq_false t2
      by_cases t3 : xt < max b 1
      · have q3 : decide (xt < max b 1) = true := decide_eq_true t3
        have HFA : Hid (A = false) := Lib.hid (hno.out (.inr (.inr (.inl t3))))
        go_wp2_with fail
        go_ret
        exact ⟨by rw [HFA.out]; rfl, HBW.out.alloc HBW.out.size _⟩
      have q3 : decide (xt < max b 1) = false := decide_eq_false t3
      by_cases t4 : 10000000000 ≤ xt
      · have q4 : decide (10000000000 ≤ xt) = true := decide_eq_true t4
        have HFA : Hid (A = false) := Lib.hid (hno.out (.inr (.inr (.inr (.inl t4)))))
        go_wp2_with fail
        go_ret
        exact ⟨by rw [HFA.out]; rfl, HBW.out.alloc HBW.out.size _⟩
      have q4 : decide (10000000000 ≤ xt) = false := decide_eq_false t4
      by_cases t5 : xk < 0
      · have q5 : decide (xk < 0) = true := decide_eq_true t5
        have HFA : Hid (A = false) := Lib.hid (hno.out (.inr (.inr (.inr (.inr (.inl t5))))))
        go_wp2_with fail
        go_ret
        exact ⟨by rw [HFA.out]; rfl, HBW.out.alloc HBW.out.size _⟩
      have q5 : decide (xk < 0) = false := decide_eq_false t5
      by_cases t6 : 255 < xk
      · have q6 : decide (255 < xk) = true := decide_eq_true t6
        have HFA : Hid (A = false) := Lib.hid (hno.out (.inr (.inr (.inr (.inr (.inr (.inl t6)))))))
        go_wp2_with fail
        go_ret
        exact ⟨by rw [HFA.out]; rfl, HBW.out.alloc HBW.out.size _⟩
      have q6 : decide (255 < xk) = false := decide_eq_false t6
      by_cases t7 : (1048576 : Int) < (l : Int)
      · have q7 : decide ((1048576 : Int) < (l : Int)) = true := decide_eq_true t7
        have HFA : Hid (A = false) := Lib.hid (hno.out (.inr (.inr (.inr (.inr (.inr (.inr (by omega))))))))
        go_wp2_with fail
        go_ret
        exact ⟨by rw [HFA.out]; rfl, HBW.out.alloc HBW.out.size _⟩
      have q7 : decide ((1048576 : Int) < (l : Int)) = false := decide_eq_false t7
      have HFA := Lib.hid (hyes.out (by omega))
      have hbd : -1099511627776 ≤ xi ∧ xi ≤ 1099511627776 := by omega
      have HBD := Lib.hid hbd
      clear t1 t2 t3 t4 t5 t6 t7 hbd
      go_wp2_with fail
      go_roundw
      case rel =>
        refine ⟨k + 1, xi, xt, by go_num, by omega, HBD.out, Lib.hid HFA.out, Lib.hid ?_, ?_⟩
        · exact ((HBW.out.setCell (by simp) _).setCell (by simp) _).alloc (by simpa using HBW.out.size) _
        · exact old_alloc (heap_two HBOX.out)
      case measure => simp [intOf]; omega
    · have hkk : ¬ (k : Int) < (n : Int) := by omega
      obtain rfl : k = n := by omega
      have HT : Hid (A = true) := Lib.hid (by rw [HAK.out, HN.out, List.drop_length]; rfl)
      clear hlt
      go_wp2_with fail
      go_ret
      exact ⟨by rw [HT.out]; rfl, HBW.out⟩
end Go.Proofs.YtamgjlegcegmeaaGreatDoor.M
