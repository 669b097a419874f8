/- Small things about bytes and disks in memory that the layers above lean on. Package shelf: marks, whether there is one, copies. Package shelf: a sum as bytes, a snapshot's form, its bytes. Package shelf: bytes read as a snapshot. Package shelf: take, Parse. Package shelf: Parse. -/
import Derived.Test.YtbcpcopapbgcdaaGreatDoorSW25
import Derived.Test.YtbcpcopapbgcdaaGreatDoorSW23
import Derived.Test.YtbcpcopapbgcdaaGreatDoorSW26
import Derived.Test.YtbcpcopapbgcdaaGreatDoorSW7
import Derived.Test.YtbcpcopapbgcdaaGreatDoorSW8
import Derived.Deep.QuietTactic
/- Part: DiskMore. -/
namespace Go.Proofs.YtbcpcopapbgcdaaGreatDoor.M
open Go.RowKit Go.Maps
open D (Fl Dk)

theorem RepB.elem2 {w : World} {F : Nat → Prop} {L : List UInt8} {a : Option Addr} {n c : Nat} (h : RepB w F L (.slice a n c)) {i : Nat} (hi : i < L.length) :
    ∃ b off, a = some ⟨b, off, none⟩ ∧ F b ∧ ∀ (j : Nat) (hj : j < L.length), w.cell? ⟨b, off + j, none⟩ = some (.int .u8 (L[j].toNat : Int)) := by
  rcases h with ⟨h, _⟩ | ⟨b, off, c', h, hb, _, _, hc⟩
  · rw [h] at hi; simp at hi
  · cases h
    exact ⟨b, off, rfl, hb, hc⟩

theorem bytes_le (fs : List Fl) (s : ByteArray) : (bytesOf fs s).length ≤ D.used fs := by
  unfold bytesOf
  cases h : fs.find? (fun f => decide (f.nm = s)) with
  | none => simp
  | some f => exact D.used_mem (List.mem_of_find?_eq_some h)

theorem RepB.drop4 {w : World} {F : Nat → Prop} {L : List UInt8} {g c : Nat} (hF : F g) (hc : ∀ (j : Nat) (hj : j < L.length), w.cell? ⟨g, j, none⟩ = some (.int .u8 (L[j].toNat : Int))) (h4 : 4 ≤ L.length) (hl : L.length ≤ c) (hm : c ≤ 9223372036854775807) :
    RepB w F (L.drop 4) (.slice (if c = 4 then some ⟨g, 0, none⟩ else some ⟨g, 4, none⟩) (L.length - 4) (c - 4)) := by
  by_cases h : c = 4
  · rw [if_pos h]
    have e : L.length = 4 := by omega
    refine .inl ⟨List.drop_of_length_le (by omega), _, c - 4, by rw [e], by omega, fun h => by cases h⟩
  · rw [if_neg h]
    refine .inr ⟨g, 4, c - 4, by rw [List.length_drop], hF, by rw [List.length_drop]; omega, by omega, fun i hi => ?_⟩
    have := hc (4 + i) (by rw [List.length_drop] at hi; omega)
    rw [this]
    simp

theorem block2 {w : World} {g : Nat} {x y : Value} {t : TypeId} (h : w.heap[g]? = some (.cells #[x, y] t)) :
    w.cell? ⟨g, 0, none⟩ = some x ∧ w.cell? ⟨g, 1, none⟩ = some y ∧ w.frozen? ⟨g, 0, none⟩ = false ∧ w.frozen? ⟨g, 1, none⟩ = false ∧ g < w.heap.size :=
  ⟨cell_of_row w g 0 _ t _ h, cell_of_row w g 1 _ t _ h, frozen_of_row w g 0 _ t h, frozen_of_row w g 1 _ t h, lt_of_heap h⟩

theorem DS.tab {w wr : World} {X : Nat → Prop} {gd : Nat} {d : Dk} (h : DS w X gd d wr) (hT : Hid (Tab w)) : Hid (Tab wr) := Lib.hid (hT.out.next h.below)

/-- What a call leaves, with what was done ahead of it. -/
theorem DPost.after {w : World} {X X1 : Nat → Prop} {gd : Nat} {wr w1 : World} {r : Int × Dk} {e : Ending} {w' : World} (ho : Only X wr w1) (hX : ∀ k, X1 k → X k ∨ wr.heap.size ≤ k) (hp : DPost w X1 gd w1 r e w') : DPost w X gd wr r e w' := by
  obtain ⟨he, h1, X', h2, h3⟩ := hp
  refine ⟨he, ⟨h1.os.trans ho.os, h1.tape.trans ho.tape, h1.output.trans ho.output, Nat.le_trans ho.size h1.size, fun k hk hn => ?_⟩, X', fun k hk => ?_, h3⟩
  · rw [h1.block k (Nat.lt_of_lt_of_le hk ho.size) fun hx => by
      rcases hX k hx with h | h
      · exact hn h
      · omega]
    exact ho.block k hk hn
  · rcases h2 k hk with h | h
    · exact hX k h
    · exact .inr (Nat.le_trans ho.size h)

theorem Only.next {X : Nat → Prop} {w w1 w2 : World} (h : Only X w w1) (g : Below w1.heap.size w1 w2) : Only X w w2 :=
  ⟨g.os.trans h.os, g.tape.trans h.tape, g.output.trans h.output, Nat.le_trans h.size g.size, fun k hk hn => (g.block k (Nat.lt_of_lt_of_le hk h.size)).trans (h.block k hk hn)⟩

theorem Only.thn {X X1 : Nat → Prop} {w w1 w2 : World} (h : Only X w w1) (hX : ∀ k, X1 k → X k ∨ w.heap.size ≤ k) (g : Only X1 w1 w2) : Only X w w2 :=
  ⟨g.os.trans h.os, g.tape.trans h.tape, g.output.trans h.output, Nat.le_trans h.size g.size, fun k hk hn => (g.block k (Nat.lt_of_lt_of_le hk h.size) fun hx => by
    rcases hX k hx with h | h
    · exact hn h
    · omega).trans (h.block k hk hn)⟩

/-- Bytes of a row of its own, told to a call. -/
theorem DS.told {w wr : World} {X : Nat → Prop} {gd : Nat} {d : Dk} (h : DS w X gd d wr) {L : List UInt8} {v : Value} (hv : RepB wr (fun k => k < wr.heap.size ∧ ¬ X k) L v) (t : TypeId) {W : World} (hW : W = wr.alloc (.cells #[v] t)) :
    DS w X gd d W ∧ RepBl W (fun b => (b < wr.heap.size ∧ ¬ X b) ∨ b = wr.heap.size) [L] (.slice (some ⟨wr.heap.size, 0, none⟩) 1 1) ∧ ∀ k, ((k < wr.heap.size ∧ ¬ X k) ∨ k = wr.heap.size) → k < W.heap.size ∧ ¬ X k := by
  subst hW
  refine ⟨h.alloc _, RepBl.one hv rfl (fun k hk => hk.1), fun k hk => ⟨by rcases hk with hk | hk <;> (simp; omega), fun hx => by
    have := h.lt k hx
    rcases hk with hk | hk
    · exact hk.2 hx
    · omega⟩⟩

theorem DS.set {w wr : World} {X : Nat → Prop} {gd : Nat} {d : Dk} (h : DS w X gd d wr) {g j : Nat} {v : Value} (hg : w.heap.size ≤ g) (hX : ¬ X g) : DS w X gd d (wr.setCell ⟨g, j, none⟩ v) :=
  ⟨h.below.setCell hg v, h.own, ⟨h.dsk.1.same (fun _ h => h) fun k hk => Below.heap_setCell _ _ _ _ (fun e => hX (by rw [← show k = g from e]; exact hk)), fun k hk => by rw [World.size_setCell]; exact h.dsk.2 k hk⟩, h.well⟩

theorem DStop {w wr : World} {X : Nat → Prop} {gd : Nat} {d : Dk} (h : DS w X gd d wr) (n : Int) (hn : -9223372036854775808 ≤ n ∧ n ≤ 9223372036854775807) :
    Calls Tryz.prog 38 #[.pointer (some ⟨gd, 0, none⟩), .int .i64 n] wr fun e w' => e = .returned (.tuple #[]) ∧ DS w X gd (D.stop d n) w' ∧ Only X wr w' ∧ w'.heap.size = wr.heap.size :=
  (PStop_any d X gd wr n h.dsk.1 hn).mono fun e w' ⟨he, ho, hp, hz⟩ => ⟨he, ⟨⟨ho.os.trans h.below.os, ho.tape.trans h.below.tape, ho.output.trans h.below.output, Nat.le_trans h.below.size ho.size, fun k hk => by
    rw [ho.block k (Nat.lt_of_lt_of_le hk h.below.size) fun hx => by have := h.own k hx; omega]
    exact h.below.block k hk⟩, h.own, ⟨hp, fun k hk => by rw [hz]; exact h.lt k hk⟩, stop_well h.well hn.2⟩, ho, hz⟩

theorem RepI.nil {w : World} {F : Nat → Prop} : RepI w F [] (.slice none 0 0) := .inl ⟨rfl, Bare.nil⟩

theorem Own.base {w w1 w2 : World} {L : List UInt8} {v : Value} (h : Own w1 L v w2) (hb : Below w.heap.size w w1) : Own w L v w2 := by
  have hz := hb.size
  refine ⟨hb.trans (h.1.mono hz), h.2.1, ?_⟩
  rcases h.2.2 with h1 | ⟨g, cap, cur, h1, h2, h3⟩
  · exact .inl h1
  · exact .inr ⟨g, cap, cur, h1, by omega, h3⟩

theorem Own.far {w wr : World} {L : List UInt8} {v : Value} (h : Own w L v wr) {g j : Nat} (hg : w.heap.size ≤ g) (hn : v.ownBlock ≠ some g) (x : Value) : Own w L v (wr.setCell ⟨g, j, none⟩ x) :=
  ⟨h.1.setCell hg _, ownsRow_same h.2 fun k hk => Below.heap_setCell _ _ _ _ (by
    show k ≠ g
    intro e
    exact hn (e ▸ hk))⟩

theorem RepB.take {w : World} {F : Nat → Prop} {L : List UInt8} {a : Option Addr} {n c : Nat} (h : RepB w F L (.slice a n c)) (m : Nat) (hm : m ≤ L.length) : RepB w F (L.take m) (.slice a m c) := by
  rcases h with ⟨rfl, a', c', hv, hc, hn⟩ | ⟨b, off, c', hv, hb, hl, hmx, hc⟩
  · cases hv
    have : m = 0 := by simpa using hm
    subst this
    exact .inl ⟨rfl, a, c, rfl, hc, hn⟩
  · cases hv
    have e : (L.take m).length = m := by simp; omega
    refine .inr ⟨b, off, c, by rw [e], hb, by omega, hmx, fun i hi => ?_⟩
    rw [hc i (by omega)]
    simp

theorem RepB.dropAt {w : World} {F : Nat → Prop} {L : List UInt8} {b off c : Nat} (hF : F b) (hc : ∀ (j : Nat) (hj : j < L.length), w.cell? ⟨b, off + j, none⟩ = some (.int .u8 (L[j].toNat : Int))) (h4 : 4 ≤ L.length) (hl : L.length ≤ c) (hm : c ≤ 9223372036854775807) :
    RepB w F (L.drop 4) (.slice (if c = 4 then some ⟨b, off, none⟩ else some ⟨b, off + 4, none⟩) (L.length - 4) (c - 4)) := by
  by_cases h : c = 4
  · rw [if_pos h]
    have e : L.length = 4 := by omega
    refine .inl ⟨List.drop_of_length_le (by omega), _, c - 4, by rw [e], by omega, fun h => by cases h⟩
  · rw [if_neg h]
    refine .inr ⟨b, off + 4, c - 4, by rw [List.length_drop], hF, by rw [List.length_drop]; omega, by omega, fun i hi => ?_⟩
    have := hc (4 + i) (by rw [List.length_drop] at hi; omega)
    rw [Nat.add_assoc, this]
    simp
end Go.Proofs.YtbcpcopapbgcdaaGreatDoor.M

/- Part: ShA. -/
namespace Go.Proofs.YtbcpcopapbgcdaaGreatDoor.M
open Go.RowKit
open D (Fl Dk)

def snAgg (x : Sn) (c b : Value) : Value := .agg #[.int .i64 x.idx, .int .i64 x.term, c, b]

theorem sh_four {w : World} {g : Nat} {x0 x1 x2 x3 : Value} {t : TypeId} (h : w.heap[g]? = some (.cells #[x0, x1, x2, x3] t)) :
    w.cell? ⟨g, 0, none⟩ = some x0 ∧ w.cell? ⟨g, 1, none⟩ = some x1 ∧ w.cell? ⟨g, 2, none⟩ = some x2 ∧ w.cell? ⟨g, 3, none⟩ = some x3 ∧
    w.frozen? ⟨g, 0, none⟩ = false ∧ w.frozen? ⟨g, 1, none⟩ = false ∧ w.frozen? ⟨g, 2, none⟩ = false ∧ w.frozen? ⟨g, 3, none⟩ = false ∧ g < w.heap.size :=
  ⟨cell_of_row w g 0 _ t _ h, cell_of_row w g 1 _ t _ h, cell_of_row w g 2 _ t _ h, cell_of_row w g 3 _ t _ h, frozen_of_row w g 0 _ t h, frozen_of_row w g 1 _ t h, frozen_of_row w g 2 _ t h, frozen_of_row w g 3 _ t h, lt_of_heap h⟩

theorem sh_five {w : World} {g : Nat} {x0 x1 x2 x3 x4 : Value} {t : TypeId} (h : w.heap[g]? = some (.cells #[x0, x1, x2, x3, x4] t)) :
    w.cell? ⟨g, 0, none⟩ = some x0 ∧ w.cell? ⟨g, 1, none⟩ = some x1 ∧ w.cell? ⟨g, 2, none⟩ = some x2 ∧ w.cell? ⟨g, 3, none⟩ = some x3 ∧ w.cell? ⟨g, 4, none⟩ = some x4 ∧ g < w.heap.size :=
  ⟨cell_of_row w g 0 _ t _ h, cell_of_row w g 1 _ t _ h, cell_of_row w g 2 _ t _ h, cell_of_row w g 3 _ t _ h, cell_of_row w g 4 _ t _ h, lt_of_heap h⟩

set_option maxRecDepth 20000 in
theorem ShMark_any (a b : Int) (w : World) : Calls Tryz.prog 83 #[.agg #[.int .i64 a, .int .i64 b]] w fun e w' => e = .returned (.bool (okSn (a, b))) ∧ Below w.heap.size w w' := by
  have H : Hid (∀ x, x = decide (1 ≤ a ∧ a < 10000000000 ∧ 1 ≤ b ∧ b < 10000000000) → okSn (a, b) = x) := Lib.hid fun x h => h.symm
  rcases (show a < 1 ∨ (1 ≤ a ∧ ¬ a < 10000000000) ∨ (1 ≤ a ∧ a < 10000000000 ∧ b < 1) ∨ (1 ≤ a ∧ a < 10000000000 ∧ 1 ≤ b ∧ ¬ b < 10000000000) ∨ (1 ≤ a ∧ a < 10000000000 ∧ 1 ≤ b ∧ b < 10000000000) by omega) with h | ⟨h, h2⟩ | ⟨h, h2, h3⟩ | ⟨h, h2, h3, h4⟩ | ⟨h, h2, h3, h4⟩
  · have q : decide (1 ≤ a) = false := decide_eq_false (by omega)
    go_enter Tryz.func83, Tryz.ntmps83
    go_wp2_with fail
    go_ret
    exact ⟨by rw [H.out false (decide_eq_false (by omega)).symm]; rfl, below_alloc _ _⟩
  · have q : decide (a < 10000000000) = false := decide_eq_false (by omega)
    go_enter Tryz.func83, Tryz.ntmps83
    go_wp2_with fail
    go_ret
    exact ⟨by rw [H.out false (decide_eq_false (by omega)).symm]; rfl, below_alloc _ _⟩
  · have q : decide (1 ≤ b) = false := decide_eq_false (by omega)
    go_enter Tryz.func83, Tryz.ntmps83
    go_wp2_with fail
    go_ret
    exact ⟨by rw [H.out false (decide_eq_false (by omega)).symm]; rfl, below_alloc _ _⟩
  · have q : decide (b < 10000000000) = false := decide_eq_false (by omega)
    go_enter Tryz.func83, Tryz.ntmps83
    go_wp2_with fail
    go_ret
    exact ⟨by rw [H.out false (decide_eq_false (by omega)).symm]; rfl, below_alloc _ _⟩
  · go_enter Tryz.func83, Tryz.ntmps83
    go_wp2_with fail
    go_ret
    exact ⟨by rw [H.out true (decide_eq_true (by omega)).symm]; rfl, below_alloc _ _⟩

theorem ShEmpty_any (g : Nat) (p : Value) (i t : Int) (cv bv : Value) (w : World) (h : w.heap[g]? = some (.cells #[p, .int .i64 i, .int .i64 t, cv, bv] 137)) :
    Calls Tryz.prog 101 #[.pointer (some ⟨g, 0, none⟩)] w fun e w' => e = .returned (.bool (i == 0)) ∧ w' = w := by
  obtain ⟨-, c1, -, -, -, cz⟩ := sh_five h
  clear h
  go_enter Tryz.func101, Tryz.ntmps101
  go_wp2_with fail
  go_ret
  exact ⟨rfl, rfl⟩

theorem ShHas_any (g : Nat) (p : Value) (x : Sn) (k : Int) (cv bv : Value) (w : World) (h : w.heap[g]? = some (.cells #[p, .int .i64 x.idx, .int .i64 x.term, cv, bv] 137)) :
    Calls Tryz.prog 41 #[.pointer (some ⟨g, 0, none⟩), .int .i64 k] w fun e w' => e = .returned (.bool (hasS x k)) ∧ w' = w := by
  obtain ⟨i, t, cL, bL⟩ := x
  simp only at h
  have HE := Lib.hid (ShEmpty_any g p i t cv bv w h)
  obtain ⟨-, c1, -, -, -, cz⟩ := sh_five h
  have H : Hid (∀ y, y = decide (i ≠ 0 ∧ k ≤ i) → hasS ⟨i, t, cL, bL⟩ k = y) := Lib.hid fun y h => h.symm
  clear h
  by_cases h0 : i = 0
  · have q : (i == 0) = true := by simp [h0]
    go_enter Tryz.func41, Tryz.ntmps41
    go_wp2_with fail
    refine HE.out.mono ?_
    rintro e w' ⟨rfl, rfl⟩
    rw [q]
    go_wp2_with fail
    go_ret
    exact ⟨by rw [H.out false (decide_eq_false (by omega)).symm]; rfl, rfl⟩
  · have q : (i == 0) = false := by simp [h0]
    by_cases hk : k ≤ i
    · go_enter Tryz.func41, Tryz.ntmps41
      go_wp2_with fail
      refine HE.out.mono ?_
      rintro e w' ⟨rfl, rfl⟩
      rw [q]
      go_wp2_with fail
      go_ret
      exact ⟨by rw [H.out true (decide_eq_true ⟨h0, hk⟩).symm]; rfl, rfl⟩
    · have q2 : decide (k ≤ i) = false := decide_eq_false hk
      go_enter Tryz.func41, Tryz.ntmps41
      go_wp2_with fail
      refine HE.out.mono ?_
      rintro e w' ⟨rfl, rfl⟩
      rw [q]
      go_wp2_with fail
      go_ret
      exact ⟨by rw [H.out false (decide_eq_false (by omega)).symm]; rfl, rfl⟩

set_option maxRecDepth 20000 in
set_option maxHeartbeats 1600000 in
theorem ShCopied_any (x : Sn) (cv bv : Value) (F : Nat → Prop) (w : World) (hc : RepB w F x.conf cv) (hb : RepB w F x.body bv) (hF : ∀ k, F k → k < w.heap.size) (hcl : x.conf.length ≤ 140737488355328) (hbl : x.body.length ≤ 140737488355328) :
    Calls Tryz.prog 86 #[snAgg x cv bv] w fun e w' => ∃ u1 u2, e = .returned (snAgg x u1 u2) ∧ Own w x.conf u1 w' ∧ Own w x.body u2 w' := by
  obtain ⟨i, t, cL, bL⟩ := x
  simp only at hc hb hcl hbl
  unfold snAgg
  simp only
  obtain ⟨ca, cc, rfl, hcz⟩ := hc.slice
  obtain ⟨ba, bc, rfl, hbz⟩ := hb.slice
  obtain ⟨cn, hcn⟩ : ∃ n, n = cL.length := ⟨_, rfl⟩
  obtain ⟨bn, hbn⟩ : ∃ n, n = bL.length := ⟨_, rfl⟩
  rw [← hcn] at hc hcl hcz ⊢
  rw [← hbn] at hb hbl hbz ⊢
  obtain ⟨W, hW⟩ : ∃ W, W = (w.alloc (.cells #[.int .i64 i, .int .i64 t, .slice ca cn cc, .slice ba bn bc] 53)).alloc (.cells #[.int .i64 0, .int .i64 0, .slice none 0 0, .slice none 0 0] 53) := ⟨_, rfl⟩
  have HW := Lib.hid hW
  have hb0 : Below w.heap.size w W := by rw [hW]; exact ((Below.refl _ w).alloc (Nat.le_refl _) _).alloc (by simp) _
  have HB0 := Lib.hid hb0
  have HX0 : Hid (W.heap[w.heap.size]? = some (.cells #[.int .i64 i, .int .i64 t, .slice ca cn cc, .slice ba bn bc] 53)) := Lib.hid (by rw [hW]; exact old_alloc (heap_new _ _ _ rfl))
  have HX1 : Hid (W.heap[w.heap.size + 1]? = some (.cells #[.int .i64 0, .int .i64 0, .slice none 0 0, .slice none 0 0] 53)) := Lib.hid (by rw [hW]; exact heap_new _ _ _ (by simp))
  have HVC : Hid (RepB w F cL (.slice ca cn cc)) := Lib.hid hc
  have HVB : Hid (RepB w F bL (.slice ba bn bc)) := Lib.hid hb
  have HCN := Lib.hid hcn
  have HBN := Lib.hid hbn
  have HF := Lib.hid hF
  have HZ : Hid (w.heap.size + 2 = W.heap.size) := Lib.hid (by rw [hW]; simp)
  clear hb0 hc hb hF hW hcn hbn
  go_enter Tryz.func86, Tryz.ntmps86
  go_wp2_with (at_builtin; rw [← HW.out]; refine wpList_own_append rfl (.const (.slice none 0 0)) (.tmp 4) rfl rfl rfl (Own.bare (Below.refl _ W)) rfl (HVC.out.same (fun _ h => h) fun j hj => HB0.out.block j (HF.out j hj)) (by have := HCN.out; simp; omega) ?_)
  intro v1 w1 hown1
  obtain ⟨ua, uc, rfl⟩ := hown1.slice
  rw [← HCN.out] at hown1 ⊢
  have HO1 := Lib.hid hown1
  have k0 : w1.heap[w.heap.size]? = some (.cells #[.int .i64 i, .int .i64 t, .slice ca cn cc, .slice ba bn bc] 53) := old_below HX0.out hown1.1
  have hz := HZ.out
  have hz1 := hown1.1.size
  obtain ⟨b0, b1, b2, b3, f0, f1, f2, f3, bz⟩ := sh_four k0
  have HB1 : Hid (Below w.heap.size w (w1.setCell ⟨w.heap.size, 2, none⟩ (.slice ua cn uc))) := Lib.hid ((HB0.out.trans (hown1.1.mono HB0.out.size)).setCell (by simp) _)
  obtain ⟨W1, hW1⟩ : ∃ W1, W1 = w1.setCell ⟨w.heap.size, 2, none⟩ (.slice ua cn uc) := ⟨_, rfl⟩
  have hk1 : W1.heap[w.heap.size]? = some (.cells #[.int .i64 i, .int .i64 t, .slice ua cn uc, .slice ba bn bc] 53) := by
    rw [hW1]; simp [World.setCell, Array.getElem?_modify, k0]
  have HK1 := Lib.hid hk1
  have HW1 := Lib.hid hW1
  have HZ1 : Hid (w.heap.size + 2 ≤ W1.heap.size) := Lib.hid (by rw [hW1]; simp; omega)
  have HX2 : Hid (W1.heap[w.heap.size + 1]? = some (.cells #[.int .i64 0, .int .i64 0, .slice none 0 0, .slice none 0 0] 53)) := Lib.hid (by rw [hW1]; exact old_set (old_below HX1.out hown1.1) (by simp))
  have HN1 : Hid (∀ g, g < W.heap.size → (Value.slice ua cn uc).ownBlock ≠ some g) := Lib.hid fun g hg e => by
    have := (hown1.2.lt g e).1
    omega
  rw [← hW1] at HB1
  have HOW : Hid (Own w cL (.slice ua cn uc) W1) := Lib.hid (by rw [hW1]; exact (hown1.base HB0.out).far (Nat.le_refl _) (HN1.out _ (by omega)) _)
  clear hown1 k0 hz hz1 hk1 hW1
  go_wp2_with (at_builtin; rw [← HW1.out]; refine wpList_own_append rfl (.const (.slice none 0 0)) (.tmp 8) rfl rfl rfl (Own.bare (Below.refl _ W1)) rfl (HVB.out.same (fun _ h => h) fun j hj => HB1.out.block j (HF.out j hj)) (by have := HBN.out; simp; omega) ?_)
  intro v2 w2 hown2
  obtain ⟨va, vc, rfl⟩ := hown2.slice
  rw [← HBN.out] at hown2 ⊢
  have HO2 := Lib.hid hown2
  clear b0 b1 b2 b3 f0 f1 f2 f3 bz
  have k2 := old_below HK1.out hown2.1
  have k3 := old_below HX2.out hown2.1
  obtain ⟨b0, b1, b2, b3, f0, f1, f2, f3, bz⟩ := sh_four k2
  obtain ⟨d0, d1, d2, d3, e0, e1, e2, e3, dz⟩ := sh_four k3
  clear hown2 k2 k3
  go_wp2_with fail
  refine bodyPost_ret (v := .agg #[.int .i64 i, .int .i64 t, .slice ua cn uc, .slice va bn vc]) (by simp [results, Tryz.results86, go_sem, d0, d1, d2, d3, dz]) rfl ?_
  have hz := HZ.out
  have hz1 := HZ1.out
  have n1 : ∀ g, g < W.heap.size → (Value.slice ua cn uc).ownBlock ≠ some g := HN1.out
  have n2 : ∀ g, g < W1.heap.size → (Value.slice va bn vc).ownBlock ≠ some g := fun g hg e => by
    have := (HO2.out.2.lt g e).1
    omega
  have p1 := HOW.out.next HO2.out.1
  have p2 := HO2.out.base HB1.out
  refine ⟨_, _, rfl, ?_, ?_⟩
  · exact ((((p1.far (Nat.le_refl _) (n1 _ (by omega)) _).far (by omega) (n1 _ (by omega)) _).far (by omega) (n1 _ (by omega)) _).far (by omega) (n1 _ (by omega)) _).far (by omega) (n1 _ (by omega)) _
  · exact ((((p2.far (Nat.le_refl _) (n2 _ (by omega)) _).far (by omega) (n2 _ (by omega)) _).far (by omega) (n2 _ (by omega)) _).far (by omega) (n2 _ (by omega)) _).far (by omega) (n2 _ (by omega)) _
end Go.Proofs.YtbcpcopapbgcdaaGreatDoor.M

/- Part: ShB. -/
namespace Go.Proofs.YtbcpcopapbgcdaaGreatDoor.M
open Go.RowKit
open D (Fl Dk)

theorem four_map (cs : Nat) (h : cs < 4294967296) : (four cs).map byteV = [.int .u8 ((cs : Int) / 16777216), .int .u8 ((cs : Int) / 65536 % 256), .int .u8 ((cs : Int) / 256 % 256), .int .u8 ((cs : Int) % 256)] := by
  unfold four
  simp only [List.map_cons, List.map_nil, byteV, UInt8.toNat_ofNat']
  congr 2 <;> omega

set_option maxRecDepth 20000 in
set_option maxHeartbeats 1600000 in
theorem ShSum_any (L : List UInt8) (F : Nat → Prop) (v : Value) (w : World) (hv : RepB w F L v) (hF : ∀ k, F k → k < w.heap.size) (ht : Hid (Tab w)) :
    Calls Tryz.prog 74 #[v] w fun r w' => ∃ g, r = .returned (.slice (some ⟨g, 0, none⟩) 4 4) ∧ Own w (four (C.sumOf L)) (.slice (some ⟨g, 0, none⟩) 4 4) w' := by
  obtain ⟨va, vc, rfl, hl⟩ := hv.slice
  have HV := Lib.hid hv
  have HF := Lib.hid hF
  clear hv hF
  have hcs : C.sumOf L < 4294967296 := C.sumOf_lt L
  go_enter Tryz.func74, Tryz.ntmps74
  go_wp2_with fail
  refine (Of_any [L] _ _ _ (RepBl.one HV.out rfl HF.out) (Lib.hid (ht.out.next (below_alloc _ _)))).mono ?_
  rintro e w1 ⟨rfl, rfl⟩
  rw [show [L].flatten = L by simp]
  obtain ⟨cs, hcs2⟩ : ∃ cs, cs = C.sumOf L := ⟨_, rfl⟩
  rw [← hcs2] at hcs ⊢
  have HCS := Lib.hid hcs2
  clear hcs2
  go_wp2_with fail
  go_ret
  refine ⟨_, rfl, ?_⟩
  have hb := below_alloc w (.cells #[.slice va L.length vc] 34)
  refine ⟨hb.alloc hb.size _, ?_⟩
  rw [← HCS.out, four_map cs hcs, four_length]
  have h := World.ownsRow_lit (w.alloc (.cells #[.slice va L.length vc] 34)) #[.int .u8 ((cs : Int) / 16777216), .int .u8 ((cs : Int) / 65536 % 256), .int .u8 ((cs : Int) / 256 % 256), .int .u8 ((cs : Int) % 256)] 4 (base := w.heap.size) (e := 5) (size := 1) hb.size (by unfold maxLen; omega) rfl
  rw [World.size_alloc] at h
  exact h

def nmSnap : ByteArray := ⟨#[91, 110, 110, 98, 98, 93]⟩

theorem shape_snap : shape nmSnap.data.toList = some (.row [.num, .num, .blob, .blob]) := by kernel_rfl

def snV (i t : Nat) (c b : List UInt8) : V := .mk 0 [] [.mk i [] [], .mk t [] [], .mk 0 c [], .mk 0 b []]

theorem put_snap (i t : Nat) (c b : List UInt8) : putAll nmSnap.data.toList [snV i t c b] = .ok (num i ++ (num t ++ (num c.length ++ (c ++ (num b.length ++ b))))) := by
  unfold putAll
  rw [shape_snap]
  simp only
  rw [if_pos (by simp [snV, isV, isVs, V.l])]
  simp [snV, putV, putVs, V.l, V.n, V.b]

theorem snap_size {i t : Nat} {c b : List UInt8} (h : c.length + b.length ≤ 1000000000) : vsizes [snV i t c b] ≤ 1099511627776 := by
  simp only [vsizes, vsize, snV, List.length_nil]
  omega

theorem rep_snap {w : World} {i t : Nat} {c b : List UInt8} {cv bv : Value} {g : Nat} (hg : g = w.heap.size) (hi : i < 18446744073709551616) (ht : t < 18446744073709551616) {F : Nat → Prop} (hc : RepB w F c cv) (hb : RepB w F b bv) (hF : ∀ k, F k → k < w.heap.size) {T1 T2 : TypeId} :
    RepVl ((w.alloc (.cells #[.int .u64 (i : Int), .slice none 0 0, .slice none 0 0, .int .u64 (t : Int), .slice none 0 0, .slice none 0 0, .int .u64 0, cv, .slice none 0 0, .int .u64 0, bv, .slice none 0 0] T1)).alloc
      (.cells #[.int .u64 0, .slice none 0 0, .slice (some ⟨g, 0, none⟩) 4 4] T2)) (fun k => k < g + 2) [snV i t c b] (.slice (some ⟨g + 1, 0, none⟩) 1 1) := by
  subst hg
  obtain ⟨W, hW⟩ : ∃ W, W = (w.alloc (.cells #[.int .u64 (i : Int), .slice none 0 0, .slice none 0 0, .int .u64 (t : Int), .slice none 0 0, .slice none 0 0, .int .u64 0, cv, .slice none 0 0, .int .u64 0, bv, .slice none 0 0] T1)).alloc
      (.cells #[.int .u64 0, .slice none 0 0, .slice (some ⟨w.heap.size, 0, none⟩) 4 4] T2) := ⟨_, rfl⟩
  have b0 : W.heap[w.heap.size]? = some (.cells #[.int .u64 (i : Int), .slice none 0 0, .slice none 0 0, .int .u64 (t : Int), .slice none 0 0, .slice none 0 0, .int .u64 0, cv, .slice none 0 0, .int .u64 0, bv, .slice none 0 0] T1) := by
    rw [hW]; exact old_alloc (heap_new w _ _ rfl)
  have b1 : W.heap[w.heap.size + 1]? = some (.cells #[.int .u64 0, .slice none 0 0, .slice (some ⟨w.heap.size, 0, none⟩) 4 4] T2) := by
    rw [hW]; exact heap_new _ _ _ (by simp)
  have hbel : Below w.heap.size w W := by rw [hW]; exact ((Below.refl _ w).alloc (Nat.le_refl _) _).alloc (by simp) _
  have rc : RepB W (fun k => k < w.heap.size + 2) c cv := hc.same (fun k hk => by have := hF k hk; omega) fun k hk => hbel.block k (hF k hk)
  have rb : RepB W (fun k => k < w.heap.size + 2) b bv := hb.same (fun k hk => by have := hF k hk; omega) fun k hk => hbel.block k (hF k hk)
  rw [← hW]
  clear hW hbel hc hb
  have c0 := fun j => cell_of_row W w.heap.size j _ T1 _ b0
  have c1 := fun j => cell_of_row W (w.heap.size + 1) j _ T2 _ b1
  have one : ∀ n : Nat, n < 18446744073709551616 → RepV W (fun k => k < w.heap.size + 2) (.mk n [] []) (.agg #[.int .u64 (n : Int), .slice none 0 0, .slice none 0 0]) := fun n hn =>
    RepV_mk.2 ⟨_, _, rfl, hn, .inl ⟨rfl, Bare.nil⟩, .inl ⟨rfl, Bare.nil⟩⟩
  have two : ∀ (l : List UInt8) (lv : Value), RepB W (fun k => k < w.heap.size + 2) l lv → RepV W (fun k => k < w.heap.size + 2) (.mk 0 l []) (.agg #[.int .u64 0, lv, .slice none 0 0]) := fun l lv hl =>
    RepV_mk.2 ⟨_, _, rfl, by omega, hl, .inl ⟨rfl, Bare.nil⟩⟩
  refine .inr ⟨w.heap.size + 1, 0, 1, rfl, by omega, Nat.le_refl _, by omega, ?_⟩
  refine RepVs.of _ fun k hk => ?_
  obtain rfl : k = 0 := by simpa using hk
  refine ⟨.agg #[.int .u64 0, .slice none 0 0, .slice (some ⟨w.heap.size, 0, none⟩) 4 4], ⟨_, _, _, rfl, c1 0, c1 1, c1 2⟩, ?_⟩
  refine RepV_mk.2 ⟨.slice none 0 0, .slice (some ⟨w.heap.size, 0, none⟩) 4 4, rfl, by omega, .inl ⟨rfl, Bare.nil⟩, .inr ⟨w.heap.size, 0, 4, rfl, by omega, Nat.le_refl _, by omega, ?_⟩⟩
  refine RepVs.of _ fun k hk => ?_
  match k, hk with
  | 0, _ => exact ⟨_, ⟨_, _, _, rfl, c0 0, c0 1, c0 2⟩, one i hi⟩
  | 1, _ => exact ⟨_, ⟨_, _, _, rfl, c0 3, c0 4, c0 5⟩, one t ht⟩
  | 2, _ => exact ⟨_, ⟨_, _, _, rfl, c0 6, c0 7, c0 8⟩, two c cv rc⟩
  | 3, _ => exact ⟨_, ⟨_, _, _, rfl, c0 9, c0 10, c0 11⟩, two b bv rb⟩

theorem RepB.old {w : World} {F : Nat → Prop} {L : List UInt8} {v : Value} (h : RepB w F L v) (hF : ∀ k, F k → k < w.heap.size) : RepB w (fun k => k < w.heap.size) L v := h.weak hF

set_option maxRecDepth 20000 in
set_option maxHeartbeats 3200000 in
theorem ShForm_any (i t : Nat) (c b : List UInt8) (cv bv : Value) (F : Nat → Prop) (w : World) (hi : i < 10000000000) (ht : t < 10000000000) (hc : RepB w F c cv) (hb : RepB w F b bv) (hF : ∀ k, F k → k < w.heap.size) (hl : c.length + b.length ≤ 1000000000) :
    Calls Tryz.prog 77 #[.agg #[.int .i64 (i : Int), .int .i64 (t : Int), cv, bv]] w fun e w' => ∃ u, e = .returned u ∧ Own w (num i ++ (num t ++ (num c.length ++ (c ++ (num b.length ++ b))))) u w' := by
  obtain ⟨ca, cc, rfl, hcz⟩ := hc.slice
  obtain ⟨ba, bc, rfl, hbz⟩ := hb.slice
  have HC := Lib.hid (hc.old hF)
  have HB := Lib.hid (hb.old hF)
  have HL := Lib.hid hl
  obtain ⟨cn, hcn⟩ : ∃ n, n = c.length := ⟨_, rfl⟩
  obtain ⟨bn, hbn⟩ : ∃ n, n = b.length := ⟨_, rfl⟩
  have HP : Hid (∀ (W : World) (g : Nat), g = W.heap.size → Below w.heap.size w W → Calls Tryz.prog 115 #[.string nmSnap, .slice (some ⟨g + 1, 0, none⟩) 1 1] ((W.alloc (.cells #[.int .u64 (i : Int), .slice none 0 0, .slice none 0 0, .int .u64 (t : Int), .slice none 0 0, .slice none 0 0, .int .u64 0, .slice ca cn cc, .slice none 0 0, .int .u64 0, .slice ba bn bc, .slice none 0 0] 132)).alloc
      (.cells #[.int .u64 0, .slice none 0 0, .slice (some ⟨g, 0, none⟩) 4 4] 132)) fun e w' => ∃ v, e = .returned (.tuple #[v, .int .i64 0]) ∧ Own w (num i ++ (num t ++ (num c.length ++ (c ++ (num b.length ++ b))))) v w') := Lib.hid fun W g hg hbl => by
    rw [hcn, hbn]
    have hr := rep_snap (w := W) (i := i) (t := t) (g := g) (T1 := 132) (T2 := 132) hg (by omega) (by omega) (HC.out.same (fun _ h => h) fun k hk => hbl.block k hk) (HB.out.same (fun _ h => h) fun k hk => hbl.block k hk) (fun k hk => Nat.lt_of_lt_of_le hk hbl.size)
    refine (Put_any nmSnap _ _ _ _ (by decide) hr (fun k hk => by simp; omega) (snap_size HL.out)).mono ?_
    rintro e w' ⟨h1, h2⟩
    rw [put_snap] at h2
    obtain ⟨v, rfl, h3⟩ := h2
    have hb2 : Below w.heap.size w ((W.alloc (.cells #[.int .u64 (i : Int), .slice none 0 0, .slice none 0 0, .int .u64 (t : Int), .slice none 0 0, .slice none 0 0, .int .u64 0, .slice ca c.length cc, .slice none 0 0, .int .u64 0, .slice ba b.length bc, .slice none 0 0] 132)).alloc
      (.cells #[.int .u64 0, .slice none 0 0, .slice (some ⟨g, 0, none⟩) 4 4] 132)) := (hbl.alloc hbl.size _).alloc (by simp; have := hbl.size; omega) _
    exact ⟨v, rfl, Own.base ⟨h1, h3⟩ hb2⟩
  rw [← hcn, ← hbn] at *
  clear hc hb hF hl hcn hbn
  obtain ⟨L, hL⟩ : ∃ L, L = num i ++ (num t ++ (num cn ++ (c ++ (num bn ++ b)))) := ⟨_, rfl⟩
  rw [← hL] at HP ⊢
  clear hL
  go_enter Tryz.func77, Tryz.ntmps77
  go_wp2_with fail
  refine (HP.out _ _ (by simp) (below_alloc _ _)).mono ?_
  rintro e w1 ⟨u, rfl, hown⟩
  obtain ⟨ua, uc, rfl⟩ := hown.slice
  have HO := Lib.hid hown
  clear hown
  go_wp2_with fail
  go_ret
  exact ⟨_, rfl, HO.out⟩

set_option maxRecDepth 20000 in
set_option maxHeartbeats 1600000 in
theorem ShBytes_any (x : Sn) (cv bv : Value) (F : Nat → Prop) (w : World) (hx : okSn (x.idx, x.term) = true) (hc : RepB w F x.conf cv) (hb : RepB w F x.body bv) (hF : ∀ k, F k → k < w.heap.size) (hl : x.conf.length + x.body.length ≤ 1000000000) (hT : Hid (Tab w)) :
    Calls Tryz.prog 26 #[snAgg x cv bv] w fun e w' => ∃ u, e = .returned u ∧ Own w (snBytes x) u w' := by
  obtain ⟨xi, xt, c, b⟩ := x
  have hx := okSn_iff.1 hx
  simp only at hx hc hb hl
  obtain ⟨i, rfl⟩ := Int.eq_ofNat_of_zero_le (show 0 ≤ xi by omega)
  obtain ⟨t, rfl⟩ := Int.eq_ofNat_of_zero_le (show 0 ≤ xt by omega)
  have hsn : snForm ⟨(i : Int), (t : Int), c, b⟩ = num i ++ (num t ++ (num c.length ++ (c ++ (num b.length ++ b)))) := by
    unfold snForm
    simp only
    rw [u64_nn (by omega) (by omega), u64_nn (by omega) (by omega)]
    rfl
  have HLL : Hid ((snForm ⟨(i : Int), (t : Int), c, b⟩).length ≤ 1000001000) := Lib.hid (by
    have := snBytes_le ⟨(i : Int), (t : Int), c, b⟩
    unfold snBytes at this
    rw [List.length_append] at this
    simp only at this
    omega)
  unfold snAgg snBytes
  simp only
  obtain ⟨L, hL⟩ : ∃ L, L = snForm ⟨(i : Int), (t : Int), c, b⟩ := ⟨_, rfl⟩
  rw [← hL] at HLL ⊢
  obtain ⟨ca, cc, rfl, hcz⟩ := hc.slice
  obtain ⟨ba, bc, rfl, hbz⟩ := hb.slice
  obtain ⟨cn, hcn⟩ : ∃ n, n = c.length := ⟨_, rfl⟩
  obtain ⟨bn, hbn⟩ : ∃ n, n = b.length := ⟨_, rfl⟩
  rw [← hcn] at hc ⊢
  rw [← hbn] at hb ⊢
  obtain ⟨W, hW⟩ : ∃ W, W = w.alloc (.cells #[.int .i64 (i : Int), .int .i64 (t : Int), .slice ca cn cc, .slice ba bn bc] 53) := ⟨_, rfl⟩
  have HBW : Hid (Below w.heap.size w W) := Lib.hid (by rw [hW]; exact below_alloc _ _)
  have HFW : Hid (Calls Tryz.prog 77 #[.agg #[.int .i64 (i : Int), .int .i64 (t : Int), .slice ca cn cc, .slice ba bn bc]] W fun e w' => ∃ u, e = .returned u ∧ Own W L u w') := Lib.hid (by
    have h := ShForm_any i t c b (.slice ca cn cc) (.slice ba bn bc) F W (by omega) (by omega) (hc.same (fun _ h => h) fun k hk => HBW.out.block k (hF k hk)) (hb.same (fun _ h => h) fun k hk => HBW.out.block k (hF k hk)) (fun k hk => Nat.lt_of_lt_of_le (hF k hk) HBW.out.size) hl
    rw [← hsn, ← hL] at h
    exact h)
  have HW := Lib.hid hW
  clear hc hb hF hl hcn hbn hL hsn hW hx hcz hbz
  go_enter Tryz.func26, Tryz.ntmps26
  go_wp2_with fail
  rw [← HW.out]
  refine HFW.out.mono ?_
  rintro e w1 ⟨u, rfl, hown⟩
  obtain ⟨ua, uc, rfl⟩ := hown.slice
  obtain ⟨ln, hln⟩ : ∃ n, n = L.length := ⟨_, rfl⟩
  rw [← hln] at hown ⊢
  have HO := Lib.hid hown
  have HB1 : Hid (Below w.heap.size w w1) := Lib.hid (HBW.out.trans (hown.1.mono HBW.out.size))
  clear hown
  have HLN := Lib.hid hln
  clear hln
  go_wp2_with fail
  refine (ShSum_any L _ _ w1 HO.out.now (fun _ h => h) (Lib.hid (hT.out.next HB1.out))).mono ?_
  rintro e w2 ⟨g, rfl, hown2⟩
  have HO2 := Lib.hid hown2
  clear hown2
  go_wp2_with (at_builtin; refine wpList_own_append rfl (.tmp 7) (.tmp 8) rfl rfl rfl HO2.out rfl (HO.out.next HO2.out.1).now (by have h1 := HLL.out; have h2 := HLN.out; rw [four_length]; omega) ?_)
  intro v' w' hown3
  obtain ⟨va, vc, rfl⟩ := hown3.slice
  have HO3 := Lib.hid hown3
  clear hown3
  go_wp2_with fail
  go_ret
  exact ⟨_, rfl, HO3.out.base HB1.out⟩
end Go.Proofs.YtbcpcopapbgcdaaGreatDoor.M

/- Part: ShC. -/
namespace Go.Proofs.YtbcpcopapbgcdaaGreatDoor.M
open Go.RowKit
open D (Fl Dk)

theorem take_snap (b : List UInt8) : takeAt nmSnap.data.toList b = match snParts b with
    | .error e => .error e
    | .ok ((x, y, c, d), []) => .ok (snV x y c d)
    | .ok (_, _ :: _) => .error 12 := by
  unfold takeAt
  rw [shape_snap]
  simp only [takeV, takeVs]
  unfold snParts takeB
  cases h1 : takeNum b with
  | error e => rfl
  | ok p =>
    obtain ⟨x, b1⟩ := p
    simp only
    cases h2 : takeNum b1 with
    | error e => rfl
    | ok p =>
      obtain ⟨y, b2⟩ := p
      simp only
      cases h3 : takeNum b2 with
      | error e => rfl
      | ok p =>
        obtain ⟨n, b3⟩ := p
        simp only
        by_cases h4 : b3.length < n
        · simp only [if_pos h4]
        · simp only [if_neg h4]
          cases h5 : takeNum (b3.drop n) with
          | error e => rfl
          | ok p =>
            obtain ⟨m, b4⟩ := p
            simp only
            by_cases h6 : b4.length < m
            · simp only [if_pos h6]
            · simp only [if_neg h6]
              cases h7 : b4.drop m <;> rfl

theorem takeB_err {b : List UInt8} {e : Int} (h : takeB b = .error e) : e = 11 ∨ e = 13 := by
  unfold takeB at h
  cases h1 : takeNum b with
  | error e => rw [h1] at h; cases h; exact takeNum_error h1
  | ok p =>
    obtain ⟨n, r⟩ := p
    rw [h1] at h
    simp only at h
    split at h
    · cases h; exact .inl rfl
    · cases h

theorem snParts_err {b : List UInt8} {e : Int} (h : snParts b = .error e) : e = 11 ∨ e = 13 := by
  unfold snParts at h
  cases h1 : takeNum b with
  | error e => rw [h1] at h; cases h; exact takeNum_error h1
  | ok p =>
    obtain ⟨x, b1⟩ := p
    rw [h1] at h
    simp only at h
    cases h2 : takeNum b1 with
    | error e => rw [h2] at h; cases h; exact takeNum_error h2
    | ok p =>
      obtain ⟨y, b2⟩ := p
      rw [h2] at h
      simp only at h
      cases h3 : takeB b2 with
      | error e => rw [h3] at h; cases h; exact takeB_err h3
      | ok p =>
        obtain ⟨c, b3⟩ := p
        rw [h3] at h
        simp only at h
        cases h4 : takeB b3 with
        | error e => rw [h4] at h; cases h; exact takeB_err h4
        | ok p => rw [h4] at h; cases h

/-- What Take answers, and what comes of it. -/
theorem take_two (b : List UInt8) : (∃ e : Int, takeAt nmSnap.data.toList b = .error e ∧ snTake b = .error e ∧ (e = 11 ∨ e = 12 ∨ e = 13)) ∨
    (∃ x y c d, takeAt nmSnap.data.toList b = .ok (snV x y c d) ∧ snTake b = if 1 ≤ x ∧ x < 10000000000 ∧ 1 ≤ y ∧ y < 10000000000 then .ok ⟨x, y, c, d⟩ else .error 13) := by
  rw [take_snap]
  unfold snTake
  cases h : snParts b with
  | error e => exact .inl ⟨e, rfl, rfl, by rcases snParts_err h with h | h <;> simp [h]⟩
  | ok p =>
    obtain ⟨⟨x, y, c, d⟩, r⟩ := p
    cases r with
    | nil => exact .inr ⟨x, y, c, d, rfl, rfl⟩
    | cons a r => exact .inl ⟨12, rfl, rfl, by simp⟩

theorem snTake_err {b : List UInt8} {e : Int} (h : snTake b = .error e) : e = 11 ∨ e = 12 ∨ e = 13 := by
  rcases take_two b with ⟨c, -, h1, h2⟩ | ⟨x, y, c, d, -, h1⟩
  · rw [h1] at h; cases h; exact h2
  · rw [h1] at h
    split at h
    · cases h
    · cases h; simp

theorem snParse_err {b : List UInt8} {e : Int} (h : snParse b = .error e) : e = 11 ∨ e = 51 ∨ e = 12 ∨ e = 13 := by
  unfold snParse at h
  split at h
  · cases h; simp
  · split at h
    · cases h; simp
    · rcases snTake_err h with h | h | h <;> simp [h]

theorem rep_snV {w : World} {F : Nat → Prop} {x y : Nat} {c d : List UInt8} {u : Value} (h : RepV w F (snV x y c d) u) :
    ∃ a0 c0 b off cp u1 u2, u = .agg #[.int .u64 0, .slice a0 0 c0, .slice (some ⟨b, off, none⟩) 4 cp] ∧ F b ∧ x < 18446744073709551616 ∧ y < 18446744073709551616 ∧
      w.cell? ⟨b, off, none⟩ = some (.int .u64 (x : Int)) ∧ w.cell? ⟨b, off + 3, none⟩ = some (.int .u64 (y : Int)) ∧ w.cell? ⟨b, off + 7, none⟩ = some u1 ∧ w.cell? ⟨b, off + 10, none⟩ = some u2 ∧ RepB w F c u1 ∧ RepB w F d u2 := by
  unfold snV at h
  obtain ⟨vb, vl, rfl, -, hvb, hl⟩ := RepV_mk.1 h
  obtain ⟨a0, c0, rfl, -⟩ := hvb.slice
  rcases hl with ⟨h, -⟩ | ⟨b, off, cp, hv, hb, h1, h2, hl⟩
  · cases h
  · have one : ∀ (n : Nat) (o : Nat) (u : Value), At3 w b o u → RepV w F (.mk n [] []) u → n < 18446744073709551616 ∧ w.cell? ⟨b, o, none⟩ = some (.int .u64 (n : Int)) := fun n o u ha hr => by
      obtain ⟨p, q, r, rfl, a0, -, -⟩ := ha
      obtain ⟨vb, vl, he, hn, -, -⟩ := RepV_mk.1 hr
      simp only [Value.agg.injEq, Array.mk.injEq, List.cons.injEq] at he
      exact ⟨hn, by rw [a0, he.1]⟩
    have two : ∀ (l : List UInt8) (o : Nat) (u : Value), At3 w b o u → RepV w F (.mk 0 l []) u → ∃ z, w.cell? ⟨b, o + 1, none⟩ = some z ∧ RepB w F l z := fun l o u ha hr => by
      obtain ⟨p, q, r, rfl, -, a1, -⟩ := ha
      obtain ⟨vb, vl, he, -, hz, -⟩ := RepV_mk.1 hr
      simp only [Value.agg.injEq, Array.mk.injEq, List.cons.injEq] at he
      exact ⟨q, a1, by rw [he.2.1]; exact hz⟩
    obtain ⟨u0, a0, r0⟩ := RepVs.get _ hl 0 (by simp)
    obtain ⟨u1, a1, r1⟩ := RepVs.get _ hl 1 (by simp)
    obtain ⟨u2, a2, r2⟩ := RepVs.get _ hl 2 (by simp)
    obtain ⟨u3, a3, r3⟩ := RepVs.get _ hl 3 (by simp)
    have e0 := one x _ _ a0 r0
    have e1 := one y _ _ a1 r1
    obtain ⟨z2, e2, f2⟩ := two c _ _ a2 r2
    obtain ⟨z3, e3, f3⟩ := two d _ _ a3 r3
    subst hv
    exact ⟨_, _, b, off, cp, z2, z3, rfl, hb, e0.1, e1.1, e0.2, e1.2, e2, e3, f2, f3⟩

/-- What a reading answers. -/
def SnPost (w : World) (r : Except Int Sn) (e : Ending) (w' : World) : Prop :=
  Below w.heap.size w w' ∧ match r with
  | .error c => e = .returned (.tuple #[snAgg Sn.zero (.slice none 0 0) (.slice none 0 0), .int .i64 c])
  | .ok x => ∃ u1 u2, e = .returned (.tuple #[snAgg x u1 u2, .int .i64 0]) ∧ RepB w' (fun k => w.heap.size ≤ k ∧ k < w'.heap.size) x.conf u1 ∧ RepB w' (fun k => w.heap.size ≤ k ∧ k < w'.heap.size) x.body u2

/-- An index beyond the ints is below 0. -/
theorem wrap_big {x : Nat} (h : 9223372036854775808 ≤ x) (h2 : x < 18446744073709551616) : IntKind.i64.wrap (x : Int) = (x : Int) - 18446744073709551616 := by
  simp [IntKind.wrap, IntKind.signed, IntKind.bits]
  omega
end Go.Proofs.YtbcpcopapbgcdaaGreatDoor.M

/- Part: ShD. -/
namespace Go.Proofs.YtbcpcopapbgcdaaGreatDoor.M
open Go.RowKit
open D (Fl Dk)

theorem okSn_false {a b : Int} (h : ¬ (1 ≤ a ∧ a < 10000000000 ∧ 1 ≤ b ∧ b < 10000000000)) : okSn (a, b) = false := by unfold okSn; exact decide_eq_false h
theorem okSn_true {a b : Int} (h : 1 ≤ a ∧ a < 10000000000 ∧ 1 ≤ b ∧ b < 10000000000) : okSn (a, b) = true := by unfold okSn; exact decide_eq_true h

theorem wrap_ok {x y : Nat} (hx : x < 18446744073709551616) (hy : y < 18446744073709551616) :
    okSn (IntKind.i64.wrap (x : Int), IntKind.i64.wrap (y : Int)) = decide (1 ≤ x ∧ x < 10000000000 ∧ 1 ≤ y ∧ y < 10000000000) := by
  have e : ∀ z : Nat, z < 18446744073709551616 → (IntKind.i64.wrap (z : Int) = (z : Int) ∧ z < 9223372036854775808) ∨ (IntKind.i64.wrap (z : Int) < 0 ∧ 9223372036854775808 ≤ z) := fun z hz => by
    by_cases h : z < 9223372036854775808
    · exact .inl ⟨IntWalk.i64_in _ (by omega), h⟩
    · exact .inr ⟨by rw [wrap_big (by omega) hz]; omega, by omega⟩
  unfold okSn
  rw [decide_eq_decide]
  rcases e x hx with ⟨h1, h2⟩ | ⟨h1, h2⟩ <;> rcases e y hy with ⟨h3, h4⟩ | ⟨h3, h4⟩ <;> (first | rw [h1, h3] | skip) <;> simp only <;> omega

theorem wrap_same {x : Nat} (h : x < 10000000000) : IntKind.i64.wrap (x : Int) = (x : Int) := IntWalk.i64_in _ (by omega)

theorem heap_fourS {w : World} {g : Nat} {x0 x1 x2 x3 y0 y1 y2 y3 : Value} {t : TypeId} (h : w.heap[g]? = some (.cells #[x0, x1, x2, x3] t)) :
    ((((w.setCell ⟨g, 0, none⟩ y0).setCell ⟨g, 1, none⟩ y1).setCell ⟨g, 2, none⟩ y2).setCell ⟨g, 3, none⟩ y3).heap[g]? = some (.cells #[y0, y1, y2, y3] t) := by
  simp [World.setCell, Array.getElem?_modify, h]

set_option maxRecDepth 20000 in
set_option maxHeartbeats 3200000 in
theorem ShTake_any (L : List UInt8) (F : Nat → Prop) (v : Value) (w : World) (hv : RepB w F L v) (hF : ∀ k, F k → k < w.heap.size) (hl : L.length ≤ 1099511627776) :
    Calls Tryz.prog 75 #[v] w (SnPost w (snTake L)) := by
  obtain ⟨W, hW⟩ : ∃ W, W = w.alloc (.cells #[.int .i64 0, .int .i64 0, .slice none 0 0, .slice none 0 0] 53) := ⟨_, rfl⟩
  have hb0 : Below w.heap.size w W := by rw [hW]; exact below_alloc _ _
  have HB0 := Lib.hid hb0
  have hx0 : W.heap[w.heap.size]? = some (.cells #[.int .i64 0, .int .i64 0, .slice none 0 0, .slice none 0 0] 53) := by rw [hW]; exact heap_new _ _ _ rfl
  have HX0 := Lib.hid hx0
  have hcall := Take_any nmSnap L F v W (by decide) (hv.same (fun _ h => h) fun k hk => hb0.block k (hF k hk)) (fun k hk => Nat.lt_of_lt_of_le (hF k hk) hb0.size) hl
  have HC := Lib.hid hcall
  obtain ⟨va, vc, rfl, hvl⟩ := hv.slice
  have HT := Lib.hid (take_two L)
  obtain ⟨R, hR⟩ : ∃ R, R = snTake L := ⟨_, rfl⟩
  obtain ⟨T, hT⟩ : ∃ T, T = takeAt nmSnap.data.toList L := ⟨_, rfl⟩
  rw [← hR, ← hT] at HT
  rw [← hT] at HC
  rw [← hR]
  have HW := Lib.hid hW
  clear hv hF hl hW hb0 hx0 hcall hR hT
  go_enter Tryz.func75, Tryz.ntmps75
  go_wp2_with fail
  rw [← HW.out]
  refine HC.out.mono ?_
  rintro e w1 ⟨hb1, hr⟩
  have HB1 : Hid (Below w.heap.size w w1) := Lib.hid (HB0.out.trans (hb1.mono HB0.out.size))
  have HX1 := Lib.hid (old_below HX0.out hb1)
  rcases HT.out with ⟨c, hT, hR, hc⟩ | ⟨x, y, cL, dL, hT, hR⟩
  · rw [hT] at hr
    simp only at hr
    subst hr hT hR
    have hne : (c != 0) = true := by rcases hc with h | h | h <;> simp [h]
    clear HT hb1 hc
    obtain ⟨c0, c1, c2, c3, f0, f1, f2, f3, cz⟩ := sh_four HX1.out
    go_wp2_with fail
    refine bodyPost_ret (v := .tuple #[.agg #[.int .i64 0, .int .i64 0, .slice none 0 0, .slice none 0 0], .int .i64 c]) (by simp [results, Tryz.results75, go_sem, c0, c1, c2, c3, cz]) rfl ?_
    refine ⟨?_, rfl⟩
    have hz := HB1.out.size
    exact ((((HB1.out.setCell (by simp) _).setCell (by simp) _).setCell (by simp) _).setCell (by simp) _).alloc (by simp; omega) _
  · rw [hT] at hr
    simp only at hr
    obtain ⟨u, rfl, hu⟩ := hr
    have HR := Lib.hid hR
    subst hT
    clear hR
    obtain ⟨a0, c0, b, off, cp, u1, u2, rfl, hFb, hx, hy, e0, e1, e2, e3, r1, r2⟩ := rep_snV hu
    obtain ⟨u1a, u1c, rfl, -⟩ := r1.slice
    obtain ⟨u2a, u2c, rfl, -⟩ := r2.slice
    have R1 := Lib.hid r1
    have R2 := Lib.hid r2
    have hbz := hFb.2
    have hxw := wrap_ok hx hy
    obtain ⟨W2, hW2⟩ : ∃ W2, W2 = w1.alloc (.cells #[.int .u64 0, .slice a0 0 c0, .slice (some ⟨b, off, none⟩) 4 cp] 132) := ⟨_, rfl⟩
    have hb2 : Below w1.heap.size w1 W2 := by rw [hW2]; exact below_alloc _ _
    have hx2 : W2.heap[w1.heap.size]? = some (.cells #[.int .u64 0, .slice a0 0 c0, .slice (some ⟨b, off, none⟩) 4 cp] 132) := by rw [hW2]; exact heap_new _ _ _ rfl
    have HB2 : Hid (Below w.heap.size w W2) := Lib.hid (HB1.out.trans (hb2.mono HB1.out.size))
    have HX2 := Lib.hid (old_below HX1.out hb2)
    have h2c := cell_of_row W2 w1.heap.size 2 _ _ _ hx2
    have h2z := lt_of_heap hx2
    have cw : ∀ j, W2.cell? ⟨b, j, none⟩ = w1.cell? ⟨b, j, none⟩ := fun j => hb2.cell (p := ⟨b, j, none⟩) hbz
    have hbz2 : b < W2.heap.size := Nat.lt_of_lt_of_le hbz hb2.size
    have l0 : ∀ w', Below W2.heap.size W2 w' → w'.cell? ⟨w1.heap.size, 2, none⟩ = some (.slice (some ⟨b, off, none⟩) 4 cp) := fun w' hw' => (hw'.cell h2z).trans h2c
    have l1 : ∀ w', Below W2.heap.size W2 w' → w'.cell? ⟨b, off, none⟩ = some (.int .u64 (x : Int)) := fun w' hw' => (hw'.cell hbz2).trans ((cw _).trans e0)
    have l2 : ∀ w', Below W2.heap.size W2 w' → w'.cell? ⟨b, off + 3, none⟩ = some (.int .u64 (y : Int)) := fun w' hw' => (hw'.cell hbz2).trans ((cw _).trans e1)
    have l3 : ∀ w', Below W2.heap.size W2 w' → w'.cell? ⟨b, off + 6 + 1, none⟩ = some (.slice u1a cL.length u1c) := fun w' hw' => (hw'.cell hbz2).trans ((cw _).trans e2)
    have l4 : ∀ w', Below W2.heap.size W2 w' → w'.cell? ⟨b, off + 9 + 1, none⟩ = some (.slice u2a dL.length u2c) := fun w' hw' => (hw'.cell hbz2).trans ((cw _).trans e3)
    have HW2 := Lib.hid hW2
    have hS : Below W2.heap.size W2 W2.drew := (Below.refl _ _).drew
    obtain ⟨xi, hxi⟩ : ∃ xi, xi = IntKind.i64.wrap (x : Int) := ⟨_, rfl⟩
    obtain ⟨yi, hyi⟩ : ∃ yi, yi = IntKind.i64.wrap (y : Int) := ⟨_, rfl⟩
    obtain ⟨cn, hcn⟩ : ∃ n, n = cL.length := ⟨_, rfl⟩
    obtain ⟨dn, hdn⟩ : ∃ n, n = dL.length := ⟨_, rfl⟩
    rw [← hxi, ← hyi] at hxw
    rw [← hcn] at l3
    rw [← hdn] at l4
    have HXI := Lib.hid hxi
    have HYI := Lib.hid hyi
    have HCN := Lib.hid hcn
    have HDN := Lib.hid hdn
    clear HT hu r1 r2 hb1 hb2 hx2 h2c cw e0 e1 e2 e3 hW2 hFb hxi hyi hcn hdn
    go_wp2_with fail
    rw [← HW2.out]
    refine wp_region_held (S := fun w' => Below W2.heap.size W2 w') (by kernel_rfl) ?_
    refine H_take (i := 0) (v := ?_) rfl (by as_aux_lemma => kernel_rfl) (by as_aux_lemma => kernel_rfl) (by as_aux_lemma => kernel_rfl) (fun _ _ _ h => h) (by rfl) hS ?_ ?_
    rotate_left
    · intro w' hw'; go_simp; with_reducible rfl
    go_simp
    refine H_take (i := 1) (v := ?_) rfl (by as_aux_lemma => kernel_rfl) (by as_aux_lemma => kernel_rfl) (by as_aux_lemma => kernel_rfl) (fun _ _ _ h => h) (by rfl) hS ?_ ?_
    rotate_left
    · intro w' hw'; go_simp; with_reducible rfl
    go_simp
    refine H_take (i := 2) (v := ?_) rfl (by as_aux_lemma => kernel_rfl) (by as_aux_lemma => kernel_rfl) (by as_aux_lemma => kernel_rfl) (fun _ _ _ h => h) (by rfl) hS ?_ ?_
    rotate_left
    · intro w' hw'; go_simp; with_reducible rfl
    go_simp
    refine H_take (i := 3) (v := ?_) rfl (by as_aux_lemma => kernel_rfl) (by as_aux_lemma => kernel_rfl) (by as_aux_lemma => kernel_rfl) (fun _ _ _ h => h) (by rfl) hS ?_ ?_
    rotate_left
    · intro w' hw'; go_simp; with_reducible rfl
    go_simp
    refine H_take (i := 4) (v := ?_) rfl (by as_aux_lemma => kernel_rfl) (by as_aux_lemma => kernel_rfl) (by as_aux_lemma => kernel_rfl) (fun _ _ _ h => h) (by rfl) hS ?_ ?_
    rotate_left
    · intro w' hw'; go_simp; with_reducible rfl
    go_simp
    refine H_take (i := 5) (v := ?_) rfl (by as_aux_lemma => kernel_rfl) (by as_aux_lemma => kernel_rfl) (by as_aux_lemma => kernel_rfl) (fun _ _ _ h => h) (by rfl) hS ?_ ?_
    rotate_left
    · intro w' hw'; go_simp; with_reducible rfl
    go_simp
    refine H_take (i := 6) (v := ?_) rfl (by as_aux_lemma => kernel_rfl) (by as_aux_lemma => kernel_rfl) (by as_aux_lemma => kernel_rfl) (fun _ _ _ h => h) (by rfl) hS ?_ ?_
    rotate_left
    · intro w' hw'; go_simp; with_reducible rfl
    go_simp
    refine H_take (i := 7) (v := ?_) rfl (by as_aux_lemma => kernel_rfl) (by as_aux_lemma => kernel_rfl) (by as_aux_lemma => kernel_rfl) (fun _ _ _ h => h) (by rfl) hS ?_ ?_
    rotate_left
    · intro w' hw'; go_simp; with_reducible rfl
    go_simp
    refine H_take (i := 8) (v := ?_) rfl (by as_aux_lemma => kernel_rfl) (by as_aux_lemma => kernel_rfl) (by as_aux_lemma => kernel_rfl) (fun _ _ _ h => h) (by rfl) hS ?_ ?_
    rotate_left
    · intro w' hw'; go_simp; with_reducible rfl
    go_simp
    refine H_take (i := 9) (v := ?_) rfl (by as_aux_lemma => kernel_rfl) (by as_aux_lemma => kernel_rfl) (by as_aux_lemma => kernel_rfl) (fun _ _ _ h => h) (by rfl) hS ?_ ?_
    rotate_left
    · intro w' hw'; go_simp; with_reducible rfl
    go_simp
    refine H_take (i := 10) (v := ?_) rfl (by as_aux_lemma => kernel_rfl) (by as_aux_lemma => kernel_rfl) (by as_aux_lemma => kernel_rfl) (fun _ _ _ h => h) (by rfl) hS ?_ ?_
    rotate_left
    · intro w' hw'; go_simp; with_reducible rfl
    go_simp
    refine H_take (i := 11) (v := ?_) rfl (by as_aux_lemma => kernel_rfl) (by as_aux_lemma => kernel_rfl) (by as_aux_lemma => kernel_rfl) (fun _ _ _ h => h) (by rfl) hS ?_ ?_
    rotate_left
    · intro w' hw'; go_simp; with_reducible rfl
    go_simp
    refine H_take (i := 12) (v := ?_) rfl (by as_aux_lemma => kernel_rfl) (by as_aux_lemma => kernel_rfl) (by as_aux_lemma => kernel_rfl) (fun _ _ _ h => h) (by rfl) hS ?_ ?_
    rotate_left
    · intro w' hw'; go_simp; with_reducible rfl
    go_simp
    refine H_take (i := 13) (v := ?_) rfl (by as_aux_lemma => kernel_rfl) (by as_aux_lemma => kernel_rfl) (by as_aux_lemma => kernel_rfl) (fun _ _ _ h => h) (by rfl) hS ?_ ?_
    rotate_left
    · intro w' hw'; go_simp; with_reducible rfl
    go_simp
    refine H_take (i := 14) (v := ?_) rfl (by as_aux_lemma => kernel_rfl) (by as_aux_lemma => kernel_rfl) (by as_aux_lemma => kernel_rfl) (fun _ _ _ h => h) (by rfl) hS ?_ ?_
    rotate_left
    · intro w' hw'; go_simp; with_reducible rfl
    go_simp
    refine H_take (i := 15) (v := ?_) rfl (by as_aux_lemma => kernel_rfl) (by as_aux_lemma => kernel_rfl) (by as_aux_lemma => kernel_rfl) (fun _ _ _ h => h) (by rfl) hS ?_ ?_
    rotate_left
    · intro w' hw'; go_simp; with_reducible rfl
    go_simp
    refine H_take (i := 16) (v := ?_) rfl (by as_aux_lemma => kernel_rfl) (by as_aux_lemma => kernel_rfl) (by as_aux_lemma => kernel_rfl) (fun _ _ _ h => h) (by rfl) hS ?_ ?_
    rotate_left
    · intro w' hw'; go_simp; with_reducible rfl
    go_simp
    refine H_take (i := 17) (v := ?_) rfl (by as_aux_lemma => kernel_rfl) (by as_aux_lemma => kernel_rfl) (by as_aux_lemma => kernel_rfl) (fun _ _ _ h => h) (by rfl) hS ?_ ?_
    rotate_left
    · intro w' hw'; go_simp; with_reducible rfl
    go_simp
    refine H_take (i := 18) (v := ?_) rfl (by as_aux_lemma => kernel_rfl) (by as_aux_lemma => kernel_rfl) (by as_aux_lemma => kernel_rfl) (fun _ _ _ h => h) (by rfl) hS ?_ ?_
    rotate_left
    · intro w' hw'; go_simp; with_reducible rfl
    go_simp
    refine H_take (i := 19) (v := ?_) rfl (by as_aux_lemma => kernel_rfl) (by as_aux_lemma => kernel_rfl) (by as_aux_lemma => kernel_rfl) (fun _ _ _ h => h) (by rfl) hS ?_ ?_
    rotate_left
    · intro w' hw'; go_simp; with_reducible rfl
    go_simp
    refine H_take (i := 20) (v := ?_) rfl (by as_aux_lemma => kernel_rfl) (by as_aux_lemma => kernel_rfl) (by as_aux_lemma => kernel_rfl) (fun _ _ _ h => h) (by rfl) hS ?_ ?_
    rotate_left
    · intro w' hw'; go_simp; with_reducible rfl
    go_simp
    refine H_take (i := 21) (v := ?_) rfl (by as_aux_lemma => kernel_rfl) (by as_aux_lemma => kernel_rfl) (by as_aux_lemma => kernel_rfl) (fun _ _ _ h => h) (by rfl) hS ?_ ?_
    rotate_left
    · intro w' hw'; go_simp; with_reducible rfl
    go_simp
    refine H_take (i := 22) (v := ?_) rfl (by as_aux_lemma => kernel_rfl) (by as_aux_lemma => kernel_rfl) (by as_aux_lemma => kernel_rfl) (fun _ _ _ h => h) (by rfl) hS ?_ ?_
    rotate_left
    · intro w' hw'; go_simp; with_reducible rfl
    go_simp
    refine H_take (i := 23) (v := ?_) rfl (by as_aux_lemma => kernel_rfl) (by as_aux_lemma => kernel_rfl) (by as_aux_lemma => kernel_rfl) (fun _ _ _ h => h) (by rfl) hS ?_ ?_
    rotate_left
    · intro w' hw'; go_simp; with_reducible rfl
    go_simp
    refine H_one (i := 24) (by as_aux_lemma => kernel_rfl) rfl (by rfl) ?_
    go_simp
    have hS3 : Below W2.heap.size W2 (W2.alloc (.cells #[.int .i64 0, .int .i64 0, .slice none 0 0, .slice none 0 0] 53)).drew := (below_alloc _ _).drew
    refine ⟨hS3, ?_⟩
    rw [← HXI.out, ← HYI.out]
    have hx3 : (W2.alloc (.cells #[.int .i64 0, .int .i64 0, .slice none 0 0, .slice none 0 0] 53)).drew.heap[W2.heap.size]? = some (.cells #[.int .i64 0, .int .i64 0, .slice none 0 0, .slice none 0 0] 53) := heap_alloc_new _ _
    obtain ⟨W3, hW3⟩ : ∃ W3, W3 = (W2.alloc (.cells #[.int .i64 0, .int .i64 0, .slice none 0 0, .slice none 0 0] 53)).drew := ⟨_, rfl⟩
    rw [← hW3] at hS3 hx3 ⊢
    clear hW3 hS
    obtain ⟨d0, d1, d2, d3, k0, k1, k2, k3, dz⟩ := sh_four hx3
    refine H_one (i := 25) (by as_aux_lemma => kernel_rfl) rfl (by rfl) ?_
    go_simp
    obtain ⟨W4, hW4⟩ : ∃ W4, W4 = (((W3.setCell ⟨W2.heap.size, 0, none⟩ (.int .i64 xi)).setCell ⟨W2.heap.size, 1, none⟩ (.int .i64 yi)).setCell ⟨W2.heap.size, 2, none⟩ (.slice u1a cn u1c)).setCell ⟨W2.heap.size, 3, none⟩ (.slice u2a dn u2c) := ⟨_, rfl⟩
    have hS4 : Below W2.heap.size W2 W4 := by rw [hW4]; exact (((hS3.setCell (Nat.le_refl _) _).setCell (Nat.le_refl _) _).setCell (Nat.le_refl _) _).setCell (Nat.le_refl _) _
    have hx4 : W4.heap[W2.heap.size]? = some (.cells #[.int .i64 xi, .int .i64 yi, .slice u1a cn u1c, .slice u2a dn u2c] 53) := by rw [hW4]; exact heap_fourS hx3
    rw [← hW4]
    refine ⟨hS4, ?_⟩
    refine wpAnyH_done (by as_aux_lemma => kernel_rfl) ?_ _
    have HB4 : Hid (Below w.heap.size w W4) := Lib.hid (HB2.out.trans (hS4.mono HB2.out.size))
    have HX4 := Lib.hid hx4
    have HR4 : Hid (W4.heap[w.heap.size]? = some (.cells #[.int .i64 0, .int .i64 0, .slice none 0 0, .slice none 0 0] 53)) := Lib.hid (old_below HX2.out hS4)
    have HRB : Hid (∀ (l : List UInt8) (u : Value) (w' : World), RepB w1 (fun b => W.heap.size ≤ b ∧ b < w1.heap.size) l u → Only (fun k => k = w.heap.size ∨ w1.heap.size ≤ k) W4 w' → RepB w' (fun k => w.heap.size ≤ k ∧ k < w'.heap.size) l u) := Lib.hid fun l u w' h ho => h.same (fun k hk => ⟨Nat.le_trans HB0.out.size hk.1, by
        have h1 := hS4.size
        have h2 := ho.size
        have h3 : w1.heap.size ≤ W2.heap.size := by rw [HW2.out]; simp
        omega⟩) fun k hk => by
      have h0 : w.heap.size < W.heap.size := by rw [HW.out]; simp
      have h1 := hS4.size
      have h3 : w1.heap.size ≤ W2.heap.size := by rw [HW2.out]; simp
      rw [ho.block k (by omega) (by omega), hS4.block k (by omega), HW2.out]
      exact Below.heap_alloc _ _ _ hk.2
    have hz4 : W2.heap.size < W4.heap.size := lt_of_heap hx4
    have HZ12 : Hid (w1.heap.size ≤ W2.heap.size) := Lib.hid (by rw [HW2.out]; simp)
    obtain ⟨e0, e1, e2, e3, -, -, -, -, ez⟩ := sh_four hx4
    clear hW4 hS4 hx4 hS3 hx3 d0 d1 d2 d3 k0 k1 k2 k3 dz l0 l1 l2 l3 l4 h2z hbz hbz2 hz4
    go_wp2_with fail
    refine (ShMark_any xi yi W4).mono ?_
    rintro e w5 ⟨rfl, hb5⟩
    rw [hxw]
    have HB5 := Lib.hid hb5
    obtain ⟨c0, c1, c2, c3, f0, f1, f2, f3, cz⟩ := sh_four (old_below HR4.out hb5)
    obtain ⟨g0, g1, g2, g3, -, -, -, -, gz⟩ := sh_four (old_below HX4.out hb5)
    have HB45 : Hid (Below w.heap.size w w5) := Lib.hid (HB4.out.trans (hb5.mono HB4.out.size))
    clear hb5 e0 e1 e2 e3 ez
    by_cases hok : 1 ≤ x ∧ x < 10000000000 ∧ 1 ≤ y ∧ y < 10000000000
    · have HR1 := HR.out
      rw [if_pos hok] at HR1
      have hd : decide (1 ≤ x ∧ x < 10000000000 ∧ 1 ≤ y ∧ y < 10000000000) = true := decide_eq_true hok
      rw [hd]
      have hxe : xi = (x : Int) := by rw [HXI.out]; exact wrap_same hok.2.1
      have hye : yi = (y : Int) := by rw [HYI.out]; exact wrap_same hok.2.2.2
      have HRR := Lib.hid HR1
      have HXE := Lib.hid hxe
      have HYE := Lib.hid hye
      clear HR1 hd hok hxe hye hxw hx hy
      go_wp2_with fail
      refine bodyPost_ret (v := .tuple #[.agg #[.int .i64 xi, .int .i64 yi, .slice u1a cn u1c, .slice u2a dn u2c], .int .i64 0]) (by simp [results, Tryz.results75, go_sem, c0, c1, c2, c3, cz]) rfl ?_
      rw [HRR.out]
      have hbf := (((HB45.out.setCell (p := ⟨w.heap.size, 0, none⟩) (by simp) (.int .i64 xi)).setCell (p := ⟨w.heap.size, 1, none⟩) (by simp) (.int .i64 yi)).setCell (p := ⟨w.heap.size, 2, none⟩) (by simp) (.slice u1a cn u1c)).setCell (p := ⟨w.heap.size, 3, none⟩) (by simp) (.slice u2a dn u2c)
      have hof : Only (fun k => k = w.heap.size ∨ w1.heap.size ≤ k) W4 ((((w5.setCell ⟨w.heap.size, 0, none⟩ (.int .i64 xi)).setCell ⟨w.heap.size, 1, none⟩ (.int .i64 yi)).setCell ⟨w.heap.size, 2, none⟩ (.slice u1a cn u1c)).setCell ⟨w.heap.size, 3, none⟩ (.slice u2a dn u2c)) :=
        ((((Only.of_below HB5.out).set (.inl (.inl rfl)) _).set (.inl (.inl rfl)) _).set (.inl (.inl rfl)) _).set (.inl (.inl rfl)) _
      refine ⟨hbf, _, _, ?_, HRB.out _ _ _ R1.out hof, HRB.out _ _ _ R2.out hof⟩
      unfold snAgg
      rw [HXE.out, HYE.out, HCN.out, HDN.out]
    · have HR1 := HR.out
      rw [if_neg hok] at HR1
      have hd : decide (1 ≤ x ∧ x < 10000000000 ∧ 1 ≤ y ∧ y < 10000000000) = false := decide_eq_false hok
      rw [hd]
      have HRR := Lib.hid HR1
      clear HR1 hd hok hxw hx hy
      go_wp2_with fail
      refine bodyPost_ret (v := .tuple #[.agg #[.int .i64 0, .int .i64 0, .slice none 0 0, .slice none 0 0], .int .i64 13]) (by simp [results, Tryz.results75, go_sem, c0, c1, c2, c3, cz]) rfl ?_
      rw [HRR.out]
      refine ⟨?_, rfl⟩
      exact (((HB45.out.setCell (by simp) _).setCell (by simp) _).setCell (by simp) _).setCell (by simp) _
end Go.Proofs.YtbcpcopapbgcdaaGreatDoor.M

/- Part: ShE. -/
namespace Go.Proofs.YtbcpcopapbgcdaaGreatDoor.M
open Go.RowKit
open D (Fl Dk)

theorem SnPost.base {w W : World} {r : Except Int Sn} {e : Ending} {w' : World} (h : SnPost W r e w') (hb : Below w.heap.size w W) : SnPost w r e w' := by
  obtain ⟨h1, h2⟩ := h
  have hz := hb.size
  refine ⟨hb.trans (h1.mono hz), ?_⟩
  cases r with
  | error c => exact h2
  | ok x =>
    obtain ⟨u1, u2, he, r1, r2⟩ := h2
    exact ⟨u1, u2, he, r1.weak fun k hk => ⟨by omega, hk.2⟩, r2.weak fun k hk => ⟨by omega, hk.2⟩⟩

/-- What a reading answered stands when an elder block beside it has turned. -/
theorem SnPost.after {w w1 : World} {r : Except Int Sn} {e : Ending} {w3 w4 : World} (h : SnPost w1 r e w3) (hb : Below w.heap.size w w1) (hz : w.heap.size < w1.heap.size) (ho : Only (fun k => k = w.heap.size) w3 w4) : SnPost w r e w4 := by
  obtain ⟨h1, h2⟩ := h
  have h31 := h1.size
  have h43 := ho.size
  have h3 := hb.trans (h1.mono (Nat.le_of_lt hz))
  refine ⟨⟨ho.os.trans h3.os, ho.tape.trans h3.tape, ho.output.trans h3.output, Nat.le_trans h3.size ho.size, fun k hk => (ho.block k (by omega) (by omega)).trans (h3.block k hk)⟩, ?_⟩
  cases r with
  | error c => exact h2
  | ok x =>
    obtain ⟨u1, u2, he, r1, r2⟩ := h2
    exact ⟨u1, u2, he, r1.same (fun k hk => ⟨by omega, by omega⟩) fun k hk => ho.block k hk.2 (by omega), r2.same (fun k hk => ⟨by omega, by omega⟩) fun k hk => ho.block k hk.2 (by omega)⟩

theorem SnPost.form {w : World} {r : Except Int Sn} {e : Ending} {w' : World} (h : SnPost w r e w') : ∃ (x : Sn) (c : Int) (a1 : Option Addr) (n1 c1 : Nat) (a2 : Option Addr) (n2 c2 : Nat), e = .returned (.tuple #[.agg #[.int .i64 x.idx, .int .i64 x.term, .slice a1 n1 c1, .slice a2 n2 c2], .int .i64 c]) ∧
    (∀ (w2 : World), Below w'.heap.size w' w2 → SnPost w r e w2) := by
  have hn : ∀ (w2 : World), Below w'.heap.size w' w2 → SnPost w r e w2 := fun w2 hb => by
    obtain ⟨h1, h2⟩ := h
    refine ⟨h1.trans (hb.mono h1.size), ?_⟩
    cases r with
    | error c => exact h2
    | ok x =>
      obtain ⟨u1, u2, he, r1, r2⟩ := h2
      have hz := hb.size
      exact ⟨u1, u2, he, r1.same (fun k hk => ⟨hk.1, by omega⟩) fun k hk => hb.block k hk.2, r2.same (fun k hk => ⟨hk.1, by omega⟩) fun k hk => hb.block k hk.2⟩
  cases r with
  | error c => exact ⟨Sn.zero, c, none, 0, 0, none, 0, 0, h.2, hn⟩
  | ok x =>
    obtain ⟨h1, u1, u2, he, r1, r2⟩ := h
    obtain ⟨a1, c1, rfl, -⟩ := r1.slice
    obtain ⟨a2, c2, rfl, -⟩ := r2.slice
    exact ⟨x, 0, a1, _, c1, a2, _, c2, he, hn⟩

set_option maxRecDepth 20000 in
set_option maxHeartbeats 3200000 in
theorem ShParse_any (L : List UInt8) (F : Nat → Prop) (v : Value) (w : World) (hv : RepB w F L v) (hF : ∀ k, F k → k < w.heap.size) (hl : L.length ≤ 1099511627776) (hT : Hid (Tab w)) :
    Calls Tryz.prog 23 #[v] w (SnPost w (snParse L)) := by
  obtain ⟨W, hW⟩ : ∃ W, W = w.alloc (.cells #[.int .i64 0, .int .i64 0, .slice none 0 0, .slice none 0 0] 53) := ⟨_, rfl⟩
  have hb0 : Below w.heap.size w W := by rw [hW]; exact below_alloc _ _
  have HB0 := Lib.hid hb0
  have hx0 : W.heap[w.heap.size]? = some (.cells #[.int .i64 0, .int .i64 0, .slice none 0 0, .slice none 0 0] 53) := by rw [hW]; exact heap_new _ _ _ rfl
  have HX0 := Lib.hid hx0
  have HV : Hid (RepB W (fun k => k < w.heap.size) L v) := Lib.hid (hv.same hF fun k hk => hb0.block k (hF k hk))
  have HTW : Hid (Tab W) := Lib.hid (hT.out.next hb0)
  obtain ⟨R, hR⟩ : ∃ R, R = snParse L := ⟨_, rfl⟩
  rw [← hR]
  have HR := Lib.hid hR
  have HW := Lib.hid hW
  have HL := Lib.hid hl
  obtain ⟨va, vc, rfl, hvl⟩ := hv.slice
  obtain ⟨n, hn⟩ : ∃ n, n = L.length := ⟨_, rfl⟩
  have HN := Lib.hid hn
  rw [← hn] at HV hvl ⊢
  clear hv hF hb0 hx0 hR hW hl hn
  by_cases h4 : n < 4
  · have h4i : (n : Int) < 4 := by omega
    have HE : Hid (R = .error 11) := Lib.hid (by rw [HR.out]; unfold snParse; rw [if_pos (by have := HN.out; omega)])
    clear h4
    obtain ⟨c0, c1, c2, c3, f0, f1, f2, f3, cz⟩ := sh_four HX0.out
    go_enter Tryz.func23, Tryz.ntmps23
    go_wp2_with fail
    rw [← HW.out]
    go_wp2_with fail
    refine bodyPost_ret (v := .tuple #[.agg #[.int .i64 0, .int .i64 0, .slice none 0 0, .slice none 0 0], .int .i64 11]) (by simp [results, Tryz.results23, go_sem, c0, c1, c2, c3, cz]) rfl ?_
    rw [HE.out]
    refine ⟨?_, rfl⟩
    first
      | exact HB0.out
      | exact (((HB0.out.setCell (p := ⟨w.heap.size, 0, none⟩) (Nat.le_refl _) _).setCell (p := ⟨w.heap.size, 1, none⟩) (Nat.le_refl _) _).setCell (p := ⟨w.heap.size, 2, none⟩) (Nat.le_refl _) _).setCell (p := ⟨w.heap.size, 3, none⟩) (Nat.le_refl _) _
  · have h4i : decide ((n : Int) < 4) = false := by simp; omega
    have h4b : (4 : Int) ≤ (n : Int) := by omega
    obtain ⟨b, off, rfl, hbz, hnc, hcm, hat⟩ : ∃ b off, va = some ⟨b, off, none⟩ ∧ b < w.heap.size ∧ n ≤ vc ∧ vc ≤ 9223372036854775807 ∧ ∀ (j : Nat) (hj : j < L.length), W.cell? ⟨b, off + j, none⟩ = some (.int .u8 (L[j].toNat : Int)) := by
      rcases HV.out with ⟨h, -⟩ | ⟨b, off, c', he, hb, h1, h2, hc⟩
      · have := HN.out
        rw [h] at this
        simp at this
        omega
      · cases he
        exact ⟨b, off, rfl, hb, by omega, h2, hc⟩
    have HAT := Lib.hid hat
    have HTK : Hid (∀ w' : World, Below W.heap.size W w' → RepB w' (fun k => k < w'.heap.size) (L.take 4) (.slice (some ⟨b, off, none⟩) 4 vc)) := Lib.hid fun w' hw' =>
      (HV.out.take 4 (by have := HN.out; omega)).same (fun k hk => Nat.lt_of_lt_of_le hk (Nat.le_trans HB0.out.size hw'.size)) fun k hk => hw'.block k (Nat.lt_of_lt_of_le hk HB0.out.size)
    have HDR : Hid (∀ w' : World, Below W.heap.size W w' → RepB w' (fun k => k < w'.heap.size) (L.drop 4) (.slice (if vc = 4 then some ⟨b, off, none⟩ else some ⟨b, off + 4, none⟩) (n - 4) (vc - 4))) := Lib.hid fun w' hw' => by
      have h := RepB.dropAt (w := W) (F := fun k => k < w.heap.size) (L := L) (b := b) (off := off) (c := vc) hbz HAT.out (by have := HN.out; omega) (by have := HN.out; omega) hcm
      rw [← HN.out] at h
      exact h.same (fun k hk => Nat.lt_of_lt_of_le hk (Nat.le_trans HB0.out.size hw'.size)) fun k hk => hw'.block k (Nat.lt_of_lt_of_le hk HB0.out.size)
    have h4c : (4 : Int) ≤ (vc : Int) := by omega
    have hS : Below W.heap.size W W.drew := (Below.refl _ _).drew
    clear hat h4 hbz
    go_enter Tryz.func23, Tryz.ntmps23
    go_wp2_with fail
    rw [← HW.out]
    refine wp_region_held (S := fun w' => Below W.heap.size W w') (by kernel_rfl) ?_
    refine H_take (i := 0) (v := ?_) rfl (by as_aux_lemma => kernel_rfl) (by as_aux_lemma => kernel_rfl) (by as_aux_lemma => kernel_rfl) (fun _ _ _ h => h) (by rfl) hS ?_ ?_
    rotate_left
    · intro w' hw'; go_simp; with_reducible rfl
    go_simp
    refine H_take (i := 1) (v := ?_) rfl (by as_aux_lemma => kernel_rfl) (by as_aux_lemma => kernel_rfl) (by as_aux_lemma => kernel_rfl) (fun _ _ _ h => h) (by rfl) hS ?_ ?_
    rotate_left
    · intro w' hw'; go_simp; with_reducible rfl
    go_simp
    refine H_take (i := 2) (v := ?_) rfl (by as_aux_lemma => kernel_rfl) (by as_aux_lemma => kernel_rfl) (by as_aux_lemma => kernel_rfl) (fun _ _ _ h => h) (by rfl) hS ?_ ?_
    rotate_left
    · intro w' hw'; go_simp; with_reducible rfl
    go_simp
    refine H_take (i := 3) (v := ?_) rfl (by as_aux_lemma => kernel_rfl) (by as_aux_lemma => kernel_rfl) (by as_aux_lemma => kernel_rfl) (fun _ _ _ h => h) (by rfl) hS ?_ ?_
    rotate_left
    · intro w' hw'; go_simp; with_reducible rfl
    go_simp
    refine H_take (i := 4) (v := ?_) rfl (by as_aux_lemma => kernel_rfl) (by as_aux_lemma => kernel_rfl) (by as_aux_lemma => kernel_rfl) (fun _ _ _ h => h) (by rfl) hS ?_ ?_
    rotate_left
    · intro w' hw'; go_simp; with_reducible rfl
    go_simp
    refine H_take (i := 5) (v := ?_) rfl (by as_aux_lemma => kernel_rfl) (by as_aux_lemma => kernel_rfl) (by as_aux_lemma => kernel_rfl) (fun _ _ _ h => h) (by rfl) hS ?_ ?_
    rotate_left
    · intro w' hw'; go_simp; with_reducible rfl
    go_simp
    refine wpAnyH_done (by as_aux_lemma => kernel_rfl) ?_ _
    obtain ⟨sa, hsa⟩ : ∃ sa, sa = (if vc = 4 then some (⟨b, off, none⟩ : Addr) else some ⟨b, off + 4, none⟩) := ⟨_, rfl⟩
    rw [← hsa] at HDR ⊢
    clear hsa
    have HBR : Hid (Below w.heap.size w W.drew) := Lib.hid (HB0.out.trans (hS.mono HB0.out.size))
    have HSD := Lib.hid hS
    clear hS
    go_wp2_with fail
    refine (ShSum_any (L.drop 4) _ _ W.drew (HDR.out _ HSD.out) (fun _ h => h) (Lib.hid (hT.out.next HBR.out))).mono ?_
    rintro e w1 ⟨g, rfl, hown⟩
    have HO := Lib.hid hown
    have HS1 : Hid (Below W.heap.size W w1) := Lib.hid (HSD.out.trans (hown.1.mono HSD.out.size))
    have HB1 : Hid (Below w.heap.size w w1) := Lib.hid (HB0.out.trans (HS1.out.mono HB0.out.size))
    clear hown
    go_wp2_with fail
    refine (bytes_Equal (fun k => k < w1.heap.size) (L.take 4) (four (C.sumOf (L.drop 4))) _ _ w1 (HTK.out _ HS1.out) HO.out.now).mono ?_
    rintro e w2 ⟨rfl, rfl⟩
    have hx1 := old_below HX0.out HS1.out
    obtain ⟨c0, c1, c2, c3, f0, f1, f2, f3, cz⟩ := sh_four hx1
    cases htb : (L.take 4 == four (C.sumOf (L.drop 4))) with
    | false =>
      have HE : Hid (R = .error 51) := Lib.hid (by
        rw [HR.out]
        unfold snParse
        rw [if_neg (by have := HN.out; omega), if_pos (by intro h; rw [h] at htb; simp at htb)])
      clear htb
      go_wp2_with fail
      refine bodyPost_ret (v := .tuple #[.agg #[.int .i64 0, .int .i64 0, .slice none 0 0, .slice none 0 0], .int .i64 51]) (by simp [results, Tryz.results23, go_sem, c0, c1, c2, c3, cz]) rfl ?_
      rw [HE.out]
      refine ⟨?_, rfl⟩
      first
        | exact HB1.out
        | exact (((HB1.out.setCell (p := ⟨w.heap.size, 0, none⟩) (Nat.le_refl _) _).setCell (p := ⟨w.heap.size, 1, none⟩) (Nat.le_refl _) _).setCell (p := ⟨w.heap.size, 2, none⟩) (Nat.le_refl _) _).setCell (p := ⟨w.heap.size, 3, none⟩) (Nat.le_refl _) _
    | true =>
      have HE : Hid (R = snTake (L.drop 4)) := Lib.hid (by
        rw [HR.out]
        unfold snParse
        rw [if_neg (by have := HN.out; omega), if_neg (by
          intro h
          exact h (by simpa using htb))])
      clear htb
      have HCT := Lib.hid (ShTake_any (L.drop 4) _ _ w1 (HDR.out _ HS1.out) (fun _ h => h) (by rw [List.length_drop]; have := HL.out; omega))
      rw [← HE.out] at HCT
      clear c0 c1 c2 c3 f0 f1 f2 f3 cz hx1
      have HX1 := Lib.hid (old_below HX0.out HS1.out)
      go_wp2_with fail
      refine HCT.out.mono ?_
      intro e w3 hp
      obtain ⟨x, c, a1, n1, c1, a2, n2, c2, rfl, hn3⟩ := hp.form
      have HP := Lib.hid hp
      have HB3 : Hid (Below w.heap.size w w3) := Lib.hid (HB1.out.trans (hp.1.mono HB1.out.size))
      obtain ⟨d0, d1, d2, d3, f0, f1, f2, f3, cz⟩ := sh_four (old_below HX1.out hp.1)
      obtain ⟨xi, xt, xc, xb⟩ := x
      simp only at HP
      have HBW1 : Hid (w.heap.size < w1.heap.size) := Lib.hid (lt_of_heap HX1.out)
      clear hp hn3
      simp only
      go_wp2_with fail
      refine bodyPost_ret (v := .tuple #[.agg #[.int .i64 xi, .int .i64 xt, .slice a1 n1 c1, .slice a2 n2 c2], .int .i64 c]) (by simp [results, Tryz.results23, go_sem, d0, d1, d2, d3, cz]) rfl ?_
      exact SnPost.after HP.out HB1.out HBW1.out (((((Only.refl (fun k => k = w.heap.size) w3).set (g := w.heap.size) (j := 0) (.inl rfl) (.int .i64 xi)).set (g := w.heap.size) (j := 1) (.inl rfl) (.int .i64 xt)).set (g := w.heap.size) (j := 2) (.inl rfl) (.slice a1 n1 c1)).set (g := w.heap.size) (j := 3) (.inl rfl) (.slice a2 n2 c2))
end Go.Proofs.YtbcpcopapbgcdaaGreatDoor.M
