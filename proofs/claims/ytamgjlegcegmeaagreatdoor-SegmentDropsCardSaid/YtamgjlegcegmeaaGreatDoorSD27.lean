/- Small things about bytes and disks in memory that the layers above lean on. Package hard: a sum as four bytes; a slot's bytes. -/
import Derived.Test.YtamgjlegcegmeaaGreatDoorSD25
import Derived.Test.YtamgjlegcegmeaaGreatDoorSD23
import Derived.Test.YtamgjlegcegmeaaGreatDoorSD26
import Derived.Test.YtamgjlegcegmeaaGreatDoorSD24
import Derived.Test.YtamgjlegcegmeaaGreatDoorSD9
/- Part: DiskMore. -/
namespace Go.Proofs.YtamgjlegcegmeaaGreatDoor.M
open Go.RowKit Go.Maps
open D (Fl Dk)

theorem RepB.elem2 {w : World} {F : Nat → Prop} {L : List UInt8} {a : Option Addr} {n c : Nat} (h : RepB w F L (.slice a n c)) {i : Nat} (hi : i < L.length) :
    ∃ b off, a = some ⟨b, off, none⟩ ∧ F b ∧ ∀ (j : Nat) (hj : j < L.length), w.cell? ⟨b, off + j, none⟩ = some (.int .u8 (L[j].toNat : Int)) := by
  rcases h with ⟨h, _⟩ | ⟨b, off, c', h, hb, _, _, hc⟩
  · rw [h] at hi; simp at hi
  · cases h
    exact ⟨b, off, rfl, hb, hc⟩

theorem bytes_le (fs : List Fl) (s : ByteArray) : (bytesOf fs s).length ≤ D.used fs := by
  unfold bytesOf
  cases h : fs.find? (fun f => decide (f.nm = s)) with
  | none => simp
  | some f => exact D.used_mem (List.mem_of_find?_eq_some h)

theorem RepB.drop4 {w : World} {F : Nat → Prop} {L : List UInt8} {g c : Nat} (hF : F g) (hc : ∀ (j : Nat) (hj : j < L.length), w.cell? ⟨g, j, none⟩ = some (.int .u8 (L[j].toNat : Int))) (h4 : 4 ≤ L.length) (hl : L.length ≤ c) (hm : c ≤ 9223372036854775807) :
    RepB w F (L.drop 4) (.slice (if c = 4 then some ⟨g, 0, none⟩ else some ⟨g, 4, none⟩) (L.length - 4) (c - 4)) := by
  by_cases h : c = 4
  · rw [if_pos h]
    have e : L.length = 4 := by omega
    refine .inl ⟨List.drop_of_length_le (by omega), _, c - 4, by rw [e], by omega, fun h => by cases h⟩
  · rw [if_neg h]
    refine .inr ⟨g, 4, c - 4, by rw [List.length_drop], hF, by rw [List.length_drop]; omega, by omega, fun i hi => ?_⟩
    have := hc (4 + i) (by rw [List.length_drop] at hi; omega)
    rw [this]
    simp

theorem block2 {w : World} {g : Nat} {x y : Value} {t : TypeId} (h : w.heap[g]? = some (.cells #[x, y] t)) :
    w.cell? ⟨g, 0, none⟩ = some x ∧ w.cell? ⟨g, 1, none⟩ = some y ∧ w.frozen? ⟨g, 0, none⟩ = false ∧ w.frozen? ⟨g, 1, none⟩ = false ∧ g < w.heap.size :=
  ⟨cell_of_row w g 0 _ t _ h, cell_of_row w g 1 _ t _ h, frozen_of_row w g 0 _ t h, frozen_of_row w g 1 _ t h, lt_of_heap h⟩

theorem DS.tab {w wr : World} {X : Nat → Prop} {gd : Nat} {d : Dk} (h : DS w X gd d wr) (hT : Hid (Tab w)) : Hid (Tab wr) := Lib.hid (hT.out.next h.below)

/-- What a call leaves, with what was done ahead of it. -/
theorem DPost.after {w : World} {X X1 : Nat → Prop} {gd : Nat} {wr w1 : World} {r : Int × Dk} {e : Ending} {w' : World} (ho : Only X wr w1) (hX : ∀ k, X1 k → X k ∨ wr.heap.size ≤ k) (hp : DPost w X1 gd w1 r e w') : DPost w X gd wr r e w' := by
  obtain ⟨he, h1, X', h2, h3⟩ := hp
  refine ⟨he, ⟨h1.os.trans ho.os, h1.tape.trans ho.tape, h1.output.trans ho.output, Nat.le_trans ho.size h1.size, fun k hk hn => ?_⟩, X', fun k hk => ?_, h3⟩
  · rw [h1.block k (Nat.lt_of_lt_of_le hk ho.size) fun hx => by
      rcases hX k hx with h | h
      · exact hn h
      · omega]
    exact ho.block k hk hn
  · rcases h2 k hk with h | h
    · exact hX k h
    · exact .inr (Nat.le_trans ho.size h)

/-- Bytes of a row of its own, told to a call. -/
theorem DS.told {w wr : World} {X : Nat → Prop} {gd : Nat} {d : Dk} (h : DS w X gd d wr) {L : List UInt8} {v : Value} (hv : RepB wr (fun k => k < wr.heap.size ∧ ¬ X k) L v) (t : TypeId) {W : World} (hW : W = wr.alloc (.cells #[v] t)) :
    DS w X gd d W ∧ RepBl W (fun b => (b < wr.heap.size ∧ ¬ X b) ∨ b = wr.heap.size) [L] (.slice (some ⟨wr.heap.size, 0, none⟩) 1 1) ∧ ∀ k, ((k < wr.heap.size ∧ ¬ X k) ∨ k = wr.heap.size) → k < W.heap.size ∧ ¬ X k := by
  subst hW
  refine ⟨h.alloc _, RepBl.one hv rfl (fun k hk => hk.1), fun k hk => ⟨by rcases hk with hk | hk <;> (simp; omega), fun hx => by
    have := h.lt k hx
    rcases hk with hk | hk
    · exact hk.2 hx
    · omega⟩⟩

theorem DS.set {w wr : World} {X : Nat → Prop} {gd : Nat} {d : Dk} (h : DS w X gd d wr) {g j : Nat} {v : Value} (hg : w.heap.size ≤ g) (hX : ¬ X g) : DS w X gd d (wr.setCell ⟨g, j, none⟩ v) :=
  ⟨h.below.setCell hg v, h.own, ⟨h.dsk.1.same (fun _ h => h) fun k hk => Below.heap_setCell _ _ _ _ (fun e => hX (by rw [← show k = g from e]; exact hk)), fun k hk => by rw [World.size_setCell]; exact h.dsk.2 k hk⟩, h.well⟩

theorem RepI.nil {w : World} {F : Nat → Prop} : RepI w F [] (.slice none 0 0) := .inl ⟨rfl, Bare.nil⟩

theorem Own.base {w w1 w2 : World} {L : List UInt8} {v : Value} (h : Own w1 L v w2) (hb : Below w.heap.size w w1) : Own w L v w2 := by
  have hz := hb.size
  refine ⟨hb.trans (h.1.mono hz), h.2.1, ?_⟩
  rcases h.2.2 with h1 | ⟨g, cap, cur, h1, h2, h3⟩
  · exact .inl h1
  · exact .inr ⟨g, cap, cur, h1, by omega, h3⟩

theorem Own.far {w wr : World} {L : List UInt8} {v : Value} (h : Own w L v wr) {g j : Nat} (hg : w.heap.size ≤ g) (hn : v.ownBlock ≠ some g) (x : Value) : Own w L v (wr.setCell ⟨g, j, none⟩ x) :=
  ⟨h.1.setCell hg _, ownsRow_same h.2 fun k hk => Below.heap_setCell _ _ _ _ (by
    show k ≠ g
    intro e
    exact hn (e ▸ hk))⟩

theorem RepB.take {w : World} {F : Nat → Prop} {L : List UInt8} {a : Option Addr} {n c : Nat} (h : RepB w F L (.slice a n c)) (m : Nat) (hm : m ≤ L.length) : RepB w F (L.take m) (.slice a m c) := by
  rcases h with ⟨rfl, a', c', hv, hc, hn⟩ | ⟨b, off, c', hv, hb, hl, hmx, hc⟩
  · cases hv
    have : m = 0 := by simpa using hm
    subst this
    exact .inl ⟨rfl, a, c, rfl, hc, hn⟩
  · cases hv
    have e : (L.take m).length = m := by simp; omega
    refine .inr ⟨b, off, c, by rw [e], hb, by omega, hmx, fun i hi => ?_⟩
    rw [hc i (by omega)]
    simp

theorem RepB.dropAt {w : World} {F : Nat → Prop} {L : List UInt8} {b off c : Nat} (hF : F b) (hc : ∀ (j : Nat) (hj : j < L.length), w.cell? ⟨b, off + j, none⟩ = some (.int .u8 (L[j].toNat : Int))) (h4 : 4 ≤ L.length) (hl : L.length ≤ c) (hm : c ≤ 9223372036854775807) :
    RepB w F (L.drop 4) (.slice (if c = 4 then some ⟨b, off, none⟩ else some ⟨b, off + 4, none⟩) (L.length - 4) (c - 4)) := by
  by_cases h : c = 4
  · rw [if_pos h]
    have e : L.length = 4 := by omega
    refine .inl ⟨List.drop_of_length_le (by omega), _, c - 4, by rw [e], by omega, fun h => by cases h⟩
  · rw [if_neg h]
    refine .inr ⟨b, off + 4, c - 4, by rw [List.length_drop], hF, by rw [List.length_drop]; omega, by omega, fun i hi => ?_⟩
    have := hc (4 + i) (by rw [List.length_drop] at hi; omega)
    rw [Nat.add_assoc, this]
    simp
end Go.Proofs.YtamgjlegcegmeaaGreatDoor.M

/- Part: PHard2. -/
namespace Go.Proofs.YtamgjlegcegmeaaGreatDoor.M
open Go.RowKit

/-- A sum's four bytes as a value. -/
def fourV (cs : Nat) : Value := .agg #[.int .u8 ((cs : Int) / 16777216), .int .u8 ((cs : Int) / 65536 % 256), .int .u8 ((cs : Int) / 256 % 256), .int .u8 ((cs : Int) % 256)]

def slotV (c : Nat) (s : Int × Int) : Value := .agg #[.int .i64 (c : Int), .int .i64 s.1, .int .i64 s.2]

def nmRow : ByteArray := ⟨#[91, 110, 110, 110, 93]⟩

theorem shape_row : shape nmRow.data.toList = some (.row [.num, .num, .num]) := by kernel_rfl

def rowOf (c t v : Nat) : V := .mk 0 [] [.mk c [] [], .mk t [] [], .mk v [] []]

theorem put_row (c t v : Nat) : putAll nmRow.data.toList [rowOf c t v] = .ok (num c ++ (num t ++ num v)) := by
  unfold putAll
  rw [shape_row]
  simp only
  rw [if_pos (by simp [rowOf, isV, isVs, V.l])]
  simp [rowOf, putV, putVs, V.l, V.n]

theorem rep_row {w : World} {c t v : Nat} {g : Nat} (hg : g = w.heap.size) (hc : c < 18446744073709551616) (ht : t < 18446744073709551616) (hv : v < 18446744073709551616) {T1 T2 : TypeId} :
    RepVl ((w.alloc (.cells #[.int .u64 (c : Int), .slice none 0 0, .slice none 0 0, .int .u64 (t : Int), .slice none 0 0, .slice none 0 0, .int .u64 (v : Int), .slice none 0 0, .slice none 0 0] T1)).alloc
      (.cells #[.int .u64 0, .slice none 0 0, .slice (some ⟨g, 0, none⟩) 3 3] T2)) (fun k => g ≤ k ∧ k < g + 2) [rowOf c t v] (.slice (some ⟨g + 1, 0, none⟩) 1 1) := by
  subst hg
  obtain ⟨W, hW⟩ : ∃ W, W = (w.alloc (.cells #[.int .u64 (c : Int), .slice none 0 0, .slice none 0 0, .int .u64 (t : Int), .slice none 0 0, .slice none 0 0, .int .u64 (v : Int), .slice none 0 0, .slice none 0 0] T1)).alloc
      (.cells #[.int .u64 0, .slice none 0 0, .slice (some ⟨w.heap.size, 0, none⟩) 3 3] T2) := ⟨_, rfl⟩
  have b0 : W.heap[w.heap.size]? = some (.cells #[.int .u64 (c : Int), .slice none 0 0, .slice none 0 0, .int .u64 (t : Int), .slice none 0 0, .slice none 0 0, .int .u64 (v : Int), .slice none 0 0, .slice none 0 0] T1) := by
    rw [hW]; exact old_alloc (heap_new w _ _ rfl)
  have b1 : W.heap[w.heap.size + 1]? = some (.cells #[.int .u64 0, .slice none 0 0, .slice (some ⟨w.heap.size, 0, none⟩) 3 3] T2) := by
    rw [hW]; exact heap_new _ _ _ (by simp)
  rw [← hW]
  clear hW
  have c0 := fun j => cell_of_row W w.heap.size j _ T1 _ b0
  have c1 := fun j => cell_of_row W (w.heap.size + 1) j _ T2 _ b1
  have one : ∀ n : Nat, n < 18446744073709551616 → RepV W (fun k => w.heap.size ≤ k ∧ k < w.heap.size + 2) (.mk n [] []) (.agg #[.int .u64 (n : Int), .slice none 0 0, .slice none 0 0]) := fun n hn =>
    RepV_mk.2 ⟨_, _, rfl, hn, .inl ⟨rfl, Bare.nil⟩, .inl ⟨rfl, Bare.nil⟩⟩
  refine .inr ⟨w.heap.size + 1, 0, 1, rfl, ⟨by omega, by omega⟩, Nat.le_refl _, by omega, ?_⟩
  refine RepVs.of _ fun i hi => ?_
  obtain rfl : i = 0 := by simpa using hi
  refine ⟨.agg #[.int .u64 0, .slice none 0 0, .slice (some ⟨w.heap.size, 0, none⟩) 3 3], ⟨_, _, _, rfl, c1 0, c1 1, c1 2⟩, ?_⟩
  refine RepV_mk.2 ⟨.slice none 0 0, .slice (some ⟨w.heap.size, 0, none⟩) 3 3, rfl, by omega, .inl ⟨rfl, Bare.nil⟩, .inr ⟨w.heap.size, 0, 3, rfl, ⟨by omega, by omega⟩, Nat.le_refl _, by omega, ?_⟩⟩
  refine RepVs.of _ fun i hi => ?_
  match i, hi with
  | 0, _ => exact ⟨_, ⟨_, _, _, rfl, c0 0, c0 1, c0 2⟩, one c hc⟩
  | 1, _ => exact ⟨_, ⟨_, _, _, rfl, c0 3, c0 4, c0 5⟩, one t ht⟩
  | 2, _ => exact ⟨_, ⟨_, _, _, rfl, c0 6, c0 7, c0 8⟩, one v hv⟩

theorem row_size (c t v : Nat) : vsizes [rowOf c t v] ≤ 1099511627776 := by
  simp [vsizes, vsize, rowOf]

end Go.Proofs.YtamgjlegcegmeaaGreatDoor.M
