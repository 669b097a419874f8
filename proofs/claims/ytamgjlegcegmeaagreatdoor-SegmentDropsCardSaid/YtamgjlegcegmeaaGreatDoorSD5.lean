/- Bytes in memory, rows of bytes that a call makes, blocks that stand: what each text of mine leans on. How shapes and values of package mould lie in memory. -/
import Derived.Test.YtamgjlegcegmeaaGreatDoorRows
import Derived.Test.YtamgjlegcegmeaaGreatDoorSD4
import Derived.WalkSpells
import Derived.Laws.BytesArg
import Derived.Lib.Hide
import Derived.Test.YtamgjlegcegmeaaGreatDoorSD3
/- Part: Bytes. -/
namespace Go.Proofs.YtamgjlegcegmeaaGreatDoor.M
open Go.RowKit

theorem grown_of_below {w w' : World} (h : Below w.heap.size w w') : w.grownBy w' none := ⟨h.os, h.tape, h.output, h.size, fun k hk _ => h.block k hk⟩

theorem heap_new (w : World) (o : Obj) (k : Nat) (h : k = w.heap.size) : (w.alloc o).heap[k]? = some o := by subst h; exact heap_alloc_new w o

/-- A block that is there stays what it is when another one is made. -/
theorem old_alloc {w : World} {x : Obj} {k : Nat} {o : Obj} (h : w.heap[k]? = some o) : (w.alloc x).heap[k]? = some o := by
  have hk : k < w.heap.size := (Array.getElem?_eq_some_iff.1 h).1
  have := Below.heap_alloc w x k hk
  rw [this]; exact h

theorem old_set {w : World} {a : Addr} {v : Value} {k : Nat} {o : Obj} (h : w.heap[k]? = some o) (hk : k ≠ a.block) : (w.setCell a v).heap[k]? = some o := by
  rw [Below.heap_setCell w a v k hk]; exact h

theorem old_below {w w' : World} {k : Nat} {o : Obj} (h : w.heap[k]? = some o) (hb : Below w.heap.size w w') : w'.heap[k]? = some o := by
  rw [hb.block k (Array.getElem?_eq_some_iff.1 h).1]; exact h

theorem lt_of_heap {w : World} {k : Nat} {o : Obj} (h : w.heap[k]? = some o) : k < w.heap.size := (Array.getElem?_eq_some_iff.1 h).1

/-- What is as it was behind one new block is as it was ahead of it. -/
theorem below_behind {w w' : World} {o : Obj} (h : Below (w.heap.size + 1) (w.alloc o) w') : Below w.heap.size w w' :=
  ((Below.refl _ _).alloc (Nat.le_refl _) o).trans (h.mono (by omega))

theorem owned_slice {w : World} {base t size n : Nat} {v : Value} {xs : List Value} (h : w.ownsRow base t size v n xs) : ∃ a c, v = .slice a n c := by
  obtain ⟨_, h | ⟨g, cap, cur, hv, _⟩⟩ := h
  · exact ⟨none, 0, by rw [h.1, h.2]⟩
  · exact ⟨_, _, hv⟩

/-- A block that a row is not in stands as it stood when that row has grown. -/
theorem grown_keeps {w w' : World} {base t size n : Nat} {v : Value} {xs : List Value} {k : Nat} {o : Obj} (h : w.ownsRow base t size v n xs) (hg : w.grownBy w' v.ownBlock)
    (hk : k < base) (ho : w.heap[k]? = some o) : w'.heap[k]? = some o := by
  rw [hg.block k (lt_of_heap ho) ?_]
  · exact ho
  · intro h1
    have := (h.lt k h1.symm).1
    omega

/-- A slice value without an element, wherever it points. -/
def Bare (v : Value) : Prop := ∃ a c, v = .slice a 0 c ∧ c ≤ 9223372036854775807 ∧ (a = none → c = 0)

theorem Bare.nil : Bare (.slice none 0 0) := ⟨none, 0, rfl, by omega, fun _ => rfl⟩

theorem Bare.at {a : Addr} {c : Nat} (h : c ≤ 9223372036854775807) : Bare (.slice (some a) 0 c) := ⟨some a, c, rfl, h, fun h => by cases h⟩

/-- Bytes in memory: a slice value that reads as a list. All of its memory lies in a block of F. -/
def RepB (w : World) (F : Nat → Prop) (L : List UInt8) (v : Value) : Prop :=
  (L = [] ∧ Bare v) ∨ ∃ b off c, v = .slice (some ⟨b, off, none⟩) L.length c ∧ F b ∧ L.length ≤ c ∧ c ≤ 9223372036854775807 ∧
    ∀ (i : Nat) (h : i < L.length), w.cell? ⟨b, off + i, none⟩ = some (.int .u8 (L[i].toNat : Int))

theorem RepB.same {w w' : World} {F G : Nat → Prop} (hF : ∀ k, F k → G k) (hw : ∀ k, F k → w'.heap[k]? = w.heap[k]?) {L : List UInt8} {v : Value} (h : RepB w F L v) : RepB w' G L v := by
  rcases h with h | ⟨b, off, c, hv, hb, hl, hm, hc⟩
  · exact .inl h
  · exact .inr ⟨b, off, c, hv, hF b hb, hl, hm, fun i hi => by rw [World.cell?_of_block (by exact hw b hb)]; exact hc i hi⟩

theorem below_alloc (w : World) (o : Obj) : Below w.heap.size w (w.alloc o) := (Below.refl _ _).alloc (Nat.le_refl _) o

theorem infoByte : (Tryz.prog.info? 5).map (fun i => (i.zero, i.size, i.bytes)) = some (some (.int .u8 0), 1, 1) := by kernel_rfl

def byteV (b : UInt8) : Value := .int .u8 (b.toNat : Int)

/-- A row of bytes that a call makes longer: what may have turned since the world w0, where v0 was the row. -/
def Acc (w0 : World) (B : Nat) (v0 : Value) (w : World) (v : Value) (L : List UInt8) : Prop :=
  w.ownsRow B 5 1 v L.length (L.map byteV) ∧ w0.grownBy w v0.ownBlock ∧ (v.ownBlock = v0.ownBlock ∨ ∃ g, v.ownBlock = some g ∧ w0.heap.size ≤ g)

theorem Acc.start {w : World} {B : Nat} {v : Value} {L : List UInt8} (h : w.ownsRow B 5 1 v L.length (L.map byteV)) : Acc w B v w v L :=
  ⟨h, ⟨rfl, rfl, rfl, Nat.le_refl _, fun _ _ _ => rfl⟩, .inl rfl⟩

theorem Acc.trans {w0 w1 w2 : World} {B : Nat} {v0 v1 v2 : Value} {L1 L2 : List UInt8} (h1 : Acc w0 B v0 w1 v1 L1) (h2 : Acc w1 B v1 w2 v2 L2) : Acc w0 B v0 w2 v2 L2 := by
  obtain ⟨_, g1, o1⟩ := h1
  obtain ⟨a2, g2, o2⟩ := h2
  refine ⟨a2, ⟨g2.os.trans g1.os, g2.tape.trans g1.tape, g2.output.trans g1.output, Nat.le_trans g1.size g2.size, fun k hk hn => ?_⟩, ?_⟩
  · rw [g2.block k (Nat.lt_of_lt_of_le hk g1.size) ?_, g1.block k hk hn]
    rcases o1 with o1 | ⟨g, o1, hg⟩
    · rw [o1]; exact hn
    · rw [o1]; intro h; simp at h; omega
  · rcases o2 with o2 | ⟨g, o2, hg⟩
    · rw [o2]; exact o1
    · exact .inr ⟨g, o2, Nat.le_trans g1.size hg⟩

theorem Acc.alloc {w0 w1 : World} {B : Nat} {v0 v1 : Value} {L1 : List UInt8} (h1 : Acc w0 B v0 w1 v1 L1) (o : Obj) : Acc w0 B v0 (w1.alloc o) v1 L1 :=
  h1.trans ⟨h1.1.alloc o, World.grownBy_alloc _ _ _, .inl rfl⟩

/-- One byte more, from a new block of one cell. -/
theorem Acc.push {w0 w1 w2 : World} {B : Nat} {v0 v1 v2 : Value} {L1 : List UInt8} {b : UInt8} {o : Obj} {xs : List Value} {n : Nat} (h1 : Acc w0 B v0 w1 v1 L1)
    (h : w2.ownsRow B 5 1 v2 n xs) (hn : n = L1.length + 1) (hx : xs = L1.map byteV ++ [byteV b]) (hg : (w1.alloc o).grownBy w2 v1.ownBlock)
    (ho : v2.ownBlock = v1.ownBlock ∨ v2.ownBlock = some (w1.heap.size + 1)) : Acc w0 B v0 w2 v2 (L1 ++ [b]) := by
  refine (h1.alloc o).trans ⟨by rw [List.map_append, List.length_append, List.length_singleton, ← hn]; rw [hx] at h; exact h, hg, ?_⟩
  rcases ho with ho | ho
  · exact .inl ho
  · exact .inr ⟨_, ho, by simp⟩

theorem one_new {w : World} {x : Value} {t : TypeId} {g : Nat} (hg : g = w.heap.size) :
    ∀ (j : Nat) (u : Value), [x][j]? = some u → (w.alloc (.cells #[x] t)).cell? ((⟨g, 0, none⟩ : Addr).add j) = some u := by
  subst hg
  intro j u hj
  have h := cell_of_row _ w.heap.size j _ t _ (heap_alloc_new w (.cells #[x] t))
  have e : ((⟨w.heap.size, 0, none⟩ : Addr).add j) = ⟨w.heap.size, j, none⟩ := by cases j <;> simp [Addr.add]
  rw [e, h]
  simpa using hj

/-- A measure for a counter that goes down to -1. -/
def upOne (v : Value) : Nat := (intOf v + 1).toNat

theorem Acc.alloc0 {w w1 : World} {B : Nat} {v v1 : Value} {L1 : List UInt8} {o : Obj} (h : Acc (w.alloc o) B v w1 v1 L1) : Acc w B v w1 v1 L1 := by
  obtain ⟨h1, h2, h3⟩ := h
  refine ⟨h1, ⟨h2.os, h2.tape, h2.output, Nat.le_trans (by simp) h2.size, fun k hk hn => ?_⟩, ?_⟩
  · rw [h2.block k (by simp; omega) hn, Below.heap_alloc _ _ _ hk]
  · rcases h3 with h3 | ⟨g, h3, h4⟩
    · exact .inl h3
    · exact .inr ⟨g, h3, Nat.le_trans (by simp) h4⟩

/-- A row of bytes of a value, and its length. -/
theorem RepB.slice {w : World} {F : Nat → Prop} {L : List UInt8} {v : Value} (h : RepB w F L v) : ∃ a c, v = .slice a L.length c ∧ L.length ≤ 9223372036854775807 := by
  rcases h with ⟨rfl, a, c, rfl, _, _⟩ | ⟨b, off, c, rfl, _, h1, h2, _⟩
  · exact ⟨a, c, rfl, by simp⟩
  · exact ⟨_, c, rfl, by omega⟩

theorem RepB.yields {w : World} {F : Nat → Prop} {L : List UInt8} {v : Value} (h : RepB w F L v) : Yields w v L.length 1 (L.map byteV) := by
  refine ⟨by simp, ?_, ?_⟩
  · intro u hu
    obtain ⟨b, _, rfl⟩ := List.mem_map.1 hu
    rfl
  · rcases h with ⟨rfl, a, c, rfl, _, ha⟩ | ⟨b, off, c, rfl, _, h1, h2, hc⟩
    · cases a with
      | none => rw [ha rfl]; exact .inl ⟨rfl, rfl⟩
      | some a => exact .inr ⟨a, c, rfl, fun j u hj => by simp at hj⟩
    · refine .inr ⟨_, c, rfl, fun j u hj => ?_⟩
      rw [List.getElem?_map] at hj
      have hj2 : j < L.length := by
        rcases Nat.lt_or_ge j L.length with h3 | h3
        · exact h3
        · rw [List.getElem?_eq_none h3] at hj; simp at hj
      rw [List.getElem?_eq_getElem hj2] at hj
      have := hc j hj2
      simp at hj
      rw [← hj, byteV, ← this]
      cases j <;> simp [Addr.add]

theorem Acc.undrew {w w1 : World} {B : Nat} {v v1 : Value} {L1 : List UInt8} (h : Acc w.drew B v w1 v1 L1) : Acc w B v w1 v1 L1 := ⟨h.1, ⟨h.2.1.os, h.2.1.tape, h.2.1.output, h.2.1.size, h.2.1.block⟩, h.2.2⟩

theorem Acc.of_app {w w1 : World} {B n m : Nat} {v v1 : Value} {L1 L2 : List UInt8} (h : AppLeft w B 5 1 v n m (L1.map byteV) (L2.map byteV) v1 w1) : Acc w B v w1 v1 (L1 ++ L2) := by
  obtain ⟨h1, h2, h3⟩ := h
  have hl := h1.1
  refine ⟨?_, h2, ?_⟩
  · rw [List.map_append, show (L1 ++ L2).length = n + m from by simpa using hl]; exact h1
  · rcases h3 with h3 | h3
    · exact .inl h3
    · exact .inr ⟨_, h3, Nat.le_refl _⟩

theorem block1 {w : World} {g : Nat} {x : Value} {t : TypeId} (h : w.heap[g]? = some (.cells #[x] t)) : w.cell? ⟨g, 0, none⟩ = some x ∧ w.frozen? ⟨g, 0, none⟩ = false ∧ g < w.heap.size :=
  ⟨cell_of_row w g 0 _ t _ h, frozen_of_row w g 0 _ t h, lt_of_heap h⟩

/-- Bytes that a call owns, as bytes in memory. -/
theorem RepB.of_own {w : World} {B : Nat} {L : List UInt8} {v : Value} (h : w.ownsRow B 5 1 v L.length (L.map byteV)) : RepB w (fun b => B ≤ b ∧ b < w.heap.size) L v := by
  have h' := h
  obtain ⟨_, ⟨hv, hn⟩ | ⟨g, cap, cur, rfl, hg, hcur, h1, h2, h3, h4⟩⟩ := h
  · exact .inl ⟨List.length_eq_zero_iff.1 hn, by rw [hv]; exact Bare.nil⟩
  · refine .inr ⟨g, 0, cap, rfl, ⟨hg, lt_of_heap hcur⟩, h1, by unfold maxLen at h2; omega, fun i hi => ?_⟩
    have := h'.cells (g := g) rfl i (byteV L[i]) (by simp [hi])
    rw [byteV] at this
    rw [Nat.zero_add, ← this]
    cases i <;> simp [Addr.add]

/-- Bytes in a new block. -/
theorem RepB.new {w : World} {L : List UInt8} {t : TypeId} {g : Nat} {fr : Nat × Nat} (hg : g = w.heap.size) (hl : L.length ≤ 9223372036854775807) :
    RepB (w.alloc (.cells (L.map byteV).toArray t fr)) (fun b => b = g) L (.slice (some ⟨g, 0, none⟩) L.length L.length) := by
  subst hg
  refine .inr ⟨w.heap.size, 0, L.length, rfl, rfl, Nat.le_refl _, hl, fun i hi => ?_⟩
  have := cell_of_row _ w.heap.size (0 + i) _ t _ (heap_alloc_new w (.cells (L.map byteV).toArray t fr))
  rw [this]
  simp [hi, byteV]

def strOf (L : List UInt8) : ByteArray := ⟨L.toArray⟩

theorem strOf_inj {a b : List UInt8} (h : strOf a = strOf b) : a = b := by
  have := congrArg (fun s => s.data.toList) h
  simpa [strOf] using this

theorem strOf_data (s : ByteArray) : strOf s.data.toList = s := by cases s; simp [strOf]

/-- 'string(b)'. -/
theorem run_string {P : Program} {w : World} {F : Nat → Prop} {L : List UInt8} {v : Value} (h : RepB w F L v) (src e dst : TypeId) (hs : P.underlying src = some (.slice e)) (he : P.underlying e = some (.int .u8))
    (hd : P.underlying dst = some .string) : (convert src dst v).run P w = .ok (.string (strOf L)) w := by
  rcases h with ⟨rfl, a, c, rfl, _, _⟩ | ⟨b, off, c, rfl, _, h1, h2, hc⟩
  · cases a with
    | none => rw [run_convert_bytes_nil w src e hs he 0 c dst hd]; rfl
    | some a =>
      have hl : (loadCells a 0).run P w = .ok (([] : List Int).map (Value.int .u8)).toArray w := by
        have := run_loadCells_list (P := P) w a [] (fun j v hj => by simp at hj)
        simpa using this
      rw [run_convert_bytes_string w src dst e _ 0 c hs he hd, run_bytesToString w _ 0 c [] hl, foldl_push_bytes]
      simp [strOf, ByteArray.empty, ByteArray.emptyWithCapacity]
      rfl
  · have := run_convert_bytes_arg (P := P) w src e hs he b off L.length c (L.map fun x => (x.toNat : Int)) (by simp) (fun i hi => by
      rw [hc i hi]; simp [hi]) dst hd
    rw [this]
    congr 2
    simp [strOfNums, strOf, Function.comp_def]

/-- A cell that is not in the row that grows. -/
theorem grown_cell {w w' : World} {own : Option Nat} {b o : Nat} {v : Value} (h : w.grownBy w' own) (hb : b < w.heap.size) (hn : own ≠ some b) (hc : w.cell? ⟨b, o, none⟩ = some v) : w'.cell? ⟨b, o, none⟩ = some v :=
  (World.cell?_of_block (h.block b hb (fun e => hn e.symm))).trans hc

theorem lt_of_cell {w : World} {a : Addr} {v : Value} (h : w.cell? a = some v) : a.block < w.heap.size ∧ a.spot = none := by
  unfold World.cell? at h
  split at h
  · rename_i c t f hq
    refine ⟨(Array.getElem?_eq_some_iff.1 hq).1, ?_⟩
    split at h
    · cases h
    · rename_i hs; simpa using hs
  · cases h

/-- A list out of its elements, one at a time. -/
theorem list_of {α : Type} {R : Nat → α → Prop} : ∀ (n : Nat), (∀ i, i < n → ∃ x, R i x) → ∃ l : List α, l.length = n ∧ ∀ (i : Nat) (hi : i < l.length), R i l[i]
  | 0, _ => ⟨[], rfl, fun i hi => by simp at hi⟩
  | n + 1, h => by
    obtain ⟨l, hl, hr⟩ := list_of n fun i hi => h i (by omega)
    obtain ⟨x, hx⟩ := h n (by omega)
    refine ⟨l ++ [x], by simp [hl], fun i hi => ?_⟩
    by_cases hn : i < l.length
    · rw [List.getElem_append_left hn]; exact hr i hn
    · obtain rfl : i = n := by simp at hi; omega
      rw [List.getElem_append_right (by omega)]
      simpa [hl] using hx

theorem addr_add (b off i : Nat) : (⟨b, off, none⟩ : Addr).add i = ⟨b, off + i, none⟩ := by cases i <;> simp [Addr.add]
theorem flat_snoc (ls : List (List UInt8)) (k : Nat) (h : k < ls.length) : (ls.take (k + 1)).flatten = (ls.take k).flatten ++ ls[k] := by
  rw [List.take_succ_eq_append_getElem h, List.flatten_append]
  simp

/-- A slice of byte slices. -/
def RepBl (w : World) (F : Nat → Prop) (ls : List (List UInt8)) (v : Value) : Prop :=
  (ls = [] ∧ Bare v) ∨ ∃ b off c, v = .slice (some ⟨b, off, none⟩) ls.length c ∧ F b ∧ ls.length ≤ c ∧ c ≤ 9223372036854775807 ∧
    ∀ (i : Nat) (h : i < ls.length), ∃ u, w.cell? ⟨b, off + i, none⟩ = some u ∧ RepB w F ls[i] u

theorem RepBl.same {w w' : World} {F G : Nat → Prop} (hF : ∀ k, F k → G k) (hw : ∀ k, F k → w'.heap[k]? = w.heap[k]?) {ls : List (List UInt8)} {v : Value} (h : RepBl w F ls v) : RepBl w' G ls v := by
  rcases h with h | ⟨b, off, c, hv, hb, hl, hm, hc⟩
  · exact .inl h
  · refine .inr ⟨b, off, c, hv, hF b hb, hl, hm, fun i hi => ?_⟩
    obtain ⟨u, h1, h2⟩ := hc i hi
    exact ⟨u, by rw [World.cell?_of_block (by exact hw b hb)]; exact h1, h2.same hF hw⟩

theorem RepBl.slice {w : World} {F : Nat → Prop} {ls : List (List UInt8)} {v : Value} (h : RepBl w F ls v) : ∃ a c, v = .slice a ls.length c ∧ ls.length ≤ 9223372036854775807 := by
  rcases h with ⟨rfl, a, c, rfl, _⟩ | ⟨b, off, c, rfl, _, h1, h2, _⟩
  · exact ⟨a, c, rfl, by simp⟩
  · exact ⟨_, c, rfl, by omega⟩

theorem RepBl.elem {w : World} {F : Nat → Prop} {ls : List (List UInt8)} {a : Option Addr} {n c : Nat} (h : RepBl w F ls (.slice a n c)) (i : Nat) (hi : i < ls.length) :
    ∃ b off u, a = some ⟨b, off, none⟩ ∧ F b ∧ w.cell? ⟨b, off + i, none⟩ = some u ∧ RepB w F ls[i] u := by
  rcases h with ⟨h, _⟩ | ⟨b, off, c', h, hb, _, _, hc⟩
  · rw [h] at hi; simp at hi
  · cases h
    obtain ⟨u, h1, h2⟩ := hc i hi
    exact ⟨b, off, u, rfl, hb, h1, h2⟩

/-- Byte slices in a new block. -/
theorem RepBl.new {w : World} {F : Nat → Prop} {ls : List (List UInt8)} {us : List Value} {t : TypeId} {g : Nat} (hg : g = w.heap.size) (hn : us.length = ls.length) (hl : ls.length ≤ 9223372036854775807)
    (hF : ∀ k, F k → k < w.heap.size) (h : ∀ (i : Nat) (h1 : i < ls.length) (h2 : i < us.length), RepB w F ls[i] us[i]) :
    RepBl (w.alloc (.cells us.toArray t)) (fun b => F b ∨ b = g) ls (.slice (some ⟨g, 0, none⟩) ls.length ls.length) := by
  subst hg
  refine .inr ⟨w.heap.size, 0, ls.length, rfl, .inr rfl, Nat.le_refl _, hl, fun i hi => ?_⟩
  refine ⟨us[i], ?_, (h i hi (by omega)).same (fun k hk => .inl hk) fun k hk => Below.heap_alloc _ _ _ (hF k hk)⟩
  have := cell_of_row _ w.heap.size (0 + i) _ t _ (heap_alloc_new w (.cells us.toArray t))
  rw [this]
  simp [hn, hi]

theorem RepBl.one {w : World} {F : Nat → Prop} {L : List UInt8} {u : Value} {t : TypeId} {g : Nat} (h : RepB w F L u) (hg : g = w.heap.size) (hF : ∀ k, F k → k < w.heap.size) :
    RepBl (w.alloc (.cells #[u] t)) (fun b => F b ∨ b = g) [L] (.slice (some ⟨g, 0, none⟩) 1 1) :=
  RepBl.new (us := [u]) hg rfl (by simp) hF fun i h1 h2 => by
    obtain rfl : i = 0 := by simpa using h1
    exact h

/-- Bytes that were there read as they did, in a later world. -/
theorem RepB.later {w wr : World} {F : Nat → Prop} {L : List UInt8} {v : Value} (h : RepB w F L v) (hF : ∀ k, F k → k < w.heap.size) (hB : Below w.heap.size w wr) : RepB wr (fun b => b < wr.heap.size) L v :=
  h.same (fun k hk => Nat.lt_of_lt_of_le (hF k hk) hB.size) fun k hk => hB.block k (hF k hk)

theorem RepBl.later {w wr : World} {F : Nat → Prop} {L : List (List UInt8)} {v : Value} (h : RepBl w F L v) (hF : ∀ k, F k → k < w.heap.size) (hB : Below w.heap.size w wr) : RepBl wr (fun b => b < wr.heap.size) L v :=
  h.same (fun k hk => Nat.lt_of_lt_of_le (hF k hk) hB.size) fun k hk => hB.block k (hF k hk)

theorem RepB.weak {w : World} {F G : Nat → Prop} {L : List UInt8} {v : Value} (h : RepB w F L v) (hF : ∀ k, F k → G k) : RepB w G L v := h.same hF fun _ _ => rfl

/-- Byte slices that are there, in a slice that is made now. -/
theorem RepBl.lay {w : World} {ls : List (List UInt8)} {us : List Value} {t : TypeId} {g n : Nat} (hg : g = w.heap.size) (hn : us.length = ls.length) (hn2 : n = ls.length) (hl : ls.length ≤ 9223372036854775807)
    (h : ∀ (i : Nat) (h1 : i < ls.length) (h2 : i < us.length), RepB w (fun b => b < w.heap.size) ls[i] us[i]) :
    RepBl (w.alloc (.cells us.toArray t)) (fun b => b < w.heap.size + 1) ls (.slice (some ⟨g, 0, none⟩) n n) := by
  subst hn2
  exact (RepBl.new hg hn hl (fun _ h => h) h).same (fun k hk => by rcases hk with hk | hk <;> omega) fun _ _ => rfl
end Go.Proofs.YtamgjlegcegmeaaGreatDoor.M

/- Part: MouldRep. -/
namespace Go.Proofs.YtamgjlegcegmeaaGreatDoor.M
open Go.RowKit

/-- Three cells in a row hold a struct of three. -/
def At3 (w : World) (b off : Nat) (v : Value) : Prop :=
  ∃ x y z, v = .agg #[x, y, z] ∧ w.cell? ⟨b, off, none⟩ = some x ∧ w.cell? ⟨b, off + 1, none⟩ = some y ∧ w.cell? ⟨b, off + 2, none⟩ = some z

theorem At3.same {w w' : World} {b off : Nat} {v : Value} (h : At3 w b off v) (hb : w'.heap[b]? = w.heap[b]?) : At3 w' b off v := by
  obtain ⟨x, y, z, hv, h0, h1, h2⟩ := h
  exact ⟨x, y, z, hv, by rw [World.cell?_of_block (by exact hb)]; exact h0, by rw [World.cell?_of_block (by exact hb)]; exact h1, by rw [World.cell?_of_block (by exact hb)]; exact h2⟩

/-- A block of three cells, known whole. -/
theorem block3 {w : World} {g : Nat} {x y z : Value} {t : TypeId} (h : w.heap[g]? = some (.cells #[x, y, z] t)) :
    w.cell? ⟨g, 0, none⟩ = some x ∧ w.cell? ⟨g, 1, none⟩ = some y ∧ w.cell? ⟨g, 2, none⟩ = some z ∧
    w.frozen? ⟨g, 0, none⟩ = false ∧ w.frozen? ⟨g, 1, none⟩ = false ∧ w.frozen? ⟨g, 2, none⟩ = false ∧ g < w.heap.size := by
  refine ⟨?_, ?_, ?_, ?_, ?_, ?_, ?_⟩
  · exact cell_of_row w g 0 _ t _ h
  · exact cell_of_row w g 1 _ t _ h
  · exact cell_of_row w g 2 _ t _ h
  · exact frozen_of_row w g 0 _ t h
  · exact frozen_of_row w g 1 _ t h
  · exact frozen_of_row w g 2 _ t h
  · rcases Nat.lt_or_ge g w.heap.size with h1 | h1
    · exact h1
    · simp [Array.getElem?_eq_none h1] at h

mutual
/-- A value that stands for a shape: package mould's part. All of its memory lies in blocks of F. -/
def RepS (w : World) (F : Nat → Prop) : Sh → Value → Prop
  | .num, v => v = .agg #[.int .u8 110, .slice none 0 0, .bool true]
  | .blob, v => v = .agg #[.int .u8 98, .slice none 0 0, .bool true]
  | .list s, v => ∃ b off c u, v = .agg #[.int .u8 42, .slice (some ⟨b, off, none⟩) 1 c, .bool true] ∧ F b ∧ At3 w b off u ∧ RepS w F s u
  | .row l, v => ∃ sl, v = .agg #[.int .u8 91, sl, .bool (solids l)] ∧
      ((l = [] ∧ sl = .slice none 0 0) ∨ ∃ b off c, sl = .slice (some ⟨b, off, none⟩) l.length c ∧ F b ∧ RepSs w F l b off)
def RepSs (w : World) (F : Nat → Prop) : List Sh → Nat → Nat → Prop
  | [], _, _ => True
  | s :: l, b, off => (∃ u, At3 w b off u ∧ RepS w F s u) ∧ RepSs w F l b (off + 3)
end

mutual
theorem RepS.same {w w' : World} {F G : Nat → Prop} (hF : ∀ k, F k → G k) (hw : ∀ k, F k → w'.heap[k]? = w.heap[k]?) :
    ∀ (s : Sh) {v : Value}, RepS w F s v → RepS w' G s v
  | .num, v, h => by unfold RepS at h ⊢; exact h
  | .blob, v, h => by unfold RepS at h ⊢; exact h
  | .list s, v, h => by
    unfold RepS at h ⊢
    obtain ⟨b, off, c, u, hv, hb, ha, hu⟩ := h
    exact ⟨b, off, c, u, hv, hF b hb, ha.same (hw b hb), RepS.same hF hw s hu⟩
  | .row l, v, h => by
    unfold RepS at h ⊢
    obtain ⟨sl, hv, h⟩ := h
    refine ⟨sl, hv, ?_⟩
    rcases h with h | ⟨b, off, c, hs, hb, hl⟩
    · exact .inl h
    · exact .inr ⟨b, off, c, hs, hF b hb, RepSs.same hF hw l (hw b hb) hl⟩
theorem RepSs.same {w w' : World} {F G : Nat → Prop} (hF : ∀ k, F k → G k) (hw : ∀ k, F k → w'.heap[k]? = w.heap[k]?) :
    ∀ (l : List Sh) {b off : Nat}, w'.heap[b]? = w.heap[b]? → RepSs w F l b off → RepSs w' G l b off
  | [], b, off, _, h => by unfold RepSs; trivial
  | s :: l, b, off, hb, h => by
    unfold RepSs at h ⊢
    obtain ⟨⟨u, ha, hu⟩, hl⟩ := h
    exact ⟨⟨u, ha.same hb, RepS.same hF hw s hu⟩, RepSs.same hF hw l hb hl⟩
end

def kind : Sh → Int
  | .num => 110
  | .blob => 98
  | .list _ => 42
  | .row _ => 91

theorem RepS.agg {w : World} {F : Nat → Prop} {s : Sh} {v : Value} (h : RepS w F s v) : ∃ a n c, v = .agg #[.int .u8 (kind s), .slice a n c, .bool (solid s)] := by
  cases s with
  | num => unfold RepS at h; exact ⟨_, _, _, h⟩
  | blob => unfold RepS at h; exact ⟨_, _, _, h⟩
  | list s => unfold RepS at h; obtain ⟨b, off, c, u, hv, _⟩ := h; exact ⟨_, _, _, hv⟩
  | row l =>
    unfold RepS at h
    obtain ⟨sl, hv, h | ⟨b, off, c, hs, _⟩⟩ := h
    · rw [h.2] at hv; exact ⟨_, _, _, by simpa [kind, solid] using hv⟩
    · rw [hs] at hv; exact ⟨_, _, _, by simpa [kind, solid] using hv⟩

theorem RepSs.get {w : World} {F : Nat → Prop} : ∀ (l : List Sh) {b off : Nat}, RepSs w F l b off → ∀ (i : Nat) (hi : i < l.length), ∃ u, At3 w b (off + i * 3) u ∧ RepS w F l[i] u
  | [], _, _, _, i, hi => by simp at hi
  | s :: l, b, off, h, i, hi => by
    unfold RepSs at h
    cases i with
    | zero => simpa using h.1
    | succ i =>
      obtain ⟨u, ha, hu⟩ := RepSs.get l h.2 i (by simpa using hi)
      exact ⟨u, by rw [show off + (i + 1) * 3 = off + 3 + i * 3 from by omega]; exact ha, by simpa using hu⟩

theorem RepSs.of {w : World} {F : Nat → Prop} : ∀ (l : List Sh) {b off : Nat}, (∀ (i : Nat) (hi : i < l.length), ∃ u, At3 w b (off + i * 3) u ∧ RepS w F l[i] u) → RepSs w F l b off
  | [], _, _, _ => by unfold RepSs; trivial
  | s :: l, b, off, h => by
    unfold RepSs
    refine ⟨h 0 (by simp), RepSs.of l fun i hi => ?_⟩
    obtain ⟨u, ha, hu⟩ := h (i + 1) (by simpa using hi)
    exact ⟨u, by rw [show off + 3 + i * 3 = off + (i + 1) * 3 from by omega]; exact ha, by simpa using hu⟩

/-- The cells of an array of structs of three, and what the structs stand for. -/
def Kids {α : Type} (R : α → Value → Prop) : List α → List Value → Prop
  | [], xs => xs = []
  | s :: l, xs => ∃ x y z r, xs = x :: y :: z :: r ∧ R s (.agg #[x, y, z]) ∧ Kids R l r

theorem Kids.mono {α : Type} {R Q : α → Value → Prop} (h : ∀ s u, R s u → Q s u) : ∀ {l : List α} {xs : List Value}, Kids R l xs → Kids Q l xs
  | [], _, k => k
  | _ :: _, _, ⟨x, y, z, r, e, a, k⟩ => ⟨x, y, z, r, e, h _ _ a, Kids.mono h k⟩

theorem Kids.snoc {α : Type} {R : α → Value → Prop} {s : α} {x y z : Value} (h : R s (.agg #[x, y, z])) : ∀ {l : List α} {xs : List Value}, Kids R l xs → Kids R (l ++ [s]) (xs ++ [x, y, z])
  | [], _, k => by rw [show _ = [] from k]; exact ⟨x, y, z, [], rfl, h, rfl⟩
  | _ :: _, _, ⟨a, b, c, r, e, ha, k⟩ => ⟨a, b, c, r ++ [x, y, z], by rw [e]; rfl, ha, Kids.snoc h k⟩

theorem Kids.length {α : Type} {R : α → Value → Prop} : ∀ {l : List α} {xs : List Value}, Kids R l xs → xs.length = 3 * l.length
  | [], _, k => by rw [show _ = [] from k]; rfl
  | _ :: l, _, ⟨a, b, c, r, e, _, k⟩ => by rw [e]; have := Kids.length k; simp; omega

theorem Kids.get {α : Type} {R : α → Value → Prop} {w : World} {g : Nat} : ∀ {l : List α} {xs : List Value} {off : Nat}, Kids R l xs →
    (∀ (j : Nat) (u : Value), xs[j]? = some u → w.cell? ⟨g, off + j, none⟩ = some u) → ∀ (i : Nat) (hi : i < l.length), ∃ u, At3 w g (off + i * 3) u ∧ R l[i] u
  | [], _, _, _, _, i, hi => by simp at hi
  | s :: l, xs, off, ⟨a, b, c, r, e, ha, k⟩, hc, i, hi => by
    subst e
    cases i with
    | zero => exact ⟨_, ⟨a, b, c, rfl, hc 0 a rfl, hc 1 b rfl, hc 2 c rfl⟩, ha⟩
    | succ i =>
      obtain ⟨u, h1, h2⟩ := Kids.get (off := off + 3) k (fun j u hj => by rw [show off + 3 + j = off + (j + 3) from by omega]; exact hc (j + 3) u (by simpa using hj)) i (by simpa using hi)
      exact ⟨u, by rw [show off + (i + 1) * 3 = off + 3 + i * 3 from by omega]; exact h1, h2⟩

/-- An array of structs of three that a call owns: at each index what it stands for. -/
theorem owned_kids {α : Type} {R : α → Value → Prop} {w : World} {base t : Nat} {v : Value} {l : List α} {xs : List Value}
    (h : w.ownsRow base t 3 v l.length xs) (k : Kids R l xs) :
    (l = [] ∧ v = .slice none 0 0) ∨ ∃ b c, v = .slice (some ⟨b, 0, none⟩) l.length c ∧ v.ownBlock = some b ∧ base ≤ b ∧ b < w.heap.size ∧ l.length ≤ c ∧ c ≤ 9223372036854775807 ∧
      ∀ (i : Nat) (hi : i < l.length), ∃ u, At3 w b (0 + i * 3) u ∧ R l[i] u := by
  have h' := h
  obtain ⟨hx, h | ⟨g, cap, cur, hv, hg, hcur, h1, h2, h3, h4⟩⟩ := h
  · exact .inl ⟨List.length_eq_zero_iff.1 h.2, h.1⟩
  · refine .inr ⟨g, cap, hv, by rw [hv]; rfl, hg, ?_, h1, h2, fun i hi => ?_⟩
    · exact (h'.lt g (by rw [hv]; rfl)).2
    · refine Kids.get k (fun j u hj => ?_) i hi
      have := h'.cells (g := g) (by rw [hv]; rfl) j u hj
      cases j <;> simpa [Addr.add] using this

/-- The three cells of a block of three that was made last. -/
theorem three_new {w : World} {x y z : Value} {t : TypeId} {g : Nat} (hg : g = w.heap.size) :
    ∀ (j : Nat) (u : Value), [x, y, z][j]? = some u → (w.alloc (.cells #[x, y, z] t)).cell? ((⟨g, 0, none⟩ : Addr).add j) = some u := by
  subst hg
  intro j u hj
  have h := cell_of_row _ w.heap.size j _ t _ (heap_alloc_new w (.cells #[x, y, z] t))
  have e : ((⟨w.heap.size, 0, none⟩ : Addr).add j) = ⟨w.heap.size, j, none⟩ := by cases j <;> simp [Addr.add]
  rw [e, h]
  simpa using hj

mutual
/-- A value of package api's Val. All of its memory lies in blocks of F. -/
def RepV (w : World) (F : Nat → Prop) : V → Value → Prop
  | .mk n b l, v => ∃ vb vl, v = .agg #[.int .u64 (n : Int), vb, vl] ∧ n < 18446744073709551616 ∧ RepB w F b vb ∧
      ((l = [] ∧ Bare vl) ∨ ∃ b off c, vl = .slice (some ⟨b, off, none⟩) l.length c ∧ F b ∧ l.length ≤ c ∧ c ≤ 9223372036854775807 ∧ RepVs w F l b off)
def RepVs (w : World) (F : Nat → Prop) : List V → Nat → Nat → Prop
  | [], _, _ => True
  | s :: l, b, off => (∃ u, At3 w b off u ∧ RepV w F s u) ∧ RepVs w F l b (off + 3)
end

/-- A slice of values. -/
def RepVl (w : World) (F : Nat → Prop) (l : List V) (v : Value) : Prop :=
  (l = [] ∧ Bare v) ∨ ∃ b off c, v = .slice (some ⟨b, off, none⟩) l.length c ∧ F b ∧ l.length ≤ c ∧ c ≤ 9223372036854775807 ∧ RepVs w F l b off

theorem RepV_mk {w : World} {F : Nat → Prop} {n : Nat} {b : List UInt8} {l : List V} {v : Value} :
    RepV w F (.mk n b l) v ↔ ∃ vb vl, v = .agg #[.int .u64 (n : Int), vb, vl] ∧ n < 18446744073709551616 ∧ RepB w F b vb ∧ RepVl w F l vl := by
  unfold RepV RepVl; exact Iff.rfl

mutual
theorem RepV.same {w w' : World} {F G : Nat → Prop} (hF : ∀ k, F k → G k) (hw : ∀ k, F k → w'.heap[k]? = w.heap[k]?) :
    ∀ (s : V) {v : Value}, RepV w F s v → RepV w' G s v
  | .mk n b l, v, h => by
    unfold RepV at h ⊢
    obtain ⟨vb, vl, hv, hn, hb, h⟩ := h
    refine ⟨vb, vl, hv, hn, hb.same hF hw, ?_⟩
    rcases h with h | ⟨b, off, c, hs, hb, h1, h2, hl⟩
    · exact .inl h
    · exact .inr ⟨b, off, c, hs, hF b hb, h1, h2, RepVs.same hF hw l (hw b hb) hl⟩
theorem RepVs.same {w w' : World} {F G : Nat → Prop} (hF : ∀ k, F k → G k) (hw : ∀ k, F k → w'.heap[k]? = w.heap[k]?) :
    ∀ (l : List V) {b off : Nat}, w'.heap[b]? = w.heap[b]? → RepVs w F l b off → RepVs w' G l b off
  | [], b, off, _, h => by unfold RepVs; trivial
  | s :: l, b, off, hb, h => by
    unfold RepVs at h ⊢
    obtain ⟨⟨u, ha, hu⟩, hl⟩ := h
    exact ⟨⟨u, ha.same hb, RepV.same hF hw s hu⟩, RepVs.same hF hw l hb hl⟩
end

theorem RepVl.same {w w' : World} {F G : Nat → Prop} (hF : ∀ k, F k → G k) (hw : ∀ k, F k → w'.heap[k]? = w.heap[k]?) {l : List V} {v : Value} (h : RepVl w F l v) : RepVl w' G l v := by
  rcases h with h | ⟨b, off, c, hs, hb, h1, h2, hl⟩
  · exact .inl h
  · exact .inr ⟨b, off, c, hs, hF b hb, h1, h2, RepVs.same hF hw l (hw b hb) hl⟩

theorem RepVs.get {w : World} {F : Nat → Prop} : ∀ (l : List V) {b off : Nat}, RepVs w F l b off → ∀ (i : Nat) (hi : i < l.length), ∃ u, At3 w b (off + i * 3) u ∧ RepV w F l[i] u
  | [], _, _, _, i, hi => by simp at hi
  | s :: l, b, off, h, i, hi => by
    unfold RepVs at h
    cases i with
    | zero => simpa using h.1
    | succ i =>
      obtain ⟨u, ha, hu⟩ := RepVs.get l h.2 i (by simpa using hi)
      exact ⟨u, by rw [show off + (i + 1) * 3 = off + 3 + i * 3 from by omega]; exact ha, by simpa using hu⟩

theorem RepVs.of {w : World} {F : Nat → Prop} : ∀ (l : List V) {b off : Nat}, (∀ (i : Nat) (hi : i < l.length), ∃ u, At3 w b (off + i * 3) u ∧ RepV w F l[i] u) → RepVs w F l b off
  | [], _, _, _ => by unfold RepVs; trivial
  | s :: l, b, off, h => by
    unfold RepVs
    refine ⟨h 0 (by simp), RepVs.of l fun i hi => ?_⟩
    obtain ⟨u, ha, hu⟩ := h (i + 1) (by simpa using hi)
    exact ⟨u, by rw [show off + 3 + i * 3 = off + (i + 1) * 3 from by omega]; exact ha, by simpa using hu⟩
end Go.Proofs.YtamgjlegcegmeaaGreatDoor.M
