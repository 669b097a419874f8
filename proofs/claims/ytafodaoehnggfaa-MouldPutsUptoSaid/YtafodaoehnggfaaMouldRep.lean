/- How shapes and values of package mould lie in memory. -/
import Derived.Test.YtafodaoehnggfaaMouldSpec
import Derived.Test.YtafodaoehnggfaaLib
import Derived.WalkSpells
namespace Go.Proofs.Ytafodaoehnggfaa.M
open Go.RowKit

/-- Three cells in a row hold a struct of three. -/
def At3 (w : World) (b off : Nat) (v : Value) : Prop :=
  ∃ x y z, v = .agg #[x, y, z] ∧ w.cell? ⟨b, off, none⟩ = some x ∧ w.cell? ⟨b, off + 1, none⟩ = some y ∧ w.cell? ⟨b, off + 2, none⟩ = some z

theorem At3.same {w w' : World} {b off : Nat} {v : Value} (h : At3 w b off v) (hb : w'.heap[b]? = w.heap[b]?) : At3 w' b off v := by
  obtain ⟨x, y, z, hv, h0, h1, h2⟩ := h
  exact ⟨x, y, z, hv, by rw [World.cell?_of_block (by exact hb)]; exact h0, by rw [World.cell?_of_block (by exact hb)]; exact h1, by rw [World.cell?_of_block (by exact hb)]; exact h2⟩

/-- A block of three cells, known whole. -/
theorem block3 {w : World} {g : Nat} {x y z : Value} {t : TypeId} (h : w.heap[g]? = some (.cells #[x, y, z] t)) :
    w.cell? ⟨g, 0, none⟩ = some x ∧ w.cell? ⟨g, 1, none⟩ = some y ∧ w.cell? ⟨g, 2, none⟩ = some z ∧
    w.frozen? ⟨g, 0, none⟩ = false ∧ w.frozen? ⟨g, 1, none⟩ = false ∧ w.frozen? ⟨g, 2, none⟩ = false ∧ g < w.heap.size := by
  refine ⟨?_, ?_, ?_, ?_, ?_, ?_, ?_⟩
  · exact cell_of_row w g 0 _ t _ h
  · exact cell_of_row w g 1 _ t _ h
  · exact cell_of_row w g 2 _ t _ h
  · exact frozen_of_row w g 0 _ t h
  · exact frozen_of_row w g 1 _ t h
  · exact frozen_of_row w g 2 _ t h
  · rcases Nat.lt_or_ge g w.heap.size with h1 | h1
    · exact h1
    · simp [Array.getElem?_eq_none h1] at h

theorem grown_of_below {w w' : World} (h : Below w.heap.size w w') : w.grownBy w' none := ⟨h.os, h.tape, h.output, h.size, fun k hk _ => h.block k hk⟩

theorem heap_new (w : World) (o : Obj) (k : Nat) (h : k = w.heap.size) : (w.alloc o).heap[k]? = some o := by subst h; exact heap_alloc_new w o

/-- A block that is there stays what it is when another one is made. -/
theorem old_alloc {w : World} {x : Obj} {k : Nat} {o : Obj} (h : w.heap[k]? = some o) : (w.alloc x).heap[k]? = some o := by
  have hk : k < w.heap.size := (Array.getElem?_eq_some_iff.1 h).1
  have := Below.heap_alloc w x k hk
  rw [this]; exact h

theorem old_set {w : World} {a : Addr} {v : Value} {k : Nat} {o : Obj} (h : w.heap[k]? = some o) (hk : k ≠ a.block) : (w.setCell a v).heap[k]? = some o := by
  rw [Below.heap_setCell w a v k hk]; exact h

theorem old_below {w w' : World} {k : Nat} {o : Obj} (h : w.heap[k]? = some o) (hb : Below w.heap.size w w') : w'.heap[k]? = some o := by
  rw [hb.block k (Array.getElem?_eq_some_iff.1 h).1]; exact h

theorem lt_of_heap {w : World} {k : Nat} {o : Obj} (h : w.heap[k]? = some o) : k < w.heap.size := (Array.getElem?_eq_some_iff.1 h).1

/-- What is as it was behind one new block is as it was ahead of it. -/
theorem below_behind {w w' : World} {o : Obj} (h : Below (w.heap.size + 1) (w.alloc o) w') : Below w.heap.size w w' :=
  ((Below.refl _ _).alloc (Nat.le_refl _) o).trans (h.mono (by omega))

mutual
/-- A value that stands for a shape: package mould's part. All of its memory lies in blocks of F. -/
def RepS (w : World) (F : Nat → Prop) : Sh → Value → Prop
  | .num, v => v = .agg #[.int .u8 110, .slice none 0 0, .bool true]
  | .blob, v => v = .agg #[.int .u8 98, .slice none 0 0, .bool true]
  | .list s, v => ∃ b off c u, v = .agg #[.int .u8 42, .slice (some ⟨b, off, none⟩) 1 c, .bool true] ∧ F b ∧ At3 w b off u ∧ RepS w F s u
  | .row l, v => ∃ sl, v = .agg #[.int .u8 91, sl, .bool (solids l)] ∧
      ((l = [] ∧ sl = .slice none 0 0) ∨ ∃ b off c, sl = .slice (some ⟨b, off, none⟩) l.length c ∧ F b ∧ RepSs w F l b off)
def RepSs (w : World) (F : Nat → Prop) : List Sh → Nat → Nat → Prop
  | [], _, _ => True
  | s :: l, b, off => (∃ u, At3 w b off u ∧ RepS w F s u) ∧ RepSs w F l b (off + 3)
end

mutual
theorem RepS.same {w w' : World} {F G : Nat → Prop} (hF : ∀ k, F k → G k) (hw : ∀ k, F k → w'.heap[k]? = w.heap[k]?) :
    ∀ (s : Sh) {v : Value}, RepS w F s v → RepS w' G s v
  | .num, v, h => by unfold RepS at h ⊢; exact h
  | .blob, v, h => by unfold RepS at h ⊢; exact h
  | .list s, v, h => by
    unfold RepS at h ⊢
    obtain ⟨b, off, c, u, hv, hb, ha, hu⟩ := h
    exact ⟨b, off, c, u, hv, hF b hb, ha.same (hw b hb), RepS.same hF hw s hu⟩
  | .row l, v, h => by
    unfold RepS at h ⊢
    obtain ⟨sl, hv, h⟩ := h
    refine ⟨sl, hv, ?_⟩
    rcases h with h | ⟨b, off, c, hs, hb, hl⟩
    · exact .inl h
    · exact .inr ⟨b, off, c, hs, hF b hb, RepSs.same hF hw l (hw b hb) hl⟩
theorem RepSs.same {w w' : World} {F G : Nat → Prop} (hF : ∀ k, F k → G k) (hw : ∀ k, F k → w'.heap[k]? = w.heap[k]?) :
    ∀ (l : List Sh) {b off : Nat}, w'.heap[b]? = w.heap[b]? → RepSs w F l b off → RepSs w' G l b off
  | [], b, off, _, h => by unfold RepSs; trivial
  | s :: l, b, off, hb, h => by
    unfold RepSs at h ⊢
    obtain ⟨⟨u, ha, hu⟩, hl⟩ := h
    exact ⟨⟨u, ha.same hb, RepS.same hF hw s hu⟩, RepSs.same hF hw l hb hl⟩
end

def kind : Sh → Int
  | .num => 110
  | .blob => 98
  | .list _ => 42
  | .row _ => 91

theorem RepS.agg {w : World} {F : Nat → Prop} {s : Sh} {v : Value} (h : RepS w F s v) : ∃ a n c, v = .agg #[.int .u8 (kind s), .slice a n c, .bool (solid s)] := by
  cases s with
  | num => unfold RepS at h; exact ⟨_, _, _, h⟩
  | blob => unfold RepS at h; exact ⟨_, _, _, h⟩
  | list s => unfold RepS at h; obtain ⟨b, off, c, u, hv, _⟩ := h; exact ⟨_, _, _, hv⟩
  | row l =>
    unfold RepS at h
    obtain ⟨sl, hv, h | ⟨b, off, c, hs, _⟩⟩ := h
    · rw [h.2] at hv; exact ⟨_, _, _, by simpa [kind, solid] using hv⟩
    · rw [hs] at hv; exact ⟨_, _, _, by simpa [kind, solid] using hv⟩

theorem RepSs.get {w : World} {F : Nat → Prop} : ∀ (l : List Sh) {b off : Nat}, RepSs w F l b off → ∀ (i : Nat) (hi : i < l.length), ∃ u, At3 w b (off + i * 3) u ∧ RepS w F l[i] u
  | [], _, _, _, i, hi => by simp at hi
  | s :: l, b, off, h, i, hi => by
    unfold RepSs at h
    cases i with
    | zero => simpa using h.1
    | succ i =>
      obtain ⟨u, ha, hu⟩ := RepSs.get l h.2 i (by simpa using hi)
      exact ⟨u, by rw [show off + (i + 1) * 3 = off + 3 + i * 3 from by omega]; exact ha, by simpa using hu⟩

theorem RepSs.of {w : World} {F : Nat → Prop} : ∀ (l : List Sh) {b off : Nat}, (∀ (i : Nat) (hi : i < l.length), ∃ u, At3 w b (off + i * 3) u ∧ RepS w F l[i] u) → RepSs w F l b off
  | [], _, _, _ => by unfold RepSs; trivial
  | s :: l, b, off, h => by
    unfold RepSs
    refine ⟨h 0 (by simp), RepSs.of l fun i hi => ?_⟩
    obtain ⟨u, ha, hu⟩ := h (i + 1) (by simpa using hi)
    exact ⟨u, by rw [show off + 3 + i * 3 = off + (i + 1) * 3 from by omega]; exact ha, by simpa using hu⟩

/-- The cells of an array of structs of three, and what the structs stand for. -/
def Kids {α : Type} (R : α → Value → Prop) : List α → List Value → Prop
  | [], xs => xs = []
  | s :: l, xs => ∃ x y z r, xs = x :: y :: z :: r ∧ R s (.agg #[x, y, z]) ∧ Kids R l r

theorem Kids.mono {α : Type} {R Q : α → Value → Prop} (h : ∀ s u, R s u → Q s u) : ∀ {l : List α} {xs : List Value}, Kids R l xs → Kids Q l xs
  | [], _, k => k
  | _ :: _, _, ⟨x, y, z, r, e, a, k⟩ => ⟨x, y, z, r, e, h _ _ a, Kids.mono h k⟩

theorem Kids.snoc {α : Type} {R : α → Value → Prop} {s : α} {x y z : Value} (h : R s (.agg #[x, y, z])) : ∀ {l : List α} {xs : List Value}, Kids R l xs → Kids R (l ++ [s]) (xs ++ [x, y, z])
  | [], _, k => by rw [show _ = [] from k]; exact ⟨x, y, z, [], rfl, h, rfl⟩
  | _ :: _, _, ⟨a, b, c, r, e, ha, k⟩ => ⟨a, b, c, r ++ [x, y, z], by rw [e]; rfl, ha, Kids.snoc h k⟩

theorem Kids.length {α : Type} {R : α → Value → Prop} : ∀ {l : List α} {xs : List Value}, Kids R l xs → xs.length = 3 * l.length
  | [], _, k => by rw [show _ = [] from k]; rfl
  | _ :: l, _, ⟨a, b, c, r, e, _, k⟩ => by rw [e]; have := Kids.length k; simp; omega

theorem Kids.get {α : Type} {R : α → Value → Prop} {w : World} {g : Nat} : ∀ {l : List α} {xs : List Value} {off : Nat}, Kids R l xs →
    (∀ (j : Nat) (u : Value), xs[j]? = some u → w.cell? ⟨g, off + j, none⟩ = some u) → ∀ (i : Nat) (hi : i < l.length), ∃ u, At3 w g (off + i * 3) u ∧ R l[i] u
  | [], _, _, _, _, i, hi => by simp at hi
  | s :: l, xs, off, ⟨a, b, c, r, e, ha, k⟩, hc, i, hi => by
    subst e
    cases i with
    | zero => exact ⟨_, ⟨a, b, c, rfl, hc 0 a rfl, hc 1 b rfl, hc 2 c rfl⟩, ha⟩
    | succ i =>
      obtain ⟨u, h1, h2⟩ := Kids.get (off := off + 3) k (fun j u hj => by rw [show off + 3 + j = off + (j + 3) from by omega]; exact hc (j + 3) u (by simpa using hj)) i (by simpa using hi)
      exact ⟨u, by rw [show off + (i + 1) * 3 = off + 3 + i * 3 from by omega]; exact h1, h2⟩

/-- An array of structs of three that a call owns: at each index what it stands for. -/
theorem owned_kids {α : Type} {R : α → Value → Prop} {w : World} {base t : Nat} {v : Value} {l : List α} {xs : List Value}
    (h : w.ownsRow base t 3 v l.length xs) (k : Kids R l xs) :
    (l = [] ∧ v = .slice none 0 0) ∨ ∃ b c, v = .slice (some ⟨b, 0, none⟩) l.length c ∧ v.ownBlock = some b ∧ base ≤ b ∧ b < w.heap.size ∧ l.length ≤ c ∧ c ≤ 9223372036854775807 ∧
      ∀ (i : Nat) (hi : i < l.length), ∃ u, At3 w b (0 + i * 3) u ∧ R l[i] u := by
  have h' := h
  obtain ⟨hx, h | ⟨g, cap, cur, hv, hg, hcur, h1, h2, h3, h4⟩⟩ := h
  · exact .inl ⟨List.length_eq_zero_iff.1 h.2, h.1⟩
  · refine .inr ⟨g, cap, hv, by rw [hv]; rfl, hg, ?_, h1, h2, fun i hi => ?_⟩
    · exact (h'.lt g (by rw [hv]; rfl)).2
    · refine Kids.get k (fun j u hj => ?_) i hi
      have := h'.cells (g := g) (by rw [hv]; rfl) j u hj
      cases j <;> simpa [Addr.add] using this

theorem owned_slice {w : World} {base t size n : Nat} {v : Value} {xs : List Value} (h : w.ownsRow base t size v n xs) : ∃ a c, v = .slice a n c := by
  obtain ⟨_, h | ⟨g, cap, cur, hv, _⟩⟩ := h
  · exact ⟨none, 0, by rw [h.1, h.2]⟩
  · exact ⟨_, _, hv⟩

/-- A block that a row is not in stands as it stood when that row has grown. -/
theorem grown_keeps {w w' : World} {base t size n : Nat} {v : Value} {xs : List Value} {k : Nat} {o : Obj} (h : w.ownsRow base t size v n xs) (hg : w.grownBy w' v.ownBlock)
    (hk : k < base) (ho : w.heap[k]? = some o) : w'.heap[k]? = some o := by
  rw [hg.block k (lt_of_heap ho) ?_]
  · exact ho
  · intro h1
    have := (h.lt k h1.symm).1
    omega

/-- The three cells of a block of three that was made last. -/
theorem three_new {w : World} {x y z : Value} {t : TypeId} {g : Nat} (hg : g = w.heap.size) :
    ∀ (j : Nat) (u : Value), [x, y, z][j]? = some u → (w.alloc (.cells #[x, y, z] t)).cell? ((⟨g, 0, none⟩ : Addr).add j) = some u := by
  subst hg
  intro j u hj
  have h := cell_of_row _ w.heap.size j _ t _ (heap_alloc_new w (.cells #[x, y, z] t))
  have e : ((⟨w.heap.size, 0, none⟩ : Addr).add j) = ⟨w.heap.size, j, none⟩ := by cases j <;> simp [Addr.add]
  rw [e, h]
  simpa using hj

/-- A slice value without an element, wherever it points. -/
def Bare (v : Value) : Prop := ∃ a c, v = .slice a 0 c ∧ c ≤ 9223372036854775807 ∧ (a = none → c = 0)

theorem Bare.nil : Bare (.slice none 0 0) := ⟨none, 0, rfl, by omega, fun _ => rfl⟩

theorem Bare.at {a : Addr} {c : Nat} (h : c ≤ 9223372036854775807) : Bare (.slice (some a) 0 c) := ⟨some a, c, rfl, h, fun h => by cases h⟩

/-- Bytes in memory: a slice value that reads as a list. All of its memory lies in a block of F. -/
def RepB (w : World) (F : Nat → Prop) (L : List UInt8) (v : Value) : Prop :=
  (L = [] ∧ Bare v) ∨ ∃ b off c, v = .slice (some ⟨b, off, none⟩) L.length c ∧ F b ∧ L.length ≤ c ∧ c ≤ 9223372036854775807 ∧
    ∀ (i : Nat) (h : i < L.length), w.cell? ⟨b, off + i, none⟩ = some (.int .u8 (L[i].toNat : Int))

theorem RepB.same {w w' : World} {F G : Nat → Prop} (hF : ∀ k, F k → G k) (hw : ∀ k, F k → w'.heap[k]? = w.heap[k]?) {L : List UInt8} {v : Value} (h : RepB w F L v) : RepB w' G L v := by
  rcases h with h | ⟨b, off, c, hv, hb, hl, hm, hc⟩
  · exact .inl h
  · exact .inr ⟨b, off, c, hv, hF b hb, hl, hm, fun i hi => by rw [World.cell?_of_block (by exact hw b hb)]; exact hc i hi⟩

mutual
/-- A value of package api's Val. All of its memory lies in blocks of F. -/
def RepV (w : World) (F : Nat → Prop) : V → Value → Prop
  | .mk n b l, v => ∃ vb vl, v = .agg #[.int .u64 (n : Int), vb, vl] ∧ n < 18446744073709551616 ∧ RepB w F b vb ∧
      ((l = [] ∧ Bare vl) ∨ ∃ b off c, vl = .slice (some ⟨b, off, none⟩) l.length c ∧ F b ∧ l.length ≤ c ∧ c ≤ 9223372036854775807 ∧ RepVs w F l b off)
def RepVs (w : World) (F : Nat → Prop) : List V → Nat → Nat → Prop
  | [], _, _ => True
  | s :: l, b, off => (∃ u, At3 w b off u ∧ RepV w F s u) ∧ RepVs w F l b (off + 3)
end

/-- A slice of values. -/
def RepVl (w : World) (F : Nat → Prop) (l : List V) (v : Value) : Prop :=
  (l = [] ∧ Bare v) ∨ ∃ b off c, v = .slice (some ⟨b, off, none⟩) l.length c ∧ F b ∧ l.length ≤ c ∧ c ≤ 9223372036854775807 ∧ RepVs w F l b off

theorem RepV_mk {w : World} {F : Nat → Prop} {n : Nat} {b : List UInt8} {l : List V} {v : Value} :
    RepV w F (.mk n b l) v ↔ ∃ vb vl, v = .agg #[.int .u64 (n : Int), vb, vl] ∧ n < 18446744073709551616 ∧ RepB w F b vb ∧ RepVl w F l vl := by
  unfold RepV RepVl; exact Iff.rfl

mutual
theorem RepV.same {w w' : World} {F G : Nat → Prop} (hF : ∀ k, F k → G k) (hw : ∀ k, F k → w'.heap[k]? = w.heap[k]?) :
    ∀ (s : V) {v : Value}, RepV w F s v → RepV w' G s v
  | .mk n b l, v, h => by
    unfold RepV at h ⊢
    obtain ⟨vb, vl, hv, hn, hb, h⟩ := h
    refine ⟨vb, vl, hv, hn, hb.same hF hw, ?_⟩
    rcases h with h | ⟨b, off, c, hs, hb, h1, h2, hl⟩
    · exact .inl h
    · exact .inr ⟨b, off, c, hs, hF b hb, h1, h2, RepVs.same hF hw l (hw b hb) hl⟩
theorem RepVs.same {w w' : World} {F G : Nat → Prop} (hF : ∀ k, F k → G k) (hw : ∀ k, F k → w'.heap[k]? = w.heap[k]?) :
    ∀ (l : List V) {b off : Nat}, w'.heap[b]? = w.heap[b]? → RepVs w F l b off → RepVs w' G l b off
  | [], b, off, _, h => by unfold RepVs; trivial
  | s :: l, b, off, hb, h => by
    unfold RepVs at h ⊢
    obtain ⟨⟨u, ha, hu⟩, hl⟩ := h
    exact ⟨⟨u, ha.same hb, RepV.same hF hw s hu⟩, RepVs.same hF hw l hb hl⟩
end

theorem RepVl.same {w w' : World} {F G : Nat → Prop} (hF : ∀ k, F k → G k) (hw : ∀ k, F k → w'.heap[k]? = w.heap[k]?) {l : List V} {v : Value} (h : RepVl w F l v) : RepVl w' G l v := by
  rcases h with h | ⟨b, off, c, hs, hb, h1, h2, hl⟩
  · exact .inl h
  · exact .inr ⟨b, off, c, hs, hF b hb, h1, h2, RepVs.same hF hw l (hw b hb) hl⟩

theorem RepVs.get {w : World} {F : Nat → Prop} : ∀ (l : List V) {b off : Nat}, RepVs w F l b off → ∀ (i : Nat) (hi : i < l.length), ∃ u, At3 w b (off + i * 3) u ∧ RepV w F l[i] u
  | [], _, _, _, i, hi => by simp at hi
  | s :: l, b, off, h, i, hi => by
    unfold RepVs at h
    cases i with
    | zero => simpa using h.1
    | succ i =>
      obtain ⟨u, ha, hu⟩ := RepVs.get l h.2 i (by simpa using hi)
      exact ⟨u, by rw [show off + (i + 1) * 3 = off + 3 + i * 3 from by omega]; exact ha, by simpa using hu⟩

theorem RepVs.of {w : World} {F : Nat → Prop} : ∀ (l : List V) {b off : Nat}, (∀ (i : Nat) (hi : i < l.length), ∃ u, At3 w b (off + i * 3) u ∧ RepV w F l[i] u) → RepVs w F l b off
  | [], _, _, _ => by unfold RepVs; trivial
  | s :: l, b, off, h => by
    unfold RepVs
    refine ⟨h 0 (by simp), RepVs.of l fun i hi => ?_⟩
    obtain ⟨u, ha, hu⟩ := h (i + 1) (by simpa using hi)
    exact ⟨u, by rw [show off + 3 + i * 3 = off + (i + 1) * 3 from by omega]; exact ha, by simpa using hu⟩
end Go.Proofs.Ytafodaoehnggfaa.M
