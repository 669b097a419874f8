/- How a heap's bytes lie in memory: a map of blocks. -/
import Derived.Test.YtdngfbljcmbniaaDoorCN2
import Derived.Test.YtdngfbljcmbniaaDoorCN3
import Derived.Test.YtdngfbljcmbniaaDoorCN4
import Derived.Maps.OwnOps
import Derived.Maps.RangeWalk
namespace Go.Proofs.YtdngfbljcmbniaaDoor.M
open Go.RowKit Go.Maps

/-- How a block's pointer reads: by its number. -/
def ptrElem (v : Value) : Option (DataW Nat × List MemPlace) :=
  match v with
  | .pointer none => some (.nil, [])
  | .pointer (some ⟨b, 0, none⟩) => some (.held b, [])
  | _ => none

theorem ptrElem_inv {v : Value} {y : DataW Nat × List MemPlace} (h : ptrElem v = some y) : (v = .pointer none ∧ y = (.nil, [])) ∨ ∃ b, v = .pointer (some ⟨b, 0, none⟩) ∧ y = (.held b, []) := by
  unfold ptrElem at h
  split at h
  · cases h; exact .inl ⟨rfl, rfl⟩
  · rename_i b
    cases h; exact .inr ⟨b, rfl, rfl⟩
  · cases h

theorem lawInt : Keyed Tryd.prog 3 := int_keyed Tryd.underlying3

theorem zeroBlk (w : World) : (zeroValue 83).run Tryd.prog w = .ok (.pointer none) w := by kernel_rfl

theorem key_int {q : Nat} (h : q ≤ 9223372036854775807) : keyOf Tryd.prog 3 (.int .i64 (q : Int)) = some (.int .i64 (q : Int)) :=
  keyOf_int_mk Tryd.underlying3 (WalkArith.wf_i64 (by omega))

/-- A block in memory. -/
def BlkAt (w : World) (b T : Nat) (bs : List UInt8) : Prop := w.heap[b]? = some (.cells (Value.int .u64 (T : Int) :: bs.map byteV).toArray 82)

/-- Bytes in blocks, part by part: the map's block, what it reads as, which blocks there are, where, their bits and bytes. -/
structure HeldAt (w : World) (X : Nat → Prop) (gm n : Nat) (M : DataW Nat) (S : Nat → Bool) (E T : Nat → Nat) (bs : Nat → List UInt8) (f : Nat → Option UInt8) : Prop where
  map : w.ownsMap Tryd.prog 3 ptrElem gm n M
  keys : ∀ (q : Nat) (z : DataW Nat), M.atKey (.int .i64 (q : Int)) z = if S q then .held (E q) else z
  each : ∀ q, S q = true → BlkAt w (E q) (T q) (bs q) ∧ AgreeB f q (T q) (bs q)
  none : ∀ q, S q = false → ∀ i, i < 64 → f (64 * q + i) = none
  apart : ∀ q r, S q = true → S r = true → q ≠ r → E q ≠ E r
  foot : X gm ∧ ∀ q, S q = true → X (E q)

/-- What they are good for. -/
def Held (w : World) (X : Nat → Prop) (gm n : Nat) (f : Nat → Option UInt8) : Prop := ∃ M S E T bs, HeldAt w X gm n M S E T bs f

theorem ownsMap_same {w w' : World} {gm n : Nat} {M : DataW Nat} (h : w.ownsMap Tryd.prog 3 ptrElem gm n M) (hg : w'.heap[gm]? = w.heap[gm]?) : w'.ownsMap Tryd.prog 3 ptrElem gm n M := by
  obtain ⟨es, clock, hb, F, hs, hD⟩ := h
  exact ⟨es, clock, hg.trans hb, F, hs, hD⟩

section
variable {w : World} {X : Nat → Prop} {gm n : Nat} {M : DataW Nat} {S : Nat → Bool} {E T : Nat → Nat} {bs : Nat → List UInt8} {f : Nat → Option UInt8}

theorem HeldAt.isMap (h : HeldAt w X gm n M S E T bs f) : ∃ es c, w.heap[gm]? = some (.map es c) := by
  obtain ⟨es, clock, hb, _⟩ := h.map
  exact ⟨es, clock, hb⟩

theorem HeldAt.lt (h : HeldAt w X gm n M S E T bs f) : gm < w.heap.size ∧ ∀ q, S q = true → E q < w.heap.size := by
  obtain ⟨es, c, hm⟩ := h.isMap
  exact ⟨lt_of_heap hm, fun q hq => lt_of_heap (h.each q hq).1⟩

theorem HeldAt.same (h : HeldAt w X gm n M S E T bs f) {w' : World} {Y : Nat → Prop} {m : Nat} (hm : n ≤ m) (hX : ∀ k, X k → Y k) (hs : ∀ k, X k → k < w.heap.size → w'.heap[k]? = w.heap[k]?) : HeldAt w' Y gm m M S E T bs f :=
  ⟨(ownsMap_same h.map (hs gm h.foot.1 h.lt.1)).mono hm, h.keys, fun q hq => ⟨(hs _ (h.foot.2 q hq) (h.lt.2 q hq)).trans (h.each q hq).1, (h.each q hq).2⟩, h.none, h.apart, hX _ h.foot.1, fun q hq => hX _ (h.foot.2 q hq)⟩

theorem HeldAt.next (h : HeldAt w X gm n M S E T bs f) {w' : World} (hb : Below w.heap.size w w') : HeldAt w' X gm n M S E T bs f :=
  h.same (Nat.le_refl _) (fun _ h => h) fun k _ hk => hb.block k hk

theorem HeldAt.ne (h : HeldAt w X gm n M S E T bs f) {q : Nat} (hq : S q = true) : E q ≠ gm := fun e => by
  obtain ⟨es, c, hm⟩ := h.isMap
  have h1 := (h.each q hq).1
  unfold BlkAt at h1
  rw [e, hm] at h1
  cases h1

/-- Where a block lies, as a value. -/
def ptrAt (S : Nat → Bool) (E : Nat → Nat) (q : Nat) : Value := if S q then .pointer (some ⟨E q, 0, none⟩) else .pointer none

theorem HeldAt.look (h : HeldAt w X gm n M S E T bs f) {q : Nat} (hq : q ≤ 9223372036854775807) {w' : World} (hw : w'.heap[gm]? = w.heap[gm]?) :
    (Instr.lookup 60 (.map (some gm)) (.int .i64 (q : Int)) false).run Tryd.prog w' = .ok (ptrAt S E q) w' := by
  obtain ⟨v, ps, hrun, hv⟩ := (ownsMap_same h.map hw).lookup lawInt Tryd.underlying60 (zeroBlk w') (zd := .nil) (zp := []) rfl (key_int hq)
  rw [hrun]
  rw [h.keys] at hv
  unfold ptrAt
  cases ht : S q with
  | true =>
    rw [ht] at hv
    simp only [if_true] at hv ⊢
    rcases ptrElem_inv hv with ⟨rfl, e⟩ | ⟨b, rfl, e⟩
    · cases e
    · cases e; rfl
  | false =>
    rw [ht] at hv
    simp only [Bool.false_eq_true, if_false] at hv ⊢
    rcases ptrElem_inv hv with ⟨rfl, e⟩ | ⟨b, rfl, e⟩
    · rfl
    · cases e

/-- A block more, without a byte. -/
theorem HeldAt.added (h : HeldAt w X gm n M S E T bs f) {q nb : Nat} (hS : S q = false) {w' : World} {Y : Nat → Prop} (hX : ∀ k, X k → Y k) (hY : Y nb) (hnb : ¬ X nb)
    (hm : w'.ownsMap Tryd.prog 3 ptrElem gm (n + 1) (M.put (.int .i64 (q : Int)) (.held nb))) (hb : BlkAt w' nb 0 (List.replicate 64 0)) (hw : ∀ k, X k → k < w.heap.size → k ≠ gm → w'.heap[k]? = w.heap[k]?) :
    HeldAt w' Y gm (n + 1) (M.put (.int .i64 (q : Int)) (.held nb)) (fun r => if r = q then true else S r) (fun r => if r = q then nb else E r) (fun r => if r = q then 0 else T r) (fun r => if r = q then List.replicate 64 0 else bs r) f := by
  have hne : ∀ r, S r = true → r ≠ q := fun r hr e => by rw [e, hS] at hr; cases hr
  refine ⟨hm, fun r z => ?_, fun r hr => ?_, fun r hr => ?_, fun r s hr hs hrs => ?_, hX _ h.foot.1, fun r hr => ?_⟩
  · by_cases e : r = q
    · subst e
      rw [atKey_put_same (h.map.tidy lawInt).isMap (show WideAt.IsKeyLit (.int .i64 (r : Int)) from trivial)]
      simp
    · rw [atKey_put_other (fun h => e (by have := (Lit.int.inj h).2; omega)), h.keys]
      simp only [if_neg e]
  · by_cases e : r = q
    · subst e
      simp only [if_true]
      exact ⟨hb, AgreeB.empty (h.none r hS)⟩
    · simp only [if_neg e] at hr ⊢
      exact ⟨(hw _ (h.foot.2 r hr) (h.lt.2 r hr) (h.ne hr)).trans (h.each r hr).1, (h.each r hr).2⟩
  · by_cases e : r = q
    · simp only [if_pos e] at hr; cases hr
    · simp only [if_neg e] at hr
      exact h.none r hr
  · by_cases e : r = q
    · have e2 : s ≠ q := fun e2 => hrs (e.trans e2.symm)
      simp only [if_pos e, if_neg e2] at hs ⊢
      intro e3
      exact hnb (e3 ▸ h.foot.2 s hs)
    · by_cases e2 : s = q
      · simp only [if_pos e2, if_neg e] at hr ⊢
        intro e3
        exact hnb (e3 ▸ h.foot.2 r hr)
      · simp only [if_neg e, if_neg e2] at hr hs ⊢
        exact h.apart r s hr hs hrs
  · by_cases e : r = q
    · simp only [if_pos e]; exact hY
    · simp only [if_neg e] at hr ⊢
      exact hX _ (h.foot.2 r hr)

/-- Bytes laid in a block. -/
theorem HeldAt.laid (h : HeldAt w X gm n M S E T bs f) {q frm : Nat} {b : List UInt8} (hS : S q = true) (hl : frm + b.length ≤ 64) {w' : World}
    (hb : BlkAt w' (E q) (T q ||| maskN frm b.length) (spliceB (bs q) frm b)) (hw : ∀ k, X k → k < w.heap.size → k ≠ E q → w'.heap[k]? = w.heap[k]?) :
    HeldAt w' X gm n M S E (fun r => if r = q then T q ||| maskN frm b.length else T r) (fun r => if r = q then spliceB (bs q) frm b else bs r) (ov f (64 * q + frm) b) := by
  refine ⟨ownsMap_same h.map (hw gm h.foot.1 h.lt.1 (h.ne hS).symm), h.keys, fun r hr => ?_, fun r hr i hi => ?_, h.apart, h.foot⟩
  · by_cases e : r = q
    · subst e
      simp only [if_true]
      exact ⟨hb, (h.each r hS).2.laid hl⟩
    · simp only [if_neg e]
      exact ⟨(hw _ (h.foot.2 r hr) (h.lt.2 r hr) (h.apart r q hr hS e)).trans (h.each r hr).1, (h.each r hr).2.other hl e⟩
  · have e : r ≠ q := fun e => by rw [e, hS] at hr; cases hr
    unfold ov
    rw [if_neg (by omega)]
    exact h.none r hr i hi

/-- A map without a block. -/
theorem HeldAt.new {w : World} {X : Nat → Prop} {gm : Nat} (hg : w.heap[gm]? = some (.map #[] 0)) (hX : X gm) : HeldAt w X gm 0 (.map []) (fun _ => false) (fun _ => 0) (fun _ => 0) (fun _ => []) (fun _ => Option.none) := by
  refine ⟨?_, fun q z => rfl, fun q hq => (by cases hq), fun q _ i _ => rfl, fun q r hq => (by cases hq), hX, fun q hq => (by cases hq)⟩
  obtain ⟨es, c, hb, F, hs, hD⟩ := World.ownsMap_made (H := Nat) w Tryd.prog 3 ptrElem
  rw [heap_new _ _ _ rfl] at hb
  cases hb
  exact ⟨#[], 0, hg, F, hs, hD⟩
end

theorem Held.same {w w' : World} {X Y : Nat → Prop} {gm n m : Nat} {f : Nat → Option UInt8} (h : Held w X gm n f) (hm : n ≤ m) (hX : ∀ k, X k → Y k) (hs : ∀ k, X k → k < w.heap.size → w'.heap[k]? = w.heap[k]?) : Held w' Y gm m f := by
  obtain ⟨M, S, E, T, bs, h⟩ := h
  exact ⟨M, S, E, T, bs, h.same hm hX hs⟩
end Go.Proofs.YtdngfbljcmbniaaDoor.M
