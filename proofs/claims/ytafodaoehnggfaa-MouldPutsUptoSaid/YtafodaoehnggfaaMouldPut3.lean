/- Put and Is of package mould. -/
import Derived.Test.YtafodaoehnggfaaMouldWalk
namespace Go.Proofs.Ytafodaoehnggfaa.M
open Go.RowKit

mutual
theorem putV_le : ∀ (s : Sh) (d : V), (putV s d).length ≤ vsize d
  | .num, .mk n b l => by have := num_le n; simp only [putV, V.n, vsize]; omega
  | .blob, .mk n b l => by have := num_le b.length; simp only [putV, V.b, vsize, List.length_append]; omega
  | .list s, .mk n b l => by
    have h1 := num_le l.length
    have h2 := flatten_le (f := putV s) l fun v _ => putV_le s v
    simp only [putV, V.l, vsize, List.length_append]
    omega
  | .row l, .mk n b vs => by
    have := putVs_le l vs
    simp only [putV, V.l, vsize]
    omega
theorem putVs_le : ∀ (l : List Sh) (vs : List V), (putVs l vs).length ≤ vsizes vs
  | [], vs => by simp [putVs]
  | s :: l, [] => by simp [putVs]
  | s :: l, v :: vs => by
    have h1 := putV_le s v
    have h2 := putVs_le l vs
    simp only [putVs, vsizes, List.length_append]
    omega
end

section
variable {fn : FuncId} {caps : Array Value} (T : Teller fn caps)
mutual
theorem walk_any : ∀ s, WalkSaid T s
  | .num => walk_num T
  | .blob => walk_blob T
  | .list s => walk_list T (walk_any s) fun d _ => putV_le s d
  | .row l => walk_row T (walks_any l) fun s _ d _ => putV_le s d
theorem walks_any : ∀ (l : List Sh), ∀ s ∈ l, WalkSaid T s
  | [], s, h => by simp at h
  | t :: l, s, h => by
    rcases List.mem_cons.1 h with h | h
    · rw [h]; exact walk_any t
    · exact walks_any l s h
end
end

/-- What Put tells: the bytes are laid behind those that a variable holds. -/
def outAt (bo : Nat) (L : List UInt8) (w : World) : Prop :=
  ∃ v, w.heap[bo]? = some (.cells #[v] 29) ∧ w.ownsRow (bo + 1) 5 1 v L.length (L.map byteV)

def putCold (bo : Nat) (w : World) (k : Nat) : Prop := k ≠ bo ∧ ∀ v, w.heap[bo]? = some (.cells #[v] 29) → v.ownBlock ≠ some k

theorem put_entry (args : Array Value) (w : World) : (callFunc 25 args).run Try.prog w = .ok (.enter 25 args) w := by
  simp [go_sem]

theorem outAt_alloc {bo : Nat} {L : List UInt8} {w : World} (o : Obj) (h : outAt bo L w) : outAt bo L (w.alloc o) := by
  obtain ⟨v, h1, h2⟩ := h
  exact ⟨v, old_alloc h1, h2.alloc o⟩

theorem outAt.own {bo : Nat} {L : List UInt8} {w : World} (h : outAt bo L w) : ∃ v, w.heap[bo]? = some (.cells #[v] 29) ∧ w.ownsRow (bo + 1) 5 1 v L.length (L.map byteV) ∧ bo < w.heap.size := by
  obtain ⟨v, h1, h2⟩ := h
  exact ⟨v, h1, h2, lt_of_heap h1⟩

theorem block1 {w : World} {g : Nat} {x : Value} {t : TypeId} (h : w.heap[g]? = some (.cells #[x] t)) : w.cell? ⟨g, 0, none⟩ = some x ∧ w.frozen? ⟨g, 0, none⟩ = false ∧ g < w.heap.size :=
  ⟨cell_of_row w g 0 _ t _ h, frozen_of_row w g 0 _ t h, lt_of_heap h⟩

set_option maxHeartbeats 800000 in
theorem put_tell (bo : Nat) (s : Sh) (d : V) (F : Nat → Prop) (u : Value) (L : List UInt8) (w : World) (hI : outAt bo L w) (hu : RepV w F d u) (hF : ∀ b, F b → b < w.heap.size ∧ putCold bo w b)
    (hL : L.length + d.b.length + 9 ≤ 1099511627776) :
    Calls Try.prog 25 #[.int .u8 (kind s), u, .pointer (some ⟨bo, 0, none⟩)] w fun e w' => e = .returned (.tuple #[]) ∧ outAt bo (L ++ headOf s d) w' ∧ Fr (putCold bo) w w' := by
  obtain ⟨v, hb, hown, hlt⟩ := hI.own
  obtain ⟨n, ab, nb, cb, al, nl, cl, rfl⟩ := hu.form
  have hF2 : ∀ b, F b → b < (w.alloc (.cells #[.int .u64 n, .slice ab nb cb, .slice al nl cl] 31)).heap.size ∧ v.ownBlock ≠ some b := fun b hb2 => ⟨by have := (hF b hb2).1; simp; omega, (hF b hb2).2.2 v hb⟩
  have hcall := lay_any s d F (bo + 1) v _ L (w.alloc (.cells #[.int .u64 n, .slice ab nb cb, .slice al nl cl] 31)) (hu.same (fun _ h => h) fun b hb2 => Below.heap_alloc _ _ _ (hF b hb2).1) (hown.alloc _) (by simp; omega) hL hF2
  have HC := Lib.hid hcall
  obtain ⟨a, c, rfl⟩ := owned_slice hown
  obtain ⟨c0, f0, _⟩ := block1 hb
  have HB := Lib.hid hb
  clear hcall hF hF2 hu hI hb
  go_enter Try.func25, Try.ntmps25
  go_wp2_with fail
  refine HC.out.mono ?_
  rintro e w1 ⟨v1, rfl, hacc⟩
  have hb1 : w1.heap[bo]? = some (.cells #[.slice a L.length c] 29) := by
    rw [hacc.2.1.block bo (by simp; omega) ?_]
    · exact old_alloc HB.out
    · intro h1
      have := (hown.lt _ h1.symm).1
      omega
  obtain ⟨c1, f1, hlt1⟩ := block1 hb1
  obtain ⟨a1, k1, rfl⟩ := owned_slice hacc.1
  have HB1 := Lib.hid hb1
  clear hb1
  go_wp2_with fail
  go_end0
  refine ⟨rfl, ⟨_, ?_, ownsRow_setCell_below hacc.1 (by simp) _⟩, ⟨hacc.2.1.os, hacc.2.1.tape, hacc.2.1.output, ?_, ?_, ?_⟩⟩
  · have := heap_setCell_same w1 bo 0 _ _ (.slice a1 (L ++ headOf s d).length k1) HB1.out
    simpa using this
  · have := hacc.2.1.size
    simp at this ⊢
    omega
  · intro k hk hc
    rw [Below.heap_setCell _ _ _ _ hc.1, hacc.2.1.block k (by simp; omega) fun h => hc.2 _ HB.out h.symm, Below.heap_alloc _ _ _ hk]
  · intro k hk hc
    refine ⟨hc.1, fun x hx => ?_⟩
    have h2 := heap_setCell_same w1 bo 0 _ _ (.slice a1 (L.length + (headOf s d).length) k1) HB1.out
    rw [h2] at hx
    simp at hx
    rw [← hx]
    rcases hacc.2.2 with h3 | ⟨g, h3, h4⟩
    · rw [show (Value.slice a1 (L.length + (headOf s d).length) k1).ownBlock = _ from by simpa using h3]; exact hc.2 _ HB.out
    · rw [show (Value.slice a1 (L.length + (headOf s d).length) k1).ownBlock = _ from by simpa using h3]
      intro h5
      simp at h4 h5
      omega

def putTeller (bo : Nat) : Teller 25 #[.pointer (some ⟨bo, 0, none⟩)] where
  entry := put_entry
  I := outAt bo
  cold := putCold bo
  iAlloc := fun o h => outAt_alloc o h
  iDrew := fun h => h
  cAlloc := fun {L w k} o hI hk hc => ⟨hc.1, fun v hv => by
    obtain ⟨_, _, _, hlt⟩ := hI.own
    rw [Below.heap_alloc _ _ _ hlt] at hv
    exact hc.2 v hv⟩
  cNew := fun {L w} o hI => by
    obtain ⟨v, hb, hown, hlt⟩ := hI.own
    refine ⟨by omega, fun x hx h => ?_⟩
    rw [Below.heap_alloc _ _ _ hlt, hb] at hx
    simp at hx
    rw [← hx] at h
    have := (hown.lt _ h).2
    omega
  cDrew := fun h => h
  call := put_tell bo

/-- What Is tells: nothing is kept. -/
def isTeller : Teller 27 #[] where
  entry := fun args w => by simp [go_sem]
  I := fun _ _ => True
  cold := fun _ _ => True
  iAlloc := fun _ _ => trivial
  iDrew := fun _ => trivial
  cAlloc := fun _ _ _ _ => trivial
  cNew := fun _ _ => trivial
  cDrew := fun _ => trivial
  call := fun s d F u L w _ hu hF _ => by
    obtain ⟨n, ab, nb, cb, al, nl, cl, rfl⟩ := hu.form
    clear hu hF
    go_enter Try.func27, Try.ntmps27
    go_wp2_with fail
    go_end0
    exact ⟨rfl, trivial, (Fr.refl w).trans ⟨rfl, rfl, rfl, by simp, fun k hk _ => Below.heap_alloc _ _ _ hk, fun _ _ h => h⟩⟩
end Go.Proofs.Ytafodaoehnggfaa.M
