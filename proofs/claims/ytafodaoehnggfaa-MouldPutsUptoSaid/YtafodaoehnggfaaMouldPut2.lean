/- lay of package mould: what a value's form has ahead of its parts. -/
import Derived.Test.YtafodaoehnggfaaMouldPut1
import Derived.Deep.RegionLaw
namespace Go.Proofs.Ytafodaoehnggfaa.M
open Go.RowKit

/-- What a value's form has ahead of the forms of its parts. -/
def headOf : Sh → V → List UInt8
  | .num, d => num d.n
  | .blob, d => num d.b.length ++ d.b
  | .list _, d => num d.l.length
  | .row _, _ => []

def LayPost (w : World) (B : Nat) (v : Value) (L : List UInt8) (e : Ending) (w' : World) : Prop := ∃ v', e = .returned v' ∧ Acc w B v w' v' L

theorem Acc.alloc0 {w w1 : World} {B : Nat} {v v1 : Value} {L1 : List UInt8} {o : Obj} (h : Acc (w.alloc o) B v w1 v1 L1) : Acc w B v w1 v1 L1 := by
  obtain ⟨h1, h2, h3⟩ := h
  refine ⟨h1, ⟨h2.os, h2.tape, h2.output, Nat.le_trans (by simp) h2.size, fun k hk hn => ?_⟩, ?_⟩
  · rw [h2.block k (by simp; omega) hn, Below.heap_alloc _ _ _ hk]
  · rcases h3 with h3 | ⟨g, h3, h4⟩
    · exact .inl h3
    · exact .inr ⟨g, h3, Nat.le_trans (by simp) h4⟩

/-- A row of bytes of a value, and its length. -/
theorem RepB.slice {w : World} {F : Nat → Prop} {L : List UInt8} {v : Value} (h : RepB w F L v) : ∃ a c, v = .slice a L.length c ∧ L.length ≤ 9223372036854775807 := by
  rcases h with ⟨rfl, a, c, rfl, _, _⟩ | ⟨b, off, c, rfl, _, h1, h2, _⟩
  · exact ⟨a, c, rfl, by simp⟩
  · exact ⟨_, c, rfl, by omega⟩

theorem RepB.yields {w : World} {F : Nat → Prop} {L : List UInt8} {v : Value} (h : RepB w F L v) : Yields w v L.length 1 (L.map byteV) := by
  refine ⟨by simp, ?_, ?_⟩
  · intro u hu
    obtain ⟨b, _, rfl⟩ := List.mem_map.1 hu
    rfl
  · rcases h with ⟨rfl, a, c, rfl, _, ha⟩ | ⟨b, off, c, rfl, _, h1, h2, hc⟩
    · cases a with
      | none => rw [ha rfl]; exact .inl ⟨rfl, rfl⟩
      | some a => exact .inr ⟨a, c, rfl, fun j u hj => by simp at hj⟩
    · refine .inr ⟨_, c, rfl, fun j u hj => ?_⟩
      rw [List.getElem?_map] at hj
      have hj2 : j < L.length := by
        rcases Nat.lt_or_ge j L.length with h3 | h3
        · exact h3
        · rw [List.getElem?_eq_none h3] at hj; simp at hj
      rw [List.getElem?_eq_getElem hj2] at hj
      have := hc j hj2
      simp at hj
      rw [← hj, byteV, ← this]
      cases j <;> simp [Addr.add]

theorem RepVl.slice {w : World} {F : Nat → Prop} {l : List V} {v : Value} (h : RepVl w F l v) : ∃ a c, v = .slice a l.length c ∧ l.length ≤ 9223372036854775807 := by
  rcases h with ⟨rfl, a, c, rfl, _, _⟩ | ⟨b, off, c, rfl, _, h1, h2, _⟩
  · exact ⟨a, c, rfl, by simp⟩
  · exact ⟨_, c, rfl, by omega⟩

/-- The box that was made ahead of an append stands behind it. -/
theorem box_kept {w w1 : World} {B : Nat} {v v1 : Value} {L L1 : List UInt8} {o : Obj} (hown : w.ownsRow B 5 1 v L.length (L.map byteV)) (h : Acc (w.alloc o).drew B v w1 v1 L1) : w1.heap[w.heap.size]? = some o := by
  rw [h.2.1.block w.heap.size (by simp) ?_]
  · exact heap_new w o _ rfl
  · intro h1
    have := (hown.lt _ h1.symm).2
    omega

theorem keeps_low {w w1 : World} {B : Nat} {v v1 : Value} {L1 : List UInt8} {o : Obj} {F : Nat → Prop} (h : Acc (w.alloc o).drew B v w1 v1 L1)
    (hF : ∀ b, F b → b < w.heap.size ∧ v.ownBlock ≠ some b) : ∀ b, F b → w1.heap[b]? = w.heap[b]? := by
  intro b hb
  have hl := hF b hb
  rw [h.2.1.block b (by simp; omega) (fun h1 => hl.2 h1.symm)]
  exact Below.heap_alloc _ _ _ hl.1

theorem size_after {w w1 : World} {B : Nat} {v v1 : Value} {L1 : List UInt8} {o : Obj} (hB : B ≤ w.heap.size) (h : Acc (w.alloc o).drew B v w1 v1 L1) : B ≤ w1.heap.size := by
  have := h.2.1.size
  simp at this
  omega

theorem Acc.undrew {w w1 : World} {B : Nat} {v v1 : Value} {L1 : List UInt8} (h : Acc w.drew B v w1 v1 L1) : Acc w B v w1 v1 L1 := ⟨h.1, ⟨h.2.1.os, h.2.1.tape, h.2.1.output, h.2.1.size, h.2.1.block⟩, h.2.2⟩

theorem Acc.of_app {w w1 : World} {B n m : Nat} {v v1 : Value} {L1 L2 : List UInt8} (h : AppLeft w B 5 1 v n m (L1.map byteV) (L2.map byteV) v1 w1) : Acc w B v w1 v1 (L1 ++ L2) := by
  obtain ⟨h1, h2, h3⟩ := h
  have hl := h1.1
  refine ⟨?_, h2, ?_⟩
  · rw [List.map_append, show (L1 ++ L2).length = n + m from by simpa using hl]; exact h1
  · rcases h3 with h3 | h3
    · exact .inl h3
    · exact .inr ⟨_, h3, Nat.le_refl _⟩

set_option maxHeartbeats 800000 in
theorem lay_num (d : V) (F : Nat → Prop) (B : Nat) (v u : Value) (L : List UInt8) (w : World) (hu : RepV w F d u) (hown : w.ownsRow B 5 1 v L.length (L.map byteV))
    (hB : B ≤ w.heap.size) (hL : L.length ≤ 1099511627776) :
    Calls Try.prog 26 #[v, .int .u8 110, u] w (LayPost w B v (L ++ num d.n)) := by
  obtain ⟨n, b, l⟩ := d
  obtain ⟨vb, vl, rfl, hn, hb, hl⟩ := RepV_mk.1 hu
  obtain ⟨ab, cb, rfl, hbl⟩ := hb.slice
  obtain ⟨al, cl, rfl, hll⟩ := hl.slice
  have HN : Hid ((n : Int) < 18446744073709551616) := Lib.hid (by omega)
  have HR := Lib.hid hu
  clear hu hb hl hn
  have hcall := layNumber_any B v L n (w.alloc (.cells #[.int .u64 (n : Int), .slice ab b.length cb, .slice al l.length cl] 31)) HN (hown.alloc _) (by simp; omega) hL
  have HC := Lib.hid hcall
  clear hcall
  go_enter Try.func26, Try.ntmps26
  go_wp2_with fail
  refine HC.out.mono ?_
  rintro e w1 ⟨v', rfl, hacc⟩
  go_wp2_with fail
  go_ret
  exact ⟨v', rfl, hacc.alloc0⟩

set_option maxHeartbeats 800000 in
theorem lay_list (d : V) (F : Nat → Prop) (B : Nat) (v u : Value) (L : List UInt8) (w : World) (hu : RepV w F d u) (hown : w.ownsRow B 5 1 v L.length (L.map byteV))
    (hB : B ≤ w.heap.size) (hL : L.length ≤ 1099511627776) :
    Calls Try.prog 26 #[v, .int .u8 42, u] w (LayPost w B v (L ++ num d.l.length)) := by
  obtain ⟨n, b, l⟩ := d
  obtain ⟨vb, vl, rfl, hn, hb, hl⟩ := RepV_mk.1 hu
  obtain ⟨ab, cb, rfl, hbl⟩ := hb.slice
  obtain ⟨al, cl, rfl, hll⟩ := hl.slice
  have HN : Hid ((l.length : Int) < 18446744073709551616) := Lib.hid (by omega)
  have HR := Lib.hid hu
  clear hu hb hl hn
  have hcall := layNumber_any B v L l.length (w.alloc (.cells #[.int .u64 (n : Int), .slice ab b.length cb, .slice al l.length cl] 31)) HN (hown.alloc _) (by simp; omega) hL
  have HC := Lib.hid hcall
  clear hcall
  go_enter Try.func26, Try.ntmps26
  go_wp2_with fail
  refine HC.out.mono ?_
  rintro e w1 ⟨v', rfl, hacc⟩
  go_wp2_with fail
  go_ret
  exact ⟨v', rfl, hacc.alloc0⟩

set_option maxHeartbeats 800000 in
theorem lay_row (d : V) (F : Nat → Prop) (B : Nat) (v u : Value) (L : List UInt8) (w : World) (hu : RepV w F d u) (hown : w.ownsRow B 5 1 v L.length (L.map byteV)) :
    Calls Try.prog 26 #[v, .int .u8 91, u] w (LayPost w B v (L ++ [])) := by
  obtain ⟨n, b, l⟩ := d
  obtain ⟨vb, vl, rfl, hn, hb, hl⟩ := RepV_mk.1 hu
  obtain ⟨ab, cb, rfl, hbl⟩ := hb.slice
  obtain ⟨al, cl, rfl, hll⟩ := hl.slice
  clear hu hb hl hn
  go_enter Try.func26, Try.ntmps26
  go_wp2_with fail
  go_ret
  exact ⟨v, rfl, by rw [List.append_nil]; exact (Acc.start hown).alloc _⟩

set_option maxHeartbeats 800000 in
theorem lay_blob (d : V) (F : Nat → Prop) (B : Nat) (v u : Value) (L : List UInt8) (w : World) (hu : RepV w F d u) (hown : w.ownsRow B 5 1 v L.length (L.map byteV))
    (hB : B ≤ w.heap.size) (hL : L.length + d.b.length + 9 ≤ 1099511627776) (hF : ∀ b, F b → b < w.heap.size ∧ v.ownBlock ≠ some b) :
    Calls Try.prog 26 #[v, .int .u8 98, u] w (LayPost w B v (L ++ (num d.b.length ++ d.b))) := by
  obtain ⟨n, b, l⟩ := d
  obtain ⟨vb, vl, rfl, hn, hb, hl⟩ := RepV_mk.1 hu
  have HB := Lib.hid hb
  obtain ⟨ab, cb, rfl, hbl⟩ := hb.slice
  obtain ⟨al, cl, rfl, hll⟩ := hl.slice
  simp only [V.b] at hL ⊢
  have HN : Hid ((b.length : Int) < 18446744073709551616) := Lib.hid (by omega)
  have HW : Hid (IntKind.u64.wrap (b.length : Int) = (b.length : Int)) := Lib.hid (IntWalk.u64_in _ (by omega))
  have hnl := num_length_le b.length (by omega)
  have H1 : Hid ((L ++ num b.length).length + b.length ≤ maxLen) := Lib.hid (by rw [List.length_append]; unfold maxLen; omega)
  have H2 : Hid (((L ++ num b.length).length + b.length) * 1 ≤ 140737488355328) := Lib.hid (by rw [List.length_append]; omega)
  have HR := Lib.hid hu
  clear hu hb hl hn hnl
  have hcall := layNumber_any B v L b.length (w.alloc (.cells #[.int .u64 (n : Int), .slice ab b.length cb, .slice al l.length cl] 31)).drew HN (hown.alloc _) (by simp; omega) (by omega)
  have HC := Lib.hid hcall
  clear hcall
  obtain ⟨ib, hib, hib0, hib1, hib2⟩ := info_parts infoByte
  go_enter Try.func26, Try.ntmps26
  go_wp2_with fail
  go_region_law (first | (refine step_append_own2 _ rfl (.tmp 21) (.tmp 23) 29 rfl B 5 ib (.int .u8 0) 1 1 Try.underlying29 hib hib0 hib1 hib2 rfl (by decide) _ _ _ rfl hown1 (.slice ab b.length cb) rfl b.length (b.map byteV) hyield H1.out H2.out hz1 ?_; intro v2 w2 happ; have hfin := (hacc.trans (Acc.of_app happ)).undrew.alloc0) | (go_simp; go_at_call 33; rw [HW.out]; refine HC.out.mono ?_; rintro e w1 ⟨v', rfl, hacc⟩; obtain ⟨b0, b1, b2, -, -, -, hz⟩ := block3 (box_kept hown hacc); have hyield := (HB.out.same (G := F) (fun _ h => h) (keeps_low hacc hF)).yields; have hown1 := hacc.1; have hz1 := size_after hB hacc))
  all_goals go_wp2_with fail
  all_goals go_ret
  all_goals exact ⟨_, rfl, by rw [← List.append_assoc]; assumption⟩

theorem lay_any (s : Sh) (d : V) (F : Nat → Prop) (B : Nat) (v u : Value) (L : List UInt8) (w : World) (hu : RepV w F d u) (hown : w.ownsRow B 5 1 v L.length (L.map byteV))
    (hB : B ≤ w.heap.size) (hL : L.length + d.b.length + 9 ≤ 1099511627776) (hF : ∀ b, F b → b < w.heap.size ∧ v.ownBlock ≠ some b) :
    Calls Try.prog 26 #[v, .int .u8 (kind s), u] w (LayPost w B v (L ++ headOf s d)) := by
  cases s with
  | num => exact lay_num d F B v u L w hu hown hB (by omega)
  | blob => exact lay_blob d F B v u L w hu hown hB hL hF
  | list s => exact lay_list d F B v u L w hu hown hB (by omega)
  | row l => exact lay_row d F B v u L w hu hown
end Go.Proofs.Ytafodaoehnggfaa.M
