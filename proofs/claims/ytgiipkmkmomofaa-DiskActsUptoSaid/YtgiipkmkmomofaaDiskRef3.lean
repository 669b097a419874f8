/- The document's disk: Stop, take. -/
import Derived.Test.YtgiipkmkmomofaaDiskRef2
namespace Go.Proofs.Ytgiipkmkmomofaa.M
open Go.RowKit
open D (Fl Dk)

set_option maxHeartbeats 800000 in
theorem RefStop_any (d : Dk) (X : Nat → Prop) (gd : Nat) (n : Int) (w : World) (hd : Dsk w X gd d) (_hn : Hid (-9223372036854775808 ≤ n ∧ n ≤ 9223372036854775807)) :
    Calls Try.prog 35 #[.pointer (some ⟨gd, 0, none⟩), .int .i64 n] w fun e w' => e = .returned (.tuple #[]) ∧ Only X w w' ∧ Dsk w' X gd (D.stop d n) ∧ w'.heap.size = w.heap.size := by
  obtain ⟨vl, fv, hat⟩ := hd
  obtain ⟨cc, ⟨-, -, c2, c3⟩, ⟨-, -, f2, f3⟩, hz, hbox, -⟩ := hat.cells
  have HBX := Lib.hid hbox
  have HAT := Lib.hid hat
  clear hat hbox
  go_enter Try.func35, Try.ntmps35
  go_wp2_with fail
  go_end0
  have hb1 := heap_setCell_same _ _ 2 _ _ (.bool (decide (0 ≤ n))) HBX.out
  have hb2 := heap_setCell_same _ _ 3 _ _ (.int .i64 n) hb1
  refine ⟨rfl, ⟨rfl, rfl, rfl, by simp, fun k hk hne => ?_⟩, ⟨vl, fv, HAT.out.turned rfl ⟨n, ?_, fun h => ?_⟩ fun k hk => ?_⟩, by simp⟩
  · have : k ≠ gd := fun e => hne (e ▸ HAT.out.own)
    rw [Below.heap_setCell _ _ _ _ (by simpa using this), Below.heap_setCell _ _ _ _ (by simpa using this)]
  · rw [hb2]; simp [D.stop]
  · simp only [D.stop, decide_eq_true_eq] at h ⊢
    omega
  · rw [Below.heap_setCell _ _ _ _ (by simpa using hk), Below.heap_setCell _ _ _ _ (by simpa using hk)]

theorem flCells_append (a b : List (Fl × Value)) : flCells (a ++ b) = flCells a ++ flCells b := by simp [flCells]

theorem infoFile : (Try.prog.info? 68).map (fun i => (i.zero, i.size, i.bytes)) = some (some (.agg #[.string ByteArray.empty, .slice none 0 0, .int .i64 0]), 3, 48) := by kernel_rfl

/-- A part of the files' row, as an append reads it. -/
theorem DkAt.yields {w : World} {X : Nat → Prop} {gd : Nat} {d : Dk} {vl : Value} {fv : List (Fl × Value)} (h : DkAt w X gd d vl fv) {ga c : Nat} (hv : vl = .slice (some ⟨ga, 0, none⟩) fv.length c) (i m c' : Nat) (hm : i + m ≤ fv.length) :
    Yields w (.slice (some ⟨ga, i * 3, none⟩) m c') m 3 (flCells ((fv.drop i).take m)) := by
  have hr := h.row
  rw [hv] at hr
  refine ⟨by rw [flCells_length]; simp; omega, ?_, .inr ⟨_, c', rfl, ?_⟩⟩
  · intro u hu
    simp only [flCells, List.mem_flatMap] at hu
    obtain ⟨p, hp, hu⟩ := hu
    have hp2 : p ∈ fv := List.mem_of_mem_drop (List.mem_of_mem_take hp)
    obtain ⟨a, c, hs⟩ := owned_slice (h.each p hp2)
    simp only [flV, List.mem_cons, List.not_mem_nil, or_false] at hu
    rcases hu with rfl | rfl | rfl
    · rfl
    · rw [hs]; rfl
    · rfl
  · intro j u hj
    have hjl : j < m * 3 := by
      have := (List.getElem?_eq_some_iff.1 hj).1
      rw [flCells_length] at this
      simp at this
      omega
    rw [show (⟨ga, i * 3, none⟩ : Addr).add j = ⟨ga, i * 3 + j, none⟩ from by cases j <;> simp [Addr.add], hr.cellAt _ (by omega)]
    have e : flCells fv = flCells (fv.take i) ++ (flCells ((fv.drop i).take m) ++ flCells ((fv.drop i).drop m)) := by
      rw [← flCells_append, ← flCells_append, List.take_append_drop, List.take_append_drop]
    rw [e, List.getElem?_append_right (by rw [flCells_length]; simp; omega), List.getElem?_append_left (by simp only [flCells_length, List.length_take, List.length_drop]; omega), ← hj]
    congr 1
    rw [flCells_length]
    simp
    omega
end Go.Proofs.Ytgiipkmkmomofaa.M
