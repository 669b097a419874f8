/- A mark as it comes in. -/
import Derived.Test.YtdngfbljcmbniaaDoorCN11
import Derived.Test.YtdngfbljcmbniaaDoorCN21
import Derived.ProofKit
import Derived.OpenShut
import Derived.ChangeSame
namespace Go.Proofs.YtdngfbljcmbniaaDoor.M
open Go.RowKit

set_option maxRecDepth 20000 in
open Go.ChangeShapes Go.WideShapes Go.ChangeAt in
theorem mark_in {H : Type} {enc : TypeId × Value → H} {W : World} {base : Nat} {v : Value} {d : DataW H} {p : List MemPlace} (h : DataW.Trod enc Tryd.prog W 0 (fun _ => true) true 23 v d p)
    (hk : Value.okWide Tryd.prog W .any base 23 v) : ∃ i t : Int, v = mkAgg i t ∧ (-9223372036854775808 ≤ i ∧ i ≤ 9223372036854775807) ∧ -9223372036854775808 ≤ t ∧ t ≤ 9223372036854775807 := by
  unfold Value.okWide at hk
  rw [Tryd.underlying23] at hk
  obtain ⟨cs, rfl, hs, -⟩ := hk
  rw [show Tryd.prog.cellsOf 23 = 2 from by kernel_rfl] at hs
  obtain ⟨fuel, hf⟩ := h
  obtain ⟨l⟩ := cs
  match l, hs with
  | [c0, c1], _ =>
    obtain ⟨y0, y1, n, -, -, h0, h1⟩ := trod_struct2 Tryd.underlying23 hf
    have hc : Tryd.prog.cellsOf 3 = 1 := by kernel_rfl
    simp only [hc, List.drop_zero, List.take_succ_cons, List.take_zero, List.drop_succ_cons] at h0 h1
    obtain ⟨z0, e0, -, b0⟩ := DataW.trod_int Tryd.underlying3 h0
    obtain ⟨z1, e1, -, b1⟩ := DataW.trod_int Tryd.underlying3 h1
    cases e0; cases e1
    have a0 := bounds_i64 b0
    have a1 := bounds_i64 b1
    exact ⟨z0, z1, rfl, a0, a1⟩
end Go.Proofs.YtdngfbljcmbniaaDoor.M
