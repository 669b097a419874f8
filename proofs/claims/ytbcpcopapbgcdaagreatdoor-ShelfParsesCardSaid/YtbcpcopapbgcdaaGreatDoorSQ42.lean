/- A snapshot as it comes in. -/
import Derived.Test.YtbcpcopapbgcdaaGreatDoorSQ27
import Derived.Test.YtbcpcopapbgcdaaGreatDoorSQ13
import Derived.ProofKit
import Derived.OpenShut
import Derived.ChangeSame
namespace Go.Proofs.YtbcpcopapbgcdaaGreatDoor.M
open Go.RowKit

set_option maxRecDepth 20000 in
open Go.ChangeShapes Go.WideShapes Go.ChangeAt in
theorem snap_in2 {H : Type} {enc : TypeId × Value → H} {W : World} {base : Nat} {v : Value} {d : DataW H} {p : List MemPlace} (h : DataW.Trod enc Tryz.prog W 0 (fun _ => true) true 53 v d p)
    (hk : Value.okWide Tryz.prog W .any base 53 v) : ∃ (x : Sn) (cv bv : Value), v = snAgg x cv bv ∧ RepB W (fun b => b < W.heap.size) x.conf cv ∧ RepB W (fun b => b < W.heap.size) x.body bv ∧ x.conf.length + x.body.length ≤ Rows.uptoBulk d ∧ ∀ n : Nat, (DataW.weights Tryz.prog 53 d).all (· ≤ n) = true → x.conf.length ≤ n ∧ x.body.length ≤ n := by
  unfold Value.okWide at hk
  rw [Tryz.underlying53] at hk
  obtain ⟨cs, rfl, hs, -⟩ := hk
  rw [show Tryz.prog.cellsOf 53 = 4 from by kernel_rfl] at hs
  obtain ⟨fuel, hf⟩ := h
  obtain ⟨l⟩ := cs
  match l, hs with
  | [c0, c1, c2, c3], _ =>
    obtain ⟨n, rfl⟩ : ∃ n, fuel = n + 1 := by
      cases fuel with
      | zero => simp [DataW.trod] at hf
      | succ n => exact ⟨n, rfl⟩
    obtain ⟨xs, m, hm, hx, hl, hxs, hg⟩ := DataW.trod_struct Tryz.underlying53 hf
    obtain rfl : n = m := by omega
    have h0 := hg 0 _ rfl
    have h1 := hg 1 _ rfl
    have h2 := hg 2 _ rfl
    match xs, hxs with
    | [y0, y1, y2], _ =>
      replace h0 : DataW.trod enc Tryz.prog W 0 (fun _ => true) true n 32 (List.take (Tryz.prog.cellsOf 32) (List.drop 0 [c0, c1, c2, c3])) = some y0 := h0
      rw [show Tryz.prog.cellsOf 32 = 2 from by kernel_rfl] at h0
      replace h0 : DataW.trod enc Tryz.prog W 0 (fun _ => true) true n 32 [c0, c1] = some y0 := h0
      replace h1 : DataW.trod enc Tryz.prog W 0 (fun _ => true) true n 34 (List.take (Tryz.prog.cellsOf 34) (List.drop 2 [c0, c1, c2, c3])) = some y1 := h1
      rw [show Tryz.prog.cellsOf 34 = 1 from by kernel_rfl] at h1
      replace h1 : DataW.trod enc Tryz.prog W 0 (fun _ => true) true n 34 [c2] = some y1 := h1
      replace h2 : DataW.trod enc Tryz.prog W 0 (fun _ => true) true n 34 (List.take (Tryz.prog.cellsOf 34) (List.drop 3 [c0, c1, c2, c3])) = some y2 := h2
      rw [show Tryz.prog.cellsOf 34 = 1 from by kernel_rfl] at h2
      replace h2 : DataW.trod enc Tryz.prog W 0 (fun _ => true) true n 34 [c3] = some y2 := h2
      obtain ⟨L1, v1, hv1, hB1, hn1, hm1⟩ := bytes_of_trod2 h1
      obtain ⟨L2, v2, hv2, hB2, hn2, hm2⟩ := bytes_of_trod2 h2
      obtain ⟨z0, z1, k, -, -, g0, g1⟩ := trod_struct2 Tryz.underlying32 h0
      have hc : Tryz.prog.cellsOf 3 = 1 := by kernel_rfl
      simp only [hc, List.drop_zero, List.take_succ_cons, List.take_zero, List.drop_succ_cons] at g0 g1
      obtain ⟨i, e0, -, -⟩ := DataW.trod_int Tryz.underlying3 g0
      obtain ⟨t, e1, -, -⟩ := DataW.trod_int Tryz.underlying3 g1
      cases e0; cases e1; cases hv1; cases hv2
      refine ⟨⟨i, t, L1, L2⟩, _, _, rfl, hB1, hB2, ?_, ?_⟩
      · cases hx
        simp only [List.map_cons, List.map_nil, Rows.uptoBulk, Rows.uptoBulkAll]
        omega
      · intro n hn
        cases hx
        unfold DataW.weights at hn
        rw [Tryz.underlying53] at hn
        simp only [List.map_cons, List.map_nil, DataW.weightsEach, List.all_append, Bool.and_eq_true] at hn
        exact ⟨hm1 n hn.2.1, hm2 n hn.2.2.1⟩

set_option maxRecDepth 20000 in
theorem snap_in {H : Type} {enc : TypeId × Value → H} {W : World} {base : Nat} {v : Value} {d : DataW H} {p : List MemPlace} (h : DataW.Trod enc Tryz.prog W 0 (fun _ => true) true 53 v d p)
    (hk : Value.okWide Tryz.prog W .any base 53 v) : ∃ (x : Sn) (cv bv : Value), v = snAgg x cv bv ∧ RepB W (fun b => b < W.heap.size) x.conf cv ∧ RepB W (fun b => b < W.heap.size) x.body bv ∧ x.conf.length + x.body.length ≤ Rows.uptoBulk d := by
  obtain ⟨x, cv, bv, h1, h2, h3, h4, -⟩ := snap_in2 h hk
  exact ⟨x, cv, bv, h1, h2, h3, h4⟩
end Go.Proofs.YtbcpcopapbgcdaaGreatDoor.M
