/- An argument that is a value of package api's Val, or a slice of them. -/
import Derived.Test.YtafodaoehnggfaaOpenVal
namespace Go.Proofs.Ytafodaoehnggfaa.M
open Go.RowKit Go.ChangeShapes Go.WideShapes Go.ChangeAt

theorem val_in {H : Type} {enc : TypeId × Value → H} {W : World} {base : Nat} {v : Value} {d : DataW H} {p : List MemPlace} (h : DataW.Trod enc Try.prog W 0 (fun _ => true) true 31 v d p)
    (hk : Value.okWide Try.prog W .any base 31 v) : ∃ x, RepV W (fun b => b < W.heap.size) x v ∧ vsize x ≤ 9 * Rows.uptoBulk d := by
  unfold Value.okWide at hk
  rw [Try.underlying31] at hk
  obtain ⟨cs, rfl, -, -⟩ := hk
  obtain ⟨fuel, hf⟩ := h
  obtain ⟨x, a, b, c, hcs, hr, hn⟩ := (vals_of_trod fuel).1 _ _ hf
  refine ⟨x, ?_, hn⟩
  have e : cs = #[a, b, c] := by
    have : cs.toList = [a, b, c] := hcs
    cases cs; simp at this; rw [this]
  rw [e]; exact hr

theorem vals_in {H : Type} {enc : TypeId × Value → H} {W : World} {base : Nat} {v : Value} {d : DataW H} {p : List MemPlace} (h : DataW.Trod enc Try.prog W 0 (fun _ => true) true 26 v d p)
    (hk : Value.okWide Try.prog W .any base 26 v) : ∃ l, RepVl W (fun b => b < W.heap.size) l v ∧ vsizes l ≤ 9 * Rows.uptoBulk d := by
  obtain ⟨a, n, c, rfl⟩ := okWide_slice Try.underlying26 hk
  obtain ⟨fuel, hf⟩ := h
  obtain ⟨l, v, hv, hr, hn⟩ := (vals_of_trod fuel).2 _ _ hf
  refine ⟨l, ?_, hn⟩
  have e : [Value.slice a n c] = [v] := hv
  cases e
  exact hr
end Go.Proofs.Ytafodaoehnggfaa.M
