/- Bytes as they come in. -/
import Derived.Test.YtgiipkmkmomofaaBytes
import Derived.ProofKit
import Derived.Deep.Slices
import Derived.OpenShut
namespace Go.Proofs.Ytgiipkmkmomofaa.M
open Go.RowKit Go.ChangeShapes Go.WideShapes Go.ChangeAt

variable {H : Type} {enc : TypeId × Value → H} {w : World}

theorem bulk_lits (k : IntKind) : ∀ (zs : List Int), Rows.uptoBulkAll (lits (H := H) k zs) = zs.length
  | [] => rfl
  | z :: zs => by
    have := bulk_lits k zs
    simp only [lits, List.map_cons, Rows.uptoBulkAll, Rows.uptoBulk, List.length_cons] at this ⊢
    omega

theorem bytes_of_trod {fuel : Nat} {cs : List Value} {x : DataW H × List MemPlace} (h : DataW.trod enc Try.prog w 0 (fun _ => true) true fuel 41 cs = some x) :
    ∃ L v, cs = [v] ∧ RepB w (fun b => b < w.heap.size) L v ∧ L.length ≤ Rows.uptoBulk x.1 := by
  rcases open_ints Try.underlying41 Try.underlying5 (by kernel_rfl) h with ⟨rfl, _⟩ | ⟨a, len, cap, zs, rfl, _, hl, hm, hz, hx, hcell, hwz⟩
  · exact ⟨[], _, rfl, .inl ⟨rfl, Bare.nil⟩, Nat.zero_le _⟩
  · rw [if_pos rfl] at hz
    unfold maxLen at hm
    by_cases hc : cap = 0
    · obtain rfl : len = 0 := by omega
      exact ⟨[], _, rfl, .inl ⟨rfl, Bare.at hm⟩, Nat.zero_le _⟩
    · have h0 := hcell 0 (by omega)
      rw [show a.add 0 = a from rfl] at h0
      obtain ⟨hb, hs⟩ := lt_of_cell h0
      obtain ⟨b, off, sp⟩ := a
      cases hs
      refine ⟨(zs.take len).map (fun n => UInt8.ofNat n.toNat), _, rfl, .inr ⟨b, off, cap, ?_, hb, ?_, hm, fun i hi => ?_⟩, ?_⟩
      · simp; omega
      · simp; omega
      · simp at hi
        have h1 := hcell i (by omega)
        have e : (⟨b, off, none⟩ : Addr).add i = ⟨b, off + i, none⟩ := by cases i <;> simp [Addr.add]
        rw [e] at h1
        rw [h1]
        have hw := bounds_u8 (hwz zs[i] (List.getElem_mem (by omega)))
        simp only [List.getElem_map, List.getElem_take, Option.some.injEq]
        rw [UInt8.toNat_ofNat_of_lt' (by show _ < 256; omega), List.getD_eq_getElem?_getD, List.getElem?_eq_getElem (by omega)]
        simp
        omega
      · rw [hx, Rows.uptoBulk, bulk_lits]
        simp
        omega

set_option maxRecDepth 20000 in
theorem bytes_in {H : Type} {enc : TypeId × Value → H} {W : World} {base : Nat} {v : Value} {d : DataW H} {p : List MemPlace} (h : DataW.Trod enc Try.prog W 0 (fun _ => true) true 41 v d p)
    (hk : Value.okWide Try.prog W .any base 41 v) : ∃ L, RepB W (fun b => b < W.heap.size) L v ∧ L.length ≤ Rows.uptoBulk d := by
  obtain ⟨a, n, c, rfl⟩ := okWide_slice Try.underlying41 hk
  obtain ⟨fuel, hf⟩ := h
  obtain ⟨L, v, hv, hr, hn⟩ := bytes_of_trod hf
  refine ⟨L, ?_, hn⟩
  have e : [Value.slice a n c] = [v] := hv
  cases e
  exact hr
end Go.Proofs.Ytgiipkmkmomofaa.M
