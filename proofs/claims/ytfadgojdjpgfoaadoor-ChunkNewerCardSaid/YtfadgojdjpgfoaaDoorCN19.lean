/- Bytes as they come in. An argument of type [2]int, out of the reading. -/
import Derived.Test.YtfadgojdjpgfoaaDoorCN2
import Derived.ProofKit
import Derived.Deep.Slices
import Derived.OpenShut
import Derived.Lib.LaidTab
/- Part: OpenBytes. -/
namespace Go.Proofs.YtfadgojdjpgfoaaDoor.M
open Go.RowKit Go.ChangeShapes Go.WideShapes Go.ChangeAt

variable {H : Type} {enc : TypeId × Value → H} {w : World}

theorem bulk_lits (k : IntKind) : ∀ (zs : List Int), Rows.uptoBulkAll (lits (H := H) k zs) = zs.length
  | [] => rfl
  | z :: zs => by
    have := bulk_lits k zs
    simp only [lits, List.map_cons, Rows.uptoBulkAll, Rows.uptoBulk, List.length_cons] at this ⊢
    omega

set_option maxRecDepth 20000 in
theorem bytes_of_trod2 {fuel : Nat} {cs : List Value} {x : DataW H × List MemPlace} (h : DataW.trod enc Tryd.prog w 0 (fun _ => true) true fuel 24 cs = some x) :
    ∃ L v, cs = [v] ∧ RepB w (fun b => b < w.heap.size) L v ∧ L.length ≤ Rows.uptoBulk x.1 ∧ ∀ n : Nat, (DataW.weights Tryd.prog 24 x.1).all (· ≤ n) = true → L.length ≤ n := by
  rcases open_ints Tryd.underlying24 Tryd.underlying5 (by kernel_rfl) h with ⟨rfl, _⟩ | ⟨a, len, cap, zs, rfl, _, hl, hm, hz, hx, hcell, hwz⟩
  · exact ⟨[], _, rfl, .inl ⟨rfl, Bare.nil⟩, Nat.zero_le _, fun _ _ => Nat.zero_le _⟩
  · rw [if_pos rfl] at hz
    unfold maxLen at hm
    by_cases hc : cap = 0
    · obtain rfl : len = 0 := by omega
      exact ⟨[], _, rfl, .inl ⟨rfl, Bare.at hm⟩, Nat.zero_le _, fun _ _ => Nat.zero_le _⟩
    · have h0 := hcell 0 (by omega)
      rw [show a.add 0 = a from rfl] at h0
      obtain ⟨hb, hs⟩ := lt_of_cell h0
      obtain ⟨b, off, sp⟩ := a
      cases hs
      refine ⟨(zs.take len).map (fun n => UInt8.ofNat n.toNat), _, rfl, .inr ⟨b, off, cap, ?_, hb, ?_, hm, fun i hi => ?_⟩, ?_, ?_⟩
      · simp; omega
      · simp; omega
      · simp at hi
        have h1 := hcell i (by omega)
        have e : (⟨b, off, none⟩ : Addr).add i = ⟨b, off + i, none⟩ := by cases i <;> simp [Addr.add]
        rw [e] at h1
        rw [h1]
        have hw := bounds_u8 (hwz zs[i] (List.getElem_mem (by omega)))
        simp only [List.getElem_map, List.getElem_take, Option.some.injEq]
        rw [UInt8.toNat_ofNat_of_lt' (by show _ < 256; omega), List.getD_eq_getElem?_getD, List.getElem?_eq_getElem (by omega)]
        simp
        omega
      · rw [hx, Rows.uptoBulk, bulk_lits]
        simp
        omega
      · intro n hn
        rw [hx] at hn
        unfold DataW.weights at hn
        rw [Tryd.underlying24] at hn
        simp only [List.all_cons, Bool.and_eq_true, decide_eq_true_eq] at hn
        have h1 := hn.1
        rw [show Tryd.prog.bytesOf 5 = 1 by kernel_rfl] at h1
        simp only [lits, List.length_map, List.length_take, List.length_drop] at h1 ⊢
        omega

theorem bytes_of_trod {fuel : Nat} {cs : List Value} {x : DataW H × List MemPlace} (h : DataW.trod enc Tryd.prog w 0 (fun _ => true) true fuel 24 cs = some x) :
    ∃ L v, cs = [v] ∧ RepB w (fun b => b < w.heap.size) L v ∧ L.length ≤ Rows.uptoBulk x.1 := by
  obtain ⟨L, v, h1, h2, h3, -⟩ := bytes_of_trod2 h
  exact ⟨L, v, h1, h2, h3⟩

set_option maxRecDepth 20000 in
theorem bytes_in {H : Type} {enc : TypeId × Value → H} {W : World} {base : Nat} {v : Value} {d : DataW H} {p : List MemPlace} (h : DataW.Trod enc Tryd.prog W 0 (fun _ => true) true 24 v d p)
    (hk : Value.okWide Tryd.prog W .any base 24 v) : ∃ L, RepB W (fun b => b < W.heap.size) L v ∧ L.length ≤ Rows.uptoBulk d := by
  obtain ⟨a, n, c, rfl⟩ := okWide_slice Tryd.underlying24 hk
  obtain ⟨fuel, hf⟩ := h
  obtain ⟨L, v, hv, hr, hn⟩ := bytes_of_trod hf
  refine ⟨L, ?_, hn⟩
  have e : [Value.slice a n c] = [v] := hv
  cases e
  exact hr
end Go.Proofs.YtfadgojdjpgfoaaDoor.M

/- Part: OpenTwo. -/
namespace Go.Proofs.YtfadgojdjpgfoaaDoor.M
open Go.RowKit Go.ChangeShapes Go.WideShapes Go.ChangeAt

/-- Two cells that are read as an array are each read as an element. -/
theorem two_each {H : Type} {enc : TypeId × Value → H} {P : Program} {w : World} {base : Nat} {sp : Nat → Bool} {held : Bool} {fuel : Nat} {t e : TypeId} {c0 c1 : Value} {x : DataW H × List MemPlace}
    (ht : P.underlying t = some (.array 2 e)) (hce : P.cellsOf e = 1) (h : DataW.trod enc P w base sp held fuel t [c0, c1] = some x) :
    ∃ n y0 y1, DataW.trod enc P w base sp held n e [c0] = some y0 ∧ DataW.trod enc P w base sp held n e [c1] = some y1 := by
  cases fuel with
  | zero => simp [DataW.trod] at h
  | succ n =>
    simp only [DataW.trod, ht, hce, Nat.mul_one] at h
    split at h
    · obtain ⟨xs, hm, -⟩ := Option.map_eq_some_iff.1 h
      obtain ⟨y0, -, h0⟩ := Lib.mapM_at hm 0 0 (by simp)
      obtain ⟨y1, -, h1⟩ := Lib.mapM_at hm 1 1 (by simp)
      exact ⟨n, y0, y1, by simpa using h0, by simpa using h1⟩
    · cases h

theorem two_in {H : Type} {enc : TypeId × Value → H} {W : World} {base : Nat} {v : Value} {d : DataW H} {p : List MemPlace} (h : DataW.Trod enc Tryd.prog W 0 (fun _ => true) true 53 v d p)
    (hk : Value.okWide Tryd.prog W .any base 53 v) : ∃ z0 z1 : Int, v = .agg #[.int .i64 z0, .int .i64 z1] ∧ (-9223372036854775808 ≤ z0 ∧ z0 ≤ 9223372036854775807) ∧ -9223372036854775808 ≤ z1 ∧ z1 ≤ 9223372036854775807 := by
  unfold Value.okWide at hk
  rw [Tryd.underlying53] at hk
  obtain ⟨cs, rfl, hs, -⟩ := hk
  rw [show Tryd.prog.cellsOf 53 = 2 from by kernel_rfl] at hs
  obtain ⟨fuel, hf⟩ := h
  obtain ⟨l⟩ := cs
  match l, hs with
  | [c0, c1], _ =>
    obtain ⟨n, y0, y1, h0, h1⟩ := two_each Tryd.underlying53 (by kernel_rfl) hf
    obtain ⟨z0, e0, -, b0⟩ := DataW.trod_int Tryd.underlying3 h0
    obtain ⟨z1, e1, -, b1⟩ := DataW.trod_int Tryd.underlying3 h1
    cases e0; cases e1
    exact ⟨z0, z1, rfl, bounds_i64 b0, bounds_i64 b1⟩
end Go.Proofs.YtfadgojdjpgfoaaDoor.M
