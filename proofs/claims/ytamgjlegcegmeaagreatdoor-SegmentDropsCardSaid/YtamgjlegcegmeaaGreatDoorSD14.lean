/- Bytes as they come in. Lists of bytes as they come in. -/
import Derived.Test.YtamgjlegcegmeaaGreatDoorSD5
import Derived.ProofKit
import Derived.Deep.Slices
import Derived.OpenShut
/- Part: OpenBytes. -/
namespace Go.Proofs.YtamgjlegcegmeaaGreatDoor.M
open Go.RowKit Go.ChangeShapes Go.WideShapes Go.ChangeAt

variable {H : Type} {enc : TypeId × Value → H} {w : World}

theorem bulk_lits (k : IntKind) : ∀ (zs : List Int), Rows.uptoBulkAll (lits (H := H) k zs) = zs.length
  | [] => rfl
  | z :: zs => by
    have := bulk_lits k zs
    simp only [lits, List.map_cons, Rows.uptoBulkAll, Rows.uptoBulk, List.length_cons] at this ⊢
    omega

set_option maxRecDepth 20000 in
theorem bytes_of_trod2 {fuel : Nat} {cs : List Value} {x : DataW H × List MemPlace} (h : DataW.trod enc Tryz.prog w 0 (fun _ => true) true fuel 34 cs = some x) :
    ∃ L v, cs = [v] ∧ RepB w (fun b => b < w.heap.size) L v ∧ L.length ≤ Rows.uptoBulk x.1 ∧ ∀ n : Nat, (DataW.weights Tryz.prog 34 x.1).all (· ≤ n) = true → L.length ≤ n := by
  rcases open_ints Tryz.underlying34 Tryz.underlying5 (by kernel_rfl) h with ⟨rfl, _⟩ | ⟨a, len, cap, zs, rfl, _, hl, hm, hz, hx, hcell, hwz⟩
  · exact ⟨[], _, rfl, .inl ⟨rfl, Bare.nil⟩, Nat.zero_le _, fun _ _ => Nat.zero_le _⟩
  · rw [if_pos rfl] at hz
    unfold maxLen at hm
    by_cases hc : cap = 0
    · obtain rfl : len = 0 := by omega
      exact ⟨[], _, rfl, .inl ⟨rfl, Bare.at hm⟩, Nat.zero_le _, fun _ _ => Nat.zero_le _⟩
    · have h0 := hcell 0 (by omega)
      rw [show a.add 0 = a from rfl] at h0
      obtain ⟨hb, hs⟩ := lt_of_cell h0
      obtain ⟨b, off, sp⟩ := a
      cases hs
      refine ⟨(zs.take len).map (fun n => UInt8.ofNat n.toNat), _, rfl, .inr ⟨b, off, cap, ?_, hb, ?_, hm, fun i hi => ?_⟩, ?_, ?_⟩
      · simp; omega
      · simp; omega
      · simp at hi
        have h1 := hcell i (by omega)
        have e : (⟨b, off, none⟩ : Addr).add i = ⟨b, off + i, none⟩ := by cases i <;> simp [Addr.add]
        rw [e] at h1
        rw [h1]
        have hw := bounds_u8 (hwz zs[i] (List.getElem_mem (by omega)))
        simp only [List.getElem_map, List.getElem_take, Option.some.injEq]
        rw [UInt8.toNat_ofNat_of_lt' (by show _ < 256; omega), List.getD_eq_getElem?_getD, List.getElem?_eq_getElem (by omega)]
        simp
        omega
      · rw [hx, Rows.uptoBulk, bulk_lits]
        simp
        omega
      · intro n hn
        rw [hx] at hn
        unfold DataW.weights at hn
        rw [Tryz.underlying34] at hn
        simp only [List.all_cons, Bool.and_eq_true, decide_eq_true_eq] at hn
        have h1 := hn.1
        rw [show Tryz.prog.bytesOf 5 = 1 by kernel_rfl] at h1
        simp only [lits, List.length_map, List.length_take, List.length_drop] at h1 ⊢
        omega

theorem bytes_of_trod {fuel : Nat} {cs : List Value} {x : DataW H × List MemPlace} (h : DataW.trod enc Tryz.prog w 0 (fun _ => true) true fuel 34 cs = some x) :
    ∃ L v, cs = [v] ∧ RepB w (fun b => b < w.heap.size) L v ∧ L.length ≤ Rows.uptoBulk x.1 := by
  obtain ⟨L, v, h1, h2, h3, -⟩ := bytes_of_trod2 h
  exact ⟨L, v, h1, h2, h3⟩

set_option maxRecDepth 20000 in
theorem bytes_in {H : Type} {enc : TypeId × Value → H} {W : World} {base : Nat} {v : Value} {d : DataW H} {p : List MemPlace} (h : DataW.Trod enc Tryz.prog W 0 (fun _ => true) true 34 v d p)
    (hk : Value.okWide Tryz.prog W .any base 34 v) : ∃ L, RepB W (fun b => b < W.heap.size) L v ∧ L.length ≤ Rows.uptoBulk d := by
  obtain ⟨a, n, c, rfl⟩ := okWide_slice Tryz.underlying34 hk
  obtain ⟨fuel, hf⟩ := h
  obtain ⟨L, v, hv, hr, hn⟩ := bytes_of_trod hf
  refine ⟨L, ?_, hn⟩
  have e : [Value.slice a n c] = [v] := hv
  cases e
  exact hr
end Go.Proofs.YtamgjlegcegmeaaGreatDoor.M

/- Part: OpenBlist. -/
namespace Go.Proofs.YtamgjlegcegmeaaGreatDoor.M
open Go.RowKit Go.ChangeShapes Go.WideShapes Go.ChangeAt

variable {H : Type} {enc : TypeId × Value → H} {w : World}

theorem blist_of_trod {n : Nat} {cs : List Value} {x : DataW H × List MemPlace} (h : DataW.trod enc Tryz.prog w 0 (fun _ => true) true (n + 1) 68 cs = some x) :
    ∃ l v, cs = [v] ∧ RepBl w (fun b => b < w.heap.size) l v := by
  rcases DataW.trod_slice Tryz.underlying68 h with ⟨rfl, -⟩ | ⟨a, len, cap, elems, rest, m, hm, rfl, hx, -, hl, hc, hel, hrd, hsp, -⟩
  · exact ⟨[], _, rfl, .inl ⟨rfl, Bare.nil⟩⟩
  · obtain rfl : n = m := by omega
    unfold maxLen at hc
    rw [show Tryz.prog.cellsOf 34 = 1 from by kernel_rfl] at hrd hsp
    obtain ⟨hrl, hsp⟩ := hsp rfl
    by_cases h0 : cap = 0
    · obtain rfl : len = 0 := by omega
      exact ⟨[], _, rfl, .inl ⟨rfl, Bare.at hc⟩⟩
    · have hat : ∃ cs', w.cells? 0 (a.add (0 * 1)) 1 = some cs' := by
        by_cases h1 : len = 0
        · have h2 := hsp 0 (by omega)
          rw [List.getElem?_eq_getElem (by omega)] at h2
          obtain ⟨cs', h3, _⟩ := Option.bind_eq_some_iff.1 h2
          exact ⟨cs', by rw [h1] at h3; exact h3⟩
        · have h2 := hrd 0 (by omega)
          rw [List.getElem?_eq_getElem (by omega)] at h2
          obtain ⟨cs', h3, _⟩ := Option.bind_eq_some_iff.1 h2
          exact ⟨cs', h3⟩
      obtain ⟨cs', hat⟩ := hat
      obtain ⟨_, hcl, hcg⟩ := World.cells?_some hat
      have hc0 := hcg 0 (by omega)
      rw [List.getElem?_eq_getElem (by omega)] at hc0
      obtain ⟨hb, hs⟩ := lt_of_cell hc0
      obtain ⟨b, off, sp⟩ := a
      replace hb : b < w.heap.size := hb
      replace hs : sp = none := hs
      subst hs
      obtain ⟨l, hll, hR⟩ := list_of (R := fun i d => ∃ u, w.cell? ⟨b, off + i, none⟩ = some u ∧ RepB w (fun b => b < w.heap.size) d u) len fun i hi => by
        have h2 := hrd i hi
        rw [List.getElem?_eq_getElem (by omega)] at h2
        obtain ⟨cs', h3, h4⟩ := Option.bind_eq_some_iff.1 h2
        obtain ⟨d, v, rfl, hd, -⟩ := bytes_of_trod h4
        obtain ⟨_, _, h5⟩ := World.cells?_some h3
        rw [addr_add] at h5
        have g0 := h5 0 (by omega)
        rw [addr_add] at g0
        exact ⟨d, v, by simpa using g0, hd⟩
      subst hll
      exact ⟨l, _, rfl, .inr ⟨b, off, cap, rfl, hb, hl, hc, hR⟩⟩

set_option maxRecDepth 20000 in
theorem blist_in {H : Type} {enc : TypeId × Value → H} {W : World} {base : Nat} {v : Value} {d : DataW H} {p : List MemPlace} (h : DataW.Trod enc Tryz.prog W 0 (fun _ => true) true 68 v d p)
    (hk : Value.okWide Tryz.prog W .any base 68 v) : ∃ l, RepBl W (fun b => b < W.heap.size) l v := by
  obtain ⟨a, n, c, rfl⟩ := okWide_slice Tryz.underlying68 hk
  obtain ⟨fuel, hf⟩ := h
  cases fuel with
  | zero => simp [DataW.trod] at hf
  | succ fuel =>
    obtain ⟨l, v, hv, hr⟩ := blist_of_trod hf
    refine ⟨l, ?_⟩
    have e : [Value.slice a n c] = [v] := hv
    cases e
    exact hr
end Go.Proofs.YtamgjlegcegmeaaGreatDoor.M
