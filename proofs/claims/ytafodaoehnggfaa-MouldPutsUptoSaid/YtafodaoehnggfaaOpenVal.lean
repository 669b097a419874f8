/- Bytes, values of package api's Val, and slices of these, as they come in. -/
import Derived.Test.YtafodaoehnggfaaMouldSame2
import Derived.ProofKit
import Derived.Deep.Slices
import Derived.OpenShut
namespace Go.Proofs.Ytafodaoehnggfaa.M
open Go.RowKit Go.ChangeShapes Go.WideShapes Go.ChangeAt

variable {H : Type} {enc : TypeId × Value → H} {w : World}

theorem lt_of_cell {w : World} {a : Addr} {v : Value} (h : w.cell? a = some v) : a.block < w.heap.size ∧ a.spot = none := by
  unfold World.cell? at h
  split at h
  · rename_i c t f hq
    refine ⟨(Array.getElem?_eq_some_iff.1 hq).1, ?_⟩
    split at h
    · cases h
    · rename_i hs; simpa using hs
  · cases h

/-- A list out of its elements, one at a time. -/
theorem list_of {α : Type} {R : Nat → α → Prop} : ∀ (n : Nat), (∀ i, i < n → ∃ x, R i x) → ∃ l : List α, l.length = n ∧ ∀ (i : Nat) (hi : i < l.length), R i l[i]
  | 0, _ => ⟨[], rfl, fun i hi => by simp at hi⟩
  | n + 1, h => by
    obtain ⟨l, hl, hr⟩ := list_of n fun i hi => h i (by omega)
    obtain ⟨x, hx⟩ := h n (by omega)
    refine ⟨l ++ [x], by simp [hl], fun i hi => ?_⟩
    by_cases hn : i < l.length
    · rw [List.getElem_append_left hn]; exact hr i hn
    · obtain rfl : i = n := by simp at hi; omega
      rw [List.getElem_append_right (by omega)]
      simpa [hl] using hx

theorem addr_add (b off i : Nat) : (⟨b, off, none⟩ : Addr).add i = ⟨b, off + i, none⟩ := by cases i <;> simp [Addr.add]

theorem bulk_lits (k : IntKind) : ∀ (zs : List Int), Rows.uptoBulkAll (lits (H := H) k zs) = zs.length
  | [] => rfl
  | z :: zs => by
    have := bulk_lits k zs
    simp only [lits, List.map_cons, Rows.uptoBulkAll, Rows.uptoBulk, List.length_cons] at this ⊢
    omega

theorem bytes_of_trod {fuel : Nat} {cs : List Value} {x : DataW H × List MemPlace} (h : DataW.trod enc Try.prog w 0 (fun _ => true) true fuel 29 cs = some x) :
    ∃ L v, cs = [v] ∧ RepB w (fun b => b < w.heap.size) L v ∧ L.length ≤ Rows.uptoBulk x.1 := by
  rcases open_ints Try.underlying29 Try.underlying5 (by kernel_rfl) h with ⟨rfl, _⟩ | ⟨a, len, cap, zs, rfl, _, hl, hm, hz, hx, hcell, hwz⟩
  · exact ⟨[], _, rfl, .inl ⟨rfl, Bare.nil⟩, Nat.zero_le _⟩
  · rw [if_pos rfl] at hz
    unfold maxLen at hm
    by_cases hc : cap = 0
    · obtain rfl : len = 0 := by omega
      exact ⟨[], _, rfl, .inl ⟨rfl, Bare.at hm⟩, Nat.zero_le _⟩
    · have h0 := hcell 0 (by omega)
      rw [show a.add 0 = a from rfl] at h0
      obtain ⟨hb, hs⟩ := lt_of_cell h0
      obtain ⟨b, off, sp⟩ := a
      cases hs
      refine ⟨(zs.take len).map (fun n => UInt8.ofNat n.toNat), _, rfl, .inr ⟨b, off, cap, ?_, hb, ?_, hm, fun i hi => ?_⟩, ?_⟩
      · simp; omega
      · simp; omega
      · simp at hi
        have h1 := hcell i (by omega)
        have e : (⟨b, off, none⟩ : Addr).add i = ⟨b, off + i, none⟩ := by cases i <;> simp [Addr.add]
        rw [e] at h1
        rw [h1]
        have hw := bounds_u8 (hwz zs[i] (List.getElem_mem (by omega)))
        simp only [List.getElem_map, List.getElem_take, Option.some.injEq]
        rw [UInt8.toNat_ofNat_of_lt' (by show _ < 256; omega), List.getD_eq_getElem?_getD, List.getElem?_eq_getElem (by omega)]
        simp
        omega
      · rw [hx, Rows.uptoBulk, bulk_lits]
        simp
        omega

theorem bulk_vals : ∀ (l : List V) (es : List (DataW H)), l.length = es.length → (∀ (i : Nat) (h1 : i < l.length) (h2 : i < es.length), vsize l[i] ≤ 9 * Rows.uptoBulk es[i]) → vsizes l ≤ 9 * Rows.uptoBulkAll es
  | [], _, _, _ => by simp [vsizes]
  | d :: l, [], h, _ => by simp at h
  | d :: l, e :: es, h, hi => by
    have h0 := hi 0 (by simp) (by simp)
    have h1 := bulk_vals l es (by simpa using h) fun i h1 h2 => hi (i + 1) (by simpa using h1) (by simpa using h2)
    simp only [List.getElem_cons_zero] at h0
    simp only [vsizes, Rows.uptoBulkAll]
    omega

theorem vals_of_trod : ∀ (fuel : Nat),
    (∀ (cs : List Value) (x : DataW H × List MemPlace), DataW.trod enc Try.prog w 0 (fun _ => true) true fuel 31 cs = some x → ∃ d a b c, cs = [a, b, c] ∧ RepV w (fun b => b < w.heap.size) d (.agg #[a, b, c]) ∧ vsize d ≤ 9 * Rows.uptoBulk x.1) ∧
    (∀ (cs : List Value) (x : DataW H × List MemPlace), DataW.trod enc Try.prog w 0 (fun _ => true) true fuel 26 cs = some x → ∃ l v, cs = [v] ∧ RepVl w (fun b => b < w.heap.size) l v ∧ vsizes l ≤ 9 * Rows.uptoBulk x.1)
  | 0 => ⟨fun cs x h => by simp [DataW.trod] at h, fun cs x h => by simp [DataW.trod] at h⟩
  | n + 1 => by
    have ih := vals_of_trod n
    constructor
    · intro cs x h
      obtain ⟨xs, m, hm, hx, hl, hxs, hf⟩ := DataW.trod_struct Try.underlying31 h
      obtain rfl : n = m := by omega
      rw [show Try.prog.cellsOf 31 = 3 from by kernel_rfl] at hl
      obtain ⟨a, b, c, rfl⟩ : ∃ a b c, cs = [a, b, c] := by
        match cs, hl with
        | [a, b, c], _ => exact ⟨a, b, c, rfl⟩
      have h0 := hf 0 _ rfl
      have h1 := hf 1 _ rfl
      have h2 := hf 2 _ rfl
      match xs, hxs with
      | [y0, y1, y2], _ =>
        replace h0 : DataW.trod enc Try.prog w 0 (fun _ => true) true n 28 (List.take (Try.prog.cellsOf 28) (List.drop 0 [a, b, c])) = some y0 := h0
        rw [show Try.prog.cellsOf 28 = 1 from by kernel_rfl] at h0
        replace h0 : DataW.trod enc Try.prog w 0 (fun _ => true) true n 28 [a] = some y0 := h0
        replace h1 : DataW.trod enc Try.prog w 0 (fun _ => true) true n 29 (List.take (Try.prog.cellsOf 29) (List.drop 1 [a, b, c])) = some y1 := h1
        rw [show Try.prog.cellsOf 29 = 1 from by kernel_rfl] at h1
        replace h1 : DataW.trod enc Try.prog w 0 (fun _ => true) true n 29 [b] = some y1 := h1
        replace h2 : DataW.trod enc Try.prog w 0 (fun _ => true) true n 26 (List.take (Try.prog.cellsOf 26) (List.drop 2 [a, b, c])) = some y2 := h2
        rw [show Try.prog.cellsOf 26 = 1 from by kernel_rfl] at h2
        replace h2 : DataW.trod enc Try.prog w 0 (fun _ => true) true n 26 [c] = some y2 := h2
        obtain ⟨L, v, hv, hB, hn1⟩ := bytes_of_trod h1
        obtain ⟨l, v2, hv2, hV, hn2⟩ := ih.2 _ _ h2
        obtain ⟨z, hz, -, hw⟩ := DataW.trod_int Try.underlying28 h0
        cases hv
        cases hv2
        cases hz
        have hb := bounds_u64 hw
        refine ⟨.mk z.toNat L l, _, _, _, rfl, RepV_mk.2 ⟨_, _, ?_, by omega, hB, hV⟩, ?_⟩
        · rw [Int.toNat_of_nonneg hb.1]
        · rw [hx]
          simp only [vsize, List.map_cons, List.map_nil, Rows.uptoBulk, Rows.uptoBulkAll]
          omega
    · intro cs x h
      rcases DataW.trod_slice Try.underlying26 h with ⟨rfl, -⟩ | ⟨a, len, cap, elems, rest, m, hm, rfl, hx, -, hl, hc, hel, hrd, hsp, -⟩
      · exact ⟨[], _, rfl, .inl ⟨rfl, Bare.nil⟩, Nat.zero_le _⟩
      · obtain rfl : n = m := by omega
        unfold maxLen at hc
        rw [show Try.prog.cellsOf 31 = 3 from by kernel_rfl] at hrd hsp
        obtain ⟨hrl, hsp⟩ := hsp rfl
        by_cases h0 : cap = 0
        · obtain rfl : len = 0 := by omega
          exact ⟨[], _, rfl, .inl ⟨rfl, Bare.at hc⟩, Nat.zero_le _⟩
        · have hat : ∃ cs', w.cells? 0 (a.add (0 * 3)) 3 = some cs' := by
            by_cases h1 : len = 0
            · have h2 := hsp 0 (by omega)
              rw [List.getElem?_eq_getElem (by omega)] at h2
              obtain ⟨cs', h3, _⟩ := Option.bind_eq_some_iff.1 h2
              exact ⟨cs', by rw [h1] at h3; exact h3⟩
            · have h2 := hrd 0 (by omega)
              rw [List.getElem?_eq_getElem (by omega)] at h2
              obtain ⟨cs', h3, _⟩ := Option.bind_eq_some_iff.1 h2
              exact ⟨cs', h3⟩
          obtain ⟨cs', hat⟩ := hat
          obtain ⟨_, hcl, hcg⟩ := World.cells?_some hat
          have hc0 := hcg 0 (by omega)
          rw [List.getElem?_eq_getElem (by omega)] at hc0
          obtain ⟨hb, hs⟩ := lt_of_cell hc0
          obtain ⟨b, off, sp⟩ := a
          replace hb : b < w.heap.size := hb
          replace hs : sp = none := hs
          subst hs
          obtain ⟨l, hll, hR⟩ := list_of (R := fun i d => (∃ u, At3 w b (off + i * 3) u ∧ RepV w (fun b => b < w.heap.size) d u) ∧ ∀ e, elems[i]? = some e → vsize d ≤ 9 * Rows.uptoBulk e.1) len fun i hi => by
            have h2 := hrd i hi
            rw [List.getElem?_eq_getElem (by omega)] at h2
            obtain ⟨cs', h3, h4⟩ := Option.bind_eq_some_iff.1 h2
            obtain ⟨d, p, q, r, rfl, hd, hn⟩ := ih.1 _ _ h4
            obtain ⟨_, _, h5⟩ := World.cells?_some h3
            rw [addr_add] at h5
            have g0 := h5 0 (by omega)
            have g1 := h5 1 (by omega)
            have g2 := h5 2 (by omega)
            rw [addr_add] at g0 g1 g2
            exact ⟨d, ⟨_, ⟨p, q, r, rfl, g0, g1, g2⟩, hd⟩, fun e he => by
              rw [List.getElem?_eq_getElem (by omega)] at he
              cases he
              exact hn⟩
          subst hll
          refine ⟨l, _, rfl, .inr ⟨b, off, cap, rfl, hb, hl, hc, RepVs.of l fun i hi => (hR i hi).1⟩, ?_⟩
          rw [hx]
          have := bulk_vals l (elems.map (·.1)) (by simp [hel]) fun i h1 h2 => by
            have h3 : i < elems.length := by simpa using h2
            have := (hR i h1).2 _ (List.getElem?_eq_getElem h3)
            simpa using this
          simp only [Rows.uptoBulk]
          omega
end Go.Proofs.Ytafodaoehnggfaa.M
