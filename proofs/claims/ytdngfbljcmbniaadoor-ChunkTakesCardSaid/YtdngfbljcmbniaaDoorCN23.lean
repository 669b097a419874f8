/- Bytes as they come in. Slices of ints in memory. A slice of ints as it comes in. -/
import Derived.Test.YtdngfbljcmbniaaDoorCN2
import Derived.ProofKit
import Derived.Deep.Slices
import Derived.OpenShut
/- Part: OpenBytes. -/
namespace Go.Proofs.YtdngfbljcmbniaaDoor.M
open Go.RowKit Go.ChangeShapes Go.WideShapes Go.ChangeAt

variable {H : Type} {enc : TypeId × Value → H} {w : World}

theorem bulk_lits (k : IntKind) : ∀ (zs : List Int), Rows.uptoBulkAll (lits (H := H) k zs) = zs.length
  | [] => rfl
  | z :: zs => by
    have := bulk_lits k zs
    simp only [lits, List.map_cons, Rows.uptoBulkAll, Rows.uptoBulk, List.length_cons] at this ⊢
    omega

set_option maxRecDepth 20000 in
theorem bytes_of_trod2 {fuel : Nat} {cs : List Value} {x : DataW H × List MemPlace} (h : DataW.trod enc Tryd.prog w 0 (fun _ => true) true fuel 24 cs = some x) :
    ∃ L v, cs = [v] ∧ RepB w (fun b => b < w.heap.size) L v ∧ L.length ≤ Rows.uptoBulk x.1 ∧ ∀ n : Nat, (DataW.weights Tryd.prog 24 x.1).all (· ≤ n) = true → L.length ≤ n := by
  rcases open_ints Tryd.underlying24 Tryd.underlying5 (by kernel_rfl) h with ⟨rfl, _⟩ | ⟨a, len, cap, zs, rfl, _, hl, hm, hz, hx, hcell, hwz⟩
  · exact ⟨[], _, rfl, .inl ⟨rfl, Bare.nil⟩, Nat.zero_le _, fun _ _ => Nat.zero_le _⟩
  · rw [if_pos rfl] at hz
    unfold maxLen at hm
    by_cases hc : cap = 0
    · obtain rfl : len = 0 := by omega
      exact ⟨[], _, rfl, .inl ⟨rfl, Bare.at hm⟩, Nat.zero_le _, fun _ _ => Nat.zero_le _⟩
    · have h0 := hcell 0 (by omega)
      rw [show a.add 0 = a from rfl] at h0
      obtain ⟨hb, hs⟩ := lt_of_cell h0
      obtain ⟨b, off, sp⟩ := a
      cases hs
      refine ⟨(zs.take len).map (fun n => UInt8.ofNat n.toNat), _, rfl, .inr ⟨b, off, cap, ?_, hb, ?_, hm, fun i hi => ?_⟩, ?_, ?_⟩
      · simp; omega
      · simp; omega
      · simp at hi
        have h1 := hcell i (by omega)
        have e : (⟨b, off, none⟩ : Addr).add i = ⟨b, off + i, none⟩ := by cases i <;> simp [Addr.add]
        rw [e] at h1
        rw [h1]
        have hw := bounds_u8 (hwz zs[i] (List.getElem_mem (by omega)))
        simp only [List.getElem_map, List.getElem_take, Option.some.injEq]
        rw [UInt8.toNat_ofNat_of_lt' (by show _ < 256; omega), List.getD_eq_getElem?_getD, List.getElem?_eq_getElem (by omega)]
        simp
        omega
      · rw [hx, Rows.uptoBulk, bulk_lits]
        simp
        omega
      · intro n hn
        rw [hx] at hn
        unfold DataW.weights at hn
        rw [Tryd.underlying24] at hn
        simp only [List.all_cons, Bool.and_eq_true, decide_eq_true_eq] at hn
        have h1 := hn.1
        rw [show Tryd.prog.bytesOf 5 = 1 by kernel_rfl] at h1
        simp only [lits, List.length_map, List.length_take, List.length_drop] at h1 ⊢
        omega

theorem bytes_of_trod {fuel : Nat} {cs : List Value} {x : DataW H × List MemPlace} (h : DataW.trod enc Tryd.prog w 0 (fun _ => true) true fuel 24 cs = some x) :
    ∃ L v, cs = [v] ∧ RepB w (fun b => b < w.heap.size) L v ∧ L.length ≤ Rows.uptoBulk x.1 := by
  obtain ⟨L, v, h1, h2, h3, -⟩ := bytes_of_trod2 h
  exact ⟨L, v, h1, h2, h3⟩

set_option maxRecDepth 20000 in
theorem bytes_in {H : Type} {enc : TypeId × Value → H} {W : World} {base : Nat} {v : Value} {d : DataW H} {p : List MemPlace} (h : DataW.Trod enc Tryd.prog W 0 (fun _ => true) true 24 v d p)
    (hk : Value.okWide Tryd.prog W .any base 24 v) : ∃ L, RepB W (fun b => b < W.heap.size) L v ∧ L.length ≤ Rows.uptoBulk d := by
  obtain ⟨a, n, c, rfl⟩ := okWide_slice Tryd.underlying24 hk
  obtain ⟨fuel, hf⟩ := h
  obtain ⟨L, v, hv, hr, hn⟩ := bytes_of_trod hf
  refine ⟨L, ?_, hn⟩
  have e : [Value.slice a n c] = [v] := hv
  cases e
  exact hr
end Go.Proofs.YtdngfbljcmbniaaDoor.M

/- Part: Ints. -/
namespace Go.Proofs.YtdngfbljcmbniaaDoor.M
open Go.RowKit

/-- A slice of ints. -/
def RepI (w : World) (F : Nat → Prop) (l : List Int) (v : Value) : Prop :=
  (l = [] ∧ Bare v) ∨ ∃ b off c, v = .slice (some ⟨b, off, none⟩) l.length c ∧ F b ∧ l.length ≤ c ∧ c ≤ 9223372036854775807 ∧
    ∀ (i : Nat) (h : i < l.length), w.cell? ⟨b, off + i, none⟩ = some (.int .i64 l[i]) ∧ -9223372036854775808 ≤ l[i] ∧ l[i] ≤ 9223372036854775807

theorem RepI.same {w w' : World} {F G : Nat → Prop} (hF : ∀ k, F k → G k) (hw : ∀ k, F k → w'.heap[k]? = w.heap[k]?) {l : List Int} {v : Value} (h : RepI w F l v) : RepI w' G l v := by
  rcases h with h | ⟨b, off, c, hv, hb, hl, hm, hc⟩
  · exact .inl h
  · exact .inr ⟨b, off, c, hv, hF b hb, hl, hm, fun i hi => ⟨by rw [World.cell?_of_block (by exact hw b hb)]; exact (hc i hi).1, (hc i hi).2⟩⟩

theorem RepI.slice {w : World} {F : Nat → Prop} {l : List Int} {v : Value} (h : RepI w F l v) : ∃ a c, v = .slice a l.length c ∧ l.length ≤ 9223372036854775807 := by
  rcases h with ⟨rfl, a, c, rfl, _⟩ | ⟨b, off, c, rfl, _, h1, h2, _⟩
  · exact ⟨a, c, rfl, by simp⟩
  · exact ⟨_, c, rfl, by omega⟩

theorem RepI.elem {w : World} {F : Nat → Prop} {l : List Int} {a : Option Addr} {n c : Nat} (h : RepI w F l (.slice a n c)) (i : Nat) (hi : i < l.length) :
    ∃ b off, a = some ⟨b, off, none⟩ ∧ F b ∧ w.cell? ⟨b, off + i, none⟩ = some (.int .i64 l[i]) ∧ -9223372036854775808 ≤ l[i] ∧ l[i] ≤ 9223372036854775807 := by
  rcases h with ⟨h, _⟩ | ⟨b, off, c', h, hb, _, _, hc⟩
  · rw [h] at hi; simp at hi
  · cases h
    exact ⟨b, off, rfl, hb, hc i hi⟩

theorem RepI.elem' {w : World} {F : Nat → Prop} {l : List Int} {a : Option Addr} {n c m : Nat} (h : RepI w F l (.slice a n c)) (hm : m = l.length) (i : Nat) (hi : i < m) :
    ∃ b off, a = some ⟨b, off, none⟩ ∧ F b ∧ w.cell? ⟨b, off + i, none⟩ = some (.int .i64 (l[i]'(by omega))) ∧ -9223372036854775808 ≤ (l[i]'(by omega)) ∧ (l[i]'(by omega)) ≤ 9223372036854775807 := h.elem i (by omega)
end Go.Proofs.YtdngfbljcmbniaaDoor.M

/- Part: OpenInts. -/
namespace Go.Proofs.YtdngfbljcmbniaaDoor.M
open Go.RowKit Go.ChangeShapes Go.WideShapes Go.ChangeAt

variable {H : Type} {enc : TypeId × Value → H} {w : World}

/-- A slice of elements of one cell, read one by one. -/
theorem slice1 {n len cap : Nat} {a : Addr} {α : Type} {R : Nat → Value → α → Prop} {t e : TypeId} (hce : Tryd.prog.cellsOf e = 1) {elems rest : List (DataW H × List MemPlace)} (hl : len ≤ cap) (hel : elems.length = len) (h0 : cap ≠ 0)
    (hrd : ∀ i, i < len → (w.cells? 0 (a.add (i * Tryd.prog.cellsOf e)) (Tryd.prog.cellsOf e)).bind (DataW.trod enc Tryd.prog w 0 (fun _ => true) true n e) = elems[i]?)
    (hrl : rest.length = cap - len) (hsp : ∀ j, j < cap - len → (w.cells? 0 (a.add ((len + j) * Tryd.prog.cellsOf e)) (Tryd.prog.cellsOf e)).bind (DataW.trod enc Tryd.prog w 0 (fun _ => true) true n e) = rest[j]?)
    (hR : ∀ i v y, i < len → elems[i]? = some y → DataW.trod enc Tryd.prog w 0 (fun _ => true) true n e [v] = some y → ∃ d, R i v d) :
    ∃ b off, a = ⟨b, off, none⟩ ∧ b < w.heap.size ∧ ∃ l : List α, l.length = len ∧ ∀ (i : Nat) (hi : i < l.length), ∃ v, w.cell? ⟨b, off + i, none⟩ = some v ∧ R i v l[i] := by
  rw [hce] at hrd hsp
  have hat : ∃ cs', w.cells? 0 (a.add (0 * 1)) 1 = some cs' := by
    by_cases h1 : len = 0
    · have h2 := hsp 0 (by omega)
      rw [List.getElem?_eq_getElem (by omega)] at h2
      obtain ⟨cs', h3, _⟩ := Option.bind_eq_some_iff.1 h2
      exact ⟨cs', by rw [h1] at h3; exact h3⟩
    · have h2 := hrd 0 (by omega)
      rw [List.getElem?_eq_getElem (by omega)] at h2
      obtain ⟨cs', h3, _⟩ := Option.bind_eq_some_iff.1 h2
      exact ⟨cs', h3⟩
  obtain ⟨cs', hat⟩ := hat
  obtain ⟨_, hcl, hcg⟩ := World.cells?_some hat
  have hc0 := hcg 0 (by omega)
  rw [List.getElem?_eq_getElem (by omega)] at hc0
  obtain ⟨hb, hs⟩ := lt_of_cell hc0
  obtain ⟨b, off, sp⟩ := a
  replace hb : b < w.heap.size := hb
  replace hs : sp = none := hs
  subst hs
  obtain ⟨l, hll, hl2⟩ := list_of (R := fun i d => ∃ v, w.cell? ⟨b, off + i, none⟩ = some v ∧ R i v d) len fun i hi => by
    have h2 := hrd i hi
    rw [List.getElem?_eq_getElem (by omega)] at h2
    obtain ⟨cs', h3, h4⟩ := Option.bind_eq_some_iff.1 h2
    obtain ⟨_, h6, h5⟩ := World.cells?_some h3
    obtain ⟨v, rfl⟩ : ∃ v, cs' = [v] := by
      match cs', h6 with
      | [v], _ => exact ⟨v, rfl⟩
    rw [addr_add] at h5
    have g0 := h5 0 (by omega)
    rw [addr_add] at g0
    obtain ⟨d, hd⟩ := hR i v _ hi (List.getElem?_eq_getElem (by omega)) h4
    exact ⟨d, v, by simpa using g0, hd⟩
  exact ⟨b, off, rfl, hb, l, hll, hl2⟩

theorem bulk_pos (d : DataW H) : 1 ≤ Rows.uptoBulk d := by
  cases d with
  | lit l => cases l <;> simp [Rows.uptoBulk]
  | _ => simp [Rows.uptoBulk]

theorem bulk_len : ∀ es : List (DataW H), es.length ≤ Rows.uptoBulkAll es
  | [] => Nat.zero_le _
  | e :: es => by
    have h1 := bulk_pos e
    have h2 := bulk_len es
    simp only [List.length_cons, Rows.uptoBulkAll]
    omega

end Go.Proofs.YtdngfbljcmbniaaDoor.M
