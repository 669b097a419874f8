/- A slice of ints as it comes in. -/
import Derived.Test.YtamgjlegcegmeaaGreatDoorSD14
import Derived.Test.YtamgjlegcegmeaaGreatDoorSD16
namespace Go.Proofs.YtamgjlegcegmeaaGreatDoor.M
open Go.RowKit Go.ChangeShapes Go.WideShapes Go.ChangeAt

variable {H : Type} {enc : TypeId × Value → H} {w : World}

/-- A slice of elements of one cell, read one by one. -/
theorem slice1 {n len cap : Nat} {a : Addr} {α : Type} {R : Nat → Value → α → Prop} {t e : TypeId} (hce : Tryz.prog.cellsOf e = 1) {elems rest : List (DataW H × List MemPlace)} (hl : len ≤ cap) (hel : elems.length = len) (h0 : cap ≠ 0)
    (hrd : ∀ i, i < len → (w.cells? 0 (a.add (i * Tryz.prog.cellsOf e)) (Tryz.prog.cellsOf e)).bind (DataW.trod enc Tryz.prog w 0 (fun _ => true) true n e) = elems[i]?)
    (hrl : rest.length = cap - len) (hsp : ∀ j, j < cap - len → (w.cells? 0 (a.add ((len + j) * Tryz.prog.cellsOf e)) (Tryz.prog.cellsOf e)).bind (DataW.trod enc Tryz.prog w 0 (fun _ => true) true n e) = rest[j]?)
    (hR : ∀ i v y, i < len → elems[i]? = some y → DataW.trod enc Tryz.prog w 0 (fun _ => true) true n e [v] = some y → ∃ d, R i v d) :
    ∃ b off, a = ⟨b, off, none⟩ ∧ b < w.heap.size ∧ ∃ l : List α, l.length = len ∧ ∀ (i : Nat) (hi : i < l.length), ∃ v, w.cell? ⟨b, off + i, none⟩ = some v ∧ R i v l[i] := by
  rw [hce] at hrd hsp
  have hat : ∃ cs', w.cells? 0 (a.add (0 * 1)) 1 = some cs' := by
    by_cases h1 : len = 0
    · have h2 := hsp 0 (by omega)
      rw [List.getElem?_eq_getElem (by omega)] at h2
      obtain ⟨cs', h3, _⟩ := Option.bind_eq_some_iff.1 h2
      exact ⟨cs', by rw [h1] at h3; exact h3⟩
    · have h2 := hrd 0 (by omega)
      rw [List.getElem?_eq_getElem (by omega)] at h2
      obtain ⟨cs', h3, _⟩ := Option.bind_eq_some_iff.1 h2
      exact ⟨cs', h3⟩
  obtain ⟨cs', hat⟩ := hat
  obtain ⟨_, hcl, hcg⟩ := World.cells?_some hat
  have hc0 := hcg 0 (by omega)
  rw [List.getElem?_eq_getElem (by omega)] at hc0
  obtain ⟨hb, hs⟩ := lt_of_cell hc0
  obtain ⟨b, off, sp⟩ := a
  replace hb : b < w.heap.size := hb
  replace hs : sp = none := hs
  subst hs
  obtain ⟨l, hll, hl2⟩ := list_of (R := fun i d => ∃ v, w.cell? ⟨b, off + i, none⟩ = some v ∧ R i v d) len fun i hi => by
    have h2 := hrd i hi
    rw [List.getElem?_eq_getElem (by omega)] at h2
    obtain ⟨cs', h3, h4⟩ := Option.bind_eq_some_iff.1 h2
    obtain ⟨_, h6, h5⟩ := World.cells?_some h3
    obtain ⟨v, rfl⟩ : ∃ v, cs' = [v] := by
      match cs', h6 with
      | [v], _ => exact ⟨v, rfl⟩
    rw [addr_add] at h5
    have g0 := h5 0 (by omega)
    rw [addr_add] at g0
    obtain ⟨d, hd⟩ := hR i v _ hi (List.getElem?_eq_getElem (by omega)) h4
    exact ⟨d, v, by simpa using g0, hd⟩
  exact ⟨b, off, rfl, hb, l, hll, hl2⟩

theorem bulk_pos (d : DataW H) : 1 ≤ Rows.uptoBulk d := by
  cases d with
  | lit l => cases l <;> simp [Rows.uptoBulk]
  | _ => simp [Rows.uptoBulk]

theorem bulk_len : ∀ es : List (DataW H), es.length ≤ Rows.uptoBulkAll es
  | [] => Nat.zero_le _
  | e :: es => by
    have h1 := bulk_pos e
    have h2 := bulk_len es
    simp only [List.length_cons, Rows.uptoBulkAll]
    omega

theorem ints_of_trod {n : Nat} {cs : List Value} {x : DataW H × List MemPlace} (h : DataW.trod enc Tryz.prog w 0 (fun _ => true) true (n + 1) 22 cs = some x) :
    ∃ l v, cs = [v] ∧ RepI w (fun b => b < w.heap.size) l v ∧ l.length ≤ Rows.uptoBulk x.1 := by
  rcases DataW.trod_slice Tryz.underlying22 h with ⟨rfl, -⟩ | ⟨a, len, cap, elems, rest, m, hm, rfl, hx, -, hl, hc, hel, hrd, hsp, -⟩
  · exact ⟨[], _, rfl, .inl ⟨rfl, Bare.nil⟩, Nat.zero_le _⟩
  · obtain rfl : n = m := by omega
    unfold maxLen at hc
    obtain ⟨hrl, hsp⟩ := hsp rfl
    by_cases h0 : cap = 0
    · obtain rfl : len = 0 := by omega
      exact ⟨[], _, rfl, .inl ⟨rfl, Bare.at hc⟩, Nat.zero_le _⟩
    · obtain ⟨b, off, rfl, hb, l, hll, hR⟩ := slice1 (w := w) (enc := enc) (t := 22) (R := fun _ v (z : Int) => v = .int .i64 z ∧ -9223372036854775808 ≤ z ∧ z ≤ 9223372036854775807) (show Tryz.prog.cellsOf 3 = 1 from by kernel_rfl) hl hel h0 hrd hrl hsp fun i v y hi hy ht => by
        obtain ⟨z, hz, -, hw⟩ := DataW.trod_int Tryz.underlying3 ht
        cases hz
        have := bounds_i64 hw
        exact ⟨z, rfl, this.1, this.2⟩
      subst hll
      refine ⟨l, _, rfl, .inr ⟨b, off, cap, rfl, hb, hl, hc, fun i hi => ?_⟩, ?_⟩
      · obtain ⟨v, h1, h2, h3⟩ := hR i hi
        rw [h1, h2]
        exact ⟨rfl, h3⟩
      · rw [hx]
        have h2 := bulk_len (elems.map (·.1))
        simp only [List.length_map] at h2
        simp only [Rows.uptoBulk]
        omega

set_option maxRecDepth 20000 in
theorem ints_in {W : World} {base : Nat} {v : Value} {d : DataW H} {p : List MemPlace} (h : DataW.Trod enc Tryz.prog W 0 (fun _ => true) true 22 v d p) (hk : Value.okWide Tryz.prog W .any base 22 v) :
    ∃ l, RepI W (fun b => b < W.heap.size) l v := by
  obtain ⟨a, n, c, rfl⟩ := okWide_slice Tryz.underlying22 hk
  obtain ⟨fuel, hf⟩ := h
  cases fuel with
  | zero => simp [DataW.trod] at hf
  | succ fuel =>
    obtain ⟨l, v, hv, hr, -⟩ := ints_of_trod hf
    refine ⟨l, ?_⟩
    have e : [Value.slice a n c] = [v] := hv
    cases e
    exact hr
end Go.Proofs.YtamgjlegcegmeaaGreatDoor.M
