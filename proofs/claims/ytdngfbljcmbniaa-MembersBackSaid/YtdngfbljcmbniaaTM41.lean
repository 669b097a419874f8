/- Bytes as they come in. A slice of ints as it comes in. An argument of type [2]int, out of the reading. -/
import Derived.Test.YtdngfbljcmbniaaTM3
import Derived.ProofKit
import Derived.Deep.Slices
import Derived.OpenShut
import Derived.Test.YtdngfbljcmbniaaTM9
import Derived.Lib.LaidTab
/- Part: OpenBytes. -/
namespace Go.Proofs.Ytdngfbljcmbniaa.M
open Go.RowKit Go.ChangeShapes Go.WideShapes Go.ChangeAt

variable {H : Type} {enc : TypeId × Value → H} {w : World}

theorem bulk_lits (k : IntKind) : ∀ (zs : List Int), Rows.uptoBulkAll (lits (H := H) k zs) = zs.length
  | [] => rfl
  | z :: zs => by
    have := bulk_lits k zs
    simp only [lits, List.map_cons, Rows.uptoBulkAll, Rows.uptoBulk, List.length_cons] at this ⊢
    omega

set_option maxRecDepth 20000 in
theorem bytes_of_trod2 {fuel : Nat} {cs : List Value} {x : DataW H × List MemPlace} (h : DataW.trod enc Try.prog w 0 (fun _ => true) true fuel 22 cs = some x) :
    ∃ L v, cs = [v] ∧ RepB w (fun b => b < w.heap.size) L v ∧ L.length ≤ Rows.uptoBulk x.1 ∧ ∀ n : Nat, (DataW.weights Try.prog 22 x.1).all (· ≤ n) = true → L.length ≤ n := by
  rcases open_ints Try.underlying22 Try.underlying5 (by kernel_rfl) h with ⟨rfl, _⟩ | ⟨a, len, cap, zs, rfl, _, hl, hm, hz, hx, hcell, hwz⟩
  · exact ⟨[], _, rfl, .inl ⟨rfl, Bare.nil⟩, Nat.zero_le _, fun _ _ => Nat.zero_le _⟩
  · rw [if_pos rfl] at hz
    unfold maxLen at hm
    by_cases hc : cap = 0
    · obtain rfl : len = 0 := by omega
      exact ⟨[], _, rfl, .inl ⟨rfl, Bare.at hm⟩, Nat.zero_le _, fun _ _ => Nat.zero_le _⟩
    · have h0 := hcell 0 (by omega)
      rw [show a.add 0 = a from rfl] at h0
      obtain ⟨hb, hs⟩ := lt_of_cell h0
      obtain ⟨b, off, sp⟩ := a
      cases hs
      refine ⟨(zs.take len).map (fun n => UInt8.ofNat n.toNat), _, rfl, .inr ⟨b, off, cap, ?_, hb, ?_, hm, fun i hi => ?_⟩, ?_, ?_⟩
      · simp; omega
      · simp; omega
      · simp at hi
        have h1 := hcell i (by omega)
        have e : (⟨b, off, none⟩ : Addr).add i = ⟨b, off + i, none⟩ := by cases i <;> simp [Addr.add]
        rw [e] at h1
        rw [h1]
        have hw := bounds_u8 (hwz zs[i] (List.getElem_mem (by omega)))
        simp only [List.getElem_map, List.getElem_take, Option.some.injEq]
        rw [UInt8.toNat_ofNat_of_lt' (by show _ < 256; omega), List.getD_eq_getElem?_getD, List.getElem?_eq_getElem (by omega)]
        simp
        omega
      · rw [hx, Rows.uptoBulk, bulk_lits]
        simp
        omega
      · intro n hn
        rw [hx] at hn
        unfold DataW.weights at hn
        rw [Try.underlying22] at hn
        simp only [List.all_cons, Bool.and_eq_true, decide_eq_true_eq] at hn
        have h1 := hn.1
        rw [show Try.prog.bytesOf 5 = 1 by kernel_rfl] at h1
        simp only [lits, List.length_map, List.length_take, List.length_drop] at h1 ⊢
        omega

theorem bytes_of_trod {fuel : Nat} {cs : List Value} {x : DataW H × List MemPlace} (h : DataW.trod enc Try.prog w 0 (fun _ => true) true fuel 22 cs = some x) :
    ∃ L v, cs = [v] ∧ RepB w (fun b => b < w.heap.size) L v ∧ L.length ≤ Rows.uptoBulk x.1 := by
  obtain ⟨L, v, h1, h2, h3, -⟩ := bytes_of_trod2 h
  exact ⟨L, v, h1, h2, h3⟩

set_option maxRecDepth 20000 in
theorem bytes_in {H : Type} {enc : TypeId × Value → H} {W : World} {base : Nat} {v : Value} {d : DataW H} {p : List MemPlace} (h : DataW.Trod enc Try.prog W 0 (fun _ => true) true 22 v d p)
    (hk : Value.okWide Try.prog W .any base 22 v) : ∃ L, RepB W (fun b => b < W.heap.size) L v ∧ L.length ≤ Rows.uptoBulk d := by
  obtain ⟨a, n, c, rfl⟩ := okWide_slice Try.underlying22 hk
  obtain ⟨fuel, hf⟩ := h
  obtain ⟨L, v, hv, hr, hn⟩ := bytes_of_trod hf
  refine ⟨L, ?_, hn⟩
  have e : [Value.slice a n c] = [v] := hv
  cases e
  exact hr
end Go.Proofs.Ytdngfbljcmbniaa.M

/- Part: OpenInts. -/
namespace Go.Proofs.Ytdngfbljcmbniaa.M
open Go.RowKit Go.ChangeShapes Go.WideShapes Go.ChangeAt

variable {H : Type} {enc : TypeId × Value → H} {w : World}

/-- A slice of elements of one cell, read one by one. -/
theorem slice1 {n len cap : Nat} {a : Addr} {α : Type} {R : Nat → Value → α → Prop} {t e : TypeId} (hce : Try.prog.cellsOf e = 1) {elems rest : List (DataW H × List MemPlace)} (hl : len ≤ cap) (hel : elems.length = len) (h0 : cap ≠ 0)
    (hrd : ∀ i, i < len → (w.cells? 0 (a.add (i * Try.prog.cellsOf e)) (Try.prog.cellsOf e)).bind (DataW.trod enc Try.prog w 0 (fun _ => true) true n e) = elems[i]?)
    (hrl : rest.length = cap - len) (hsp : ∀ j, j < cap - len → (w.cells? 0 (a.add ((len + j) * Try.prog.cellsOf e)) (Try.prog.cellsOf e)).bind (DataW.trod enc Try.prog w 0 (fun _ => true) true n e) = rest[j]?)
    (hR : ∀ i v y, i < len → elems[i]? = some y → DataW.trod enc Try.prog w 0 (fun _ => true) true n e [v] = some y → ∃ d, R i v d) :
    ∃ b off, a = ⟨b, off, none⟩ ∧ b < w.heap.size ∧ ∃ l : List α, l.length = len ∧ ∀ (i : Nat) (hi : i < l.length), ∃ v, w.cell? ⟨b, off + i, none⟩ = some v ∧ R i v l[i] := by
  rw [hce] at hrd hsp
  have hat : ∃ cs', w.cells? 0 (a.add (0 * 1)) 1 = some cs' := by
    by_cases h1 : len = 0
    · have h2 := hsp 0 (by omega)
      rw [List.getElem?_eq_getElem (by omega)] at h2
      obtain ⟨cs', h3, _⟩ := Option.bind_eq_some_iff.1 h2
      exact ⟨cs', by rw [h1] at h3; exact h3⟩
    · have h2 := hrd 0 (by omega)
      rw [List.getElem?_eq_getElem (by omega)] at h2
      obtain ⟨cs', h3, _⟩ := Option.bind_eq_some_iff.1 h2
      exact ⟨cs', h3⟩
  obtain ⟨cs', hat⟩ := hat
  obtain ⟨_, hcl, hcg⟩ := World.cells?_some hat
  have hc0 := hcg 0 (by omega)
  rw [List.getElem?_eq_getElem (by omega)] at hc0
  obtain ⟨hb, hs⟩ := lt_of_cell hc0
  obtain ⟨b, off, sp⟩ := a
  replace hb : b < w.heap.size := hb
  replace hs : sp = none := hs
  subst hs
  obtain ⟨l, hll, hl2⟩ := list_of (R := fun i d => ∃ v, w.cell? ⟨b, off + i, none⟩ = some v ∧ R i v d) len fun i hi => by
    have h2 := hrd i hi
    rw [List.getElem?_eq_getElem (by omega)] at h2
    obtain ⟨cs', h3, h4⟩ := Option.bind_eq_some_iff.1 h2
    obtain ⟨_, h6, h5⟩ := World.cells?_some h3
    obtain ⟨v, rfl⟩ : ∃ v, cs' = [v] := by
      match cs', h6 with
      | [v], _ => exact ⟨v, rfl⟩
    rw [addr_add] at h5
    have g0 := h5 0 (by omega)
    rw [addr_add] at g0
    obtain ⟨d, hd⟩ := hR i v _ hi (List.getElem?_eq_getElem (by omega)) h4
    exact ⟨d, v, by simpa using g0, hd⟩
  exact ⟨b, off, rfl, hb, l, hll, hl2⟩

theorem bulk_pos (d : DataW H) : 1 ≤ Rows.uptoBulk d := by
  cases d with
  | lit l => cases l <;> simp [Rows.uptoBulk]
  | _ => simp [Rows.uptoBulk]

theorem bulk_len : ∀ es : List (DataW H), es.length ≤ Rows.uptoBulkAll es
  | [] => Nat.zero_le _
  | e :: es => by
    have h1 := bulk_pos e
    have h2 := bulk_len es
    simp only [List.length_cons, Rows.uptoBulkAll]
    omega

theorem ints_of_trod {n : Nat} {cs : List Value} {x : DataW H × List MemPlace} (h : DataW.trod enc Try.prog w 0 (fun _ => true) true (n + 1) 23 cs = some x) :
    ∃ l v, cs = [v] ∧ RepI w (fun b => b < w.heap.size) l v ∧ l.length ≤ Rows.uptoBulk x.1 := by
  rcases DataW.trod_slice Try.underlying23 h with ⟨rfl, -⟩ | ⟨a, len, cap, elems, rest, m, hm, rfl, hx, -, hl, hc, hel, hrd, hsp, -⟩
  · exact ⟨[], _, rfl, .inl ⟨rfl, Bare.nil⟩, Nat.zero_le _⟩
  · obtain rfl : n = m := by omega
    unfold maxLen at hc
    obtain ⟨hrl, hsp⟩ := hsp rfl
    by_cases h0 : cap = 0
    · obtain rfl : len = 0 := by omega
      exact ⟨[], _, rfl, .inl ⟨rfl, Bare.at hc⟩, Nat.zero_le _⟩
    · obtain ⟨b, off, rfl, hb, l, hll, hR⟩ := slice1 (w := w) (enc := enc) (t := 23) (R := fun _ v (z : Int) => v = .int .i64 z ∧ -9223372036854775808 ≤ z ∧ z ≤ 9223372036854775807) (show Try.prog.cellsOf 3 = 1 from by kernel_rfl) hl hel h0 hrd hrl hsp fun i v y hi hy ht => by
        obtain ⟨z, hz, -, hw⟩ := DataW.trod_int Try.underlying3 ht
        cases hz
        have := bounds_i64 hw
        exact ⟨z, rfl, this.1, this.2⟩
      subst hll
      refine ⟨l, _, rfl, .inr ⟨b, off, cap, rfl, hb, hl, hc, fun i hi => ?_⟩, ?_⟩
      · obtain ⟨v, h1, h2, h3⟩ := hR i hi
        rw [h1, h2]
        exact ⟨rfl, h3⟩
      · rw [hx]
        have h2 := bulk_len (elems.map (·.1))
        simp only [List.length_map] at h2
        simp only [Rows.uptoBulk]
        omega

set_option maxRecDepth 20000 in
theorem ints_in {W : World} {base : Nat} {v : Value} {d : DataW H} {p : List MemPlace} (h : DataW.Trod enc Try.prog W 0 (fun _ => true) true 23 v d p) (hk : Value.okWide Try.prog W .any base 23 v) :
    ∃ l, RepI W (fun b => b < W.heap.size) l v := by
  obtain ⟨a, n, c, rfl⟩ := okWide_slice Try.underlying23 hk
  obtain ⟨fuel, hf⟩ := h
  cases fuel with
  | zero => simp [DataW.trod] at hf
  | succ fuel =>
    obtain ⟨l, v, hv, hr, -⟩ := ints_of_trod hf
    refine ⟨l, ?_⟩
    have e : [Value.slice a n c] = [v] := hv
    cases e
    exact hr
end Go.Proofs.Ytdngfbljcmbniaa.M

/- Part: OpenTwo. -/
namespace Go.Proofs.Ytdngfbljcmbniaa.M
open Go.RowKit Go.ChangeShapes Go.WideShapes Go.ChangeAt

/-- Two cells that are read as an array are each read as an element. -/
theorem two_each {H : Type} {enc : TypeId × Value → H} {P : Program} {w : World} {base : Nat} {sp : Nat → Bool} {held : Bool} {fuel : Nat} {t e : TypeId} {c0 c1 : Value} {x : DataW H × List MemPlace}
    (ht : P.underlying t = some (.array 2 e)) (hce : P.cellsOf e = 1) (h : DataW.trod enc P w base sp held fuel t [c0, c1] = some x) :
    ∃ n y0 y1, DataW.trod enc P w base sp held n e [c0] = some y0 ∧ DataW.trod enc P w base sp held n e [c1] = some y1 := by
  cases fuel with
  | zero => simp [DataW.trod] at h
  | succ n =>
    simp only [DataW.trod, ht, hce, Nat.mul_one] at h
    split at h
    · obtain ⟨xs, hm, -⟩ := Option.map_eq_some_iff.1 h
      obtain ⟨y0, -, h0⟩ := Lib.mapM_at hm 0 0 (by simp)
      obtain ⟨y1, -, h1⟩ := Lib.mapM_at hm 1 1 (by simp)
      exact ⟨n, y0, y1, by simpa using h0, by simpa using h1⟩
    · cases h

end Go.Proofs.Ytdngfbljcmbniaa.M
