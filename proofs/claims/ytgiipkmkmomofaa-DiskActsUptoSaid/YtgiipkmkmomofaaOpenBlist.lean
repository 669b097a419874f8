/- Lists of bytes as they come in. -/
import Derived.Test.YtgiipkmkmomofaaOpenBytes
namespace Go.Proofs.Ytgiipkmkmomofaa.M
open Go.RowKit Go.ChangeShapes Go.WideShapes Go.ChangeAt

variable {H : Type} {enc : TypeId × Value → H} {w : World}

theorem blist_of_trod {n : Nat} {cs : List Value} {x : DataW H × List MemPlace} (h : DataW.trod enc Try.prog w 0 (fun _ => true) true (n + 1) 36 cs = some x) :
    ∃ l v, cs = [v] ∧ RepBl w (fun b => b < w.heap.size) l v := by
  rcases DataW.trod_slice Try.underlying36 h with ⟨rfl, -⟩ | ⟨a, len, cap, elems, rest, m, hm, rfl, hx, -, hl, hc, hel, hrd, hsp, -⟩
  · exact ⟨[], _, rfl, .inl ⟨rfl, Bare.nil⟩⟩
  · obtain rfl : n = m := by omega
    unfold maxLen at hc
    rw [show Try.prog.cellsOf 41 = 1 from by kernel_rfl] at hrd hsp
    obtain ⟨hrl, hsp⟩ := hsp rfl
    by_cases h0 : cap = 0
    · obtain rfl : len = 0 := by omega
      exact ⟨[], _, rfl, .inl ⟨rfl, Bare.at hc⟩⟩
    · have hat : ∃ cs', w.cells? 0 (a.add (0 * 1)) 1 = some cs' := by
        by_cases h1 : len = 0
        · have h2 := hsp 0 (by omega)
          rw [List.getElem?_eq_getElem (by omega)] at h2
          obtain ⟨cs', h3, _⟩ := Option.bind_eq_some_iff.1 h2
          exact ⟨cs', by rw [h1] at h3; exact h3⟩
        · have h2 := hrd 0 (by omega)
          rw [List.getElem?_eq_getElem (by omega)] at h2
          obtain ⟨cs', h3, _⟩ := Option.bind_eq_some_iff.1 h2
          exact ⟨cs', h3⟩
      obtain ⟨cs', hat⟩ := hat
      obtain ⟨_, hcl, hcg⟩ := World.cells?_some hat
      have hc0 := hcg 0 (by omega)
      rw [List.getElem?_eq_getElem (by omega)] at hc0
      obtain ⟨hb, hs⟩ := lt_of_cell hc0
      obtain ⟨b, off, sp⟩ := a
      replace hb : b < w.heap.size := hb
      replace hs : sp = none := hs
      subst hs
      obtain ⟨l, hll, hR⟩ := list_of (R := fun i d => ∃ u, w.cell? ⟨b, off + i, none⟩ = some u ∧ RepB w (fun b => b < w.heap.size) d u) len fun i hi => by
        have h2 := hrd i hi
        rw [List.getElem?_eq_getElem (by omega)] at h2
        obtain ⟨cs', h3, h4⟩ := Option.bind_eq_some_iff.1 h2
        obtain ⟨d, v, rfl, hd, -⟩ := bytes_of_trod h4
        obtain ⟨_, _, h5⟩ := World.cells?_some h3
        rw [addr_add] at h5
        have g0 := h5 0 (by omega)
        rw [addr_add] at g0
        exact ⟨d, v, by simpa using g0, hd⟩
      subst hll
      exact ⟨l, _, rfl, .inr ⟨b, off, cap, rfl, hb, hl, hc, hR⟩⟩

set_option maxRecDepth 20000 in
theorem blist_in {H : Type} {enc : TypeId × Value → H} {W : World} {base : Nat} {v : Value} {d : DataW H} {p : List MemPlace} (h : DataW.Trod enc Try.prog W 0 (fun _ => true) true 36 v d p)
    (hk : Value.okWide Try.prog W .any base 36 v) : ∃ l, RepBl W (fun b => b < W.heap.size) l v := by
  obtain ⟨a, n, c, rfl⟩ := okWide_slice Try.underlying36 hk
  obtain ⟨fuel, hf⟩ := h
  cases fuel with
  | zero => simp [DataW.trod] at hf
  | succ fuel =>
    obtain ⟨l, v, hv, hr⟩ := blist_of_trod hf
    refine ⟨l, ?_⟩
    have e : [Value.slice a n c] = [v] := hv
    cases e
    exact hr
end Go.Proofs.Ytgiipkmkmomofaa.M
