/- Configurations, changes, pairs of lists as they come in. -/
import Derived.Test.YtdngfbljcmbniaaTM41
import Derived.Test.YtdngfbljcmbniaaTM23
import Derived.ProofKit
import Derived.OpenShut
import Derived.ChangeSame
namespace Go.Proofs.Ytdngfbljcmbniaa.M
open Go.RowKit Go.ChangeShapes Go.WideShapes Go.ChangeAt

variable {H : Type} {enc : TypeId × Value → H} {W : World}

theorem ints_of {n : Nat} {c : Value} {x : DataW H × List MemPlace} (h : DataW.trod enc Try.prog W 0 (fun _ => true) true n 23 [c] = some x) : ∃ l, RepI W (fun b => b < W.heap.size) l c := by
  cases n with
  | zero => simp [DataW.trod] at h
  | succ n =>
    obtain ⟨l, v, hv, hr, -⟩ := ints_of_trod h
    have e : [c] = [v] := hv
    cases e
    exact ⟨l, hr⟩

set_option maxRecDepth 20000 in
theorem conf_in {base : Nat} {v : Value} {d : DataW H} {p : List MemPlace} (h : DataW.Trod enc Try.prog W 0 (fun _ => true) true 25 v d p) (hk : Value.okWide Try.prog W .any base 25 v) :
    ∃ (c : Cf) (vv lv : Value), v = .agg #[vv, lv] ∧ RepI W (fun b => b < W.heap.size) c.v vv ∧ RepI W (fun b => b < W.heap.size) c.l lv := by
  unfold Value.okWide at hk
  rw [Try.underlying25] at hk
  obtain ⟨cs, rfl, hs, -⟩ := hk
  rw [show Try.prog.cellsOf 25 = 2 from by kernel_rfl] at hs
  obtain ⟨fuel, hf⟩ := h
  obtain ⟨l⟩ := cs
  match l, hs with
  | [c0, c1], _ =>
    obtain ⟨y0, y1, n, -, -, h0, h1⟩ := trod_struct2 Try.underlying25 hf
    have hc : Try.prog.cellsOf 23 = 1 := by kernel_rfl
    simp only [hc, List.drop_zero, List.take_succ_cons, List.take_zero, List.drop_succ_cons] at h0 h1
    obtain ⟨l0, r0⟩ := ints_of h0
    obtain ⟨l1, r1⟩ := ints_of h1
    exact ⟨⟨l0, l1⟩, c0, c1, rfl, r0, r1⟩

set_option maxRecDepth 20000 in
theorem change_in {base : Nat} {v : Value} {d : DataW H} {p : List MemPlace} (h : DataW.Trod enc Try.prog W 0 (fun _ => true) true 38 v d p) (hk : Value.okWide Try.prog W .any base 38 v) :
    ∃ i t : Int, v = .agg #[.int .i64 i, .int .i64 t] := by
  unfold Value.okWide at hk
  rw [Try.underlying38] at hk
  obtain ⟨cs, rfl, hs, -⟩ := hk
  rw [show Try.prog.cellsOf 38 = 2 from by kernel_rfl] at hs
  obtain ⟨fuel, hf⟩ := h
  obtain ⟨l⟩ := cs
  match l, hs with
  | [c0, c1], _ =>
    obtain ⟨y0, y1, n, -, -, h0, h1⟩ := trod_struct2 Try.underlying38 hf
    have hc : Try.prog.cellsOf 3 = 1 := by kernel_rfl
    simp only [hc, List.drop_zero, List.take_succ_cons, List.take_zero, List.drop_succ_cons] at h0 h1
    obtain ⟨z0, e0, -, b0⟩ := DataW.trod_int Try.underlying3 h0
    obtain ⟨z1, e1, -, b1⟩ := DataW.trod_int Try.underlying3 h1
    cases e0; cases e1
    exact ⟨z0, z1, rfl⟩

set_option maxRecDepth 20000 in
theorem change_of_trod {n : Nat} {cs : List Value} {x : DataW H × List MemPlace} (h : DataW.trod enc Try.prog W 0 (fun _ => true) true n 38 cs = some x) :
    ∃ s : Int × Int, cs = [.int .i64 s.1, .int .i64 s.2] := by
  obtain ⟨y0, y1, n, -, hl, h0, h1⟩ := trod_struct2 Try.underlying38 h
  rw [show Try.prog.cellsOf 38 = 2 from by kernel_rfl] at hl
  match cs, hl with
  | [c0, c1], _ =>
    have hc : Try.prog.cellsOf 3 = 1 := by kernel_rfl
    simp only [hc, List.drop_zero, List.take_succ_cons, List.take_zero, List.drop_succ_cons] at h0 h1
    obtain ⟨z0, e0, -, b0⟩ := DataW.trod_int Try.underlying3 h0
    obtain ⟨z1, e1, -, b1⟩ := DataW.trod_int Try.underlying3 h1
    cases e0; cases e1
    exact ⟨(z0, z1), rfl⟩

set_option maxRecDepth 20000 in
theorem changes_of_trod {n : Nat} {cs : List Value} {x : DataW H × List MemPlace} (h : DataW.trod enc Try.prog W 0 (fun _ => true) true (n + 1) 56 cs = some x) :
    ∃ l v, cs = [v] ∧ RepPr W (fun b => b < W.heap.size) l v := by
  rcases DataW.trod_slice Try.underlying56 h with ⟨rfl, -⟩ | ⟨a, len, cap, elems, rest, m, hm, rfl, hx, -, hl, hc, hel, hrd, hsp, -⟩
  · exact ⟨[], _, rfl, .inl ⟨rfl, Bare.nil⟩⟩
  · obtain rfl : n = m := by omega
    unfold maxLen at hc
    rw [show Try.prog.cellsOf 38 = 2 from by kernel_rfl] at hrd hsp
    obtain ⟨hrl, hsp⟩ := hsp rfl
    by_cases h0 : cap = 0
    · obtain rfl : len = 0 := by omega
      exact ⟨[], _, rfl, .inl ⟨rfl, Bare.at hc⟩⟩
    · have hat : ∃ cs', W.cells? 0 (a.add (0 * 2)) 2 = some cs' := by
        by_cases h1 : len = 0
        · have h2 := hsp 0 (by omega)
          rw [List.getElem?_eq_getElem (by omega)] at h2
          obtain ⟨cs', h3, _⟩ := Option.bind_eq_some_iff.1 h2
          exact ⟨cs', by rw [h1] at h3; exact h3⟩
        · have h2 := hrd 0 (by omega)
          rw [List.getElem?_eq_getElem (by omega)] at h2
          obtain ⟨cs', h3, _⟩ := Option.bind_eq_some_iff.1 h2
          exact ⟨cs', h3⟩
      obtain ⟨cs', hat⟩ := hat
      obtain ⟨_, hcl, hcg⟩ := World.cells?_some hat
      have hc0 := hcg 0 (by omega)
      rw [List.getElem?_eq_getElem (by omega)] at hc0
      obtain ⟨hb, hs⟩ := lt_of_cell hc0
      obtain ⟨b, off, sp⟩ := a
      replace hb : b < W.heap.size := hb
      replace hs : sp = none := hs
      subst hs
      obtain ⟨l, hll, hR⟩ := list_of (R := fun i (s : Int × Int) => W.cell? ⟨b, off + i * 2, none⟩ = some (.int .i64 s.1) ∧ W.cell? ⟨b, off + i * 2 + 1, none⟩ = some (.int .i64 s.2)) len fun i hi => by
        have h2 := hrd i hi
        rw [List.getElem?_eq_getElem (by omega)] at h2
        obtain ⟨cs', h3, h4⟩ := Option.bind_eq_some_iff.1 h2
        obtain ⟨s, rfl⟩ := change_of_trod h4
        obtain ⟨_, _, h5⟩ := World.cells?_some h3
        rw [addr_add] at h5
        have g0 := h5 0 (by omega)
        have g1 := h5 1 (by omega)
        rw [addr_add] at g0 g1
        exact ⟨s, g0, g1⟩
      subst hll
      exact ⟨l, _, rfl, .inr ⟨b, off, cap, rfl, hb, hl, hc, fun i hi => hR i hi⟩⟩

set_option maxRecDepth 20000 in
theorem changes_in {base : Nat} {v : Value} {d : DataW H} {p : List MemPlace} (h : DataW.Trod enc Try.prog W 0 (fun _ => true) true 56 v d p) (hk : Value.okWide Try.prog W .any base 56 v) :
    ∃ l, RepPr W (fun b => b < W.heap.size) l v := by
  obtain ⟨a, n, c, rfl⟩ := okWide_slice Try.underlying56 hk
  obtain ⟨fuel, hf⟩ := h
  cases fuel with
  | zero => simp [DataW.trod] at hf
  | succ fuel =>
    obtain ⟨l, v, hv, hr⟩ := changes_of_trod hf
    refine ⟨l, ?_⟩
    have e : [Value.slice a n c] = [v] := hv
    cases e
    exact hr
end Go.Proofs.Ytdngfbljcmbniaa.M
