/- Configurations, matches, what some say, as they come in. -/
import Derived.Test.YtenpbcpdecnhmaaTA15
import Derived.Test.YtenpbcpdecnhmaaTA8
import Derived.ProofKit
import Derived.OpenShut
import Derived.ChangeSame
namespace Go.Proofs.Ytenpbcpdecnhmaa.M
open Go.RowKit Go.ChangeShapes Go.WideShapes Go.ChangeAt

variable {H : Type} {enc : TypeId × Value → H} {W : World}

theorem ints_of {n : Nat} {c : Value} {x : DataW H × List MemPlace} (h : DataW.trod enc Try.prog W 0 (fun _ => true) true n 22 [c] = some x) : ∃ l, RepI W (fun b => b < W.heap.size) l c := by
  cases n with
  | zero => simp [DataW.trod] at h
  | succ n =>
    obtain ⟨l, v, hv, hr, -⟩ := ints_of_trod h
    have e : [c] = [v] := hv
    cases e
    exact ⟨l, hr⟩

set_option maxRecDepth 20000 in
theorem conf_in {base : Nat} {v : Value} {d : DataW H} {p : List MemPlace} (h : DataW.Trod enc Try.prog W 0 (fun _ => true) true 24 v d p) (hk : Value.okWide Try.prog W .any base 24 v) :
    ∃ (V L : List Int) (vv lv : Value), v = .agg #[vv, lv] ∧ RepI W (fun b => b < W.heap.size) V vv ∧ RepI W (fun b => b < W.heap.size) L lv := by
  unfold Value.okWide at hk
  rw [Try.underlying24] at hk
  obtain ⟨cs, rfl, hs, -⟩ := hk
  rw [show Try.prog.cellsOf 24 = 2 from by kernel_rfl] at hs
  obtain ⟨fuel, hf⟩ := h
  obtain ⟨l⟩ := cs
  match l, hs with
  | [c0, c1], _ =>
    obtain ⟨y0, y1, n, -, -, h0, h1⟩ := trod_struct2 Try.underlying24 hf
    have hc : Try.prog.cellsOf 22 = 1 := by kernel_rfl
    simp only [hc, List.drop_zero, List.take_succ_cons, List.take_zero, List.drop_succ_cons] at h0 h1
    obtain ⟨l0, r0⟩ := ints_of h0
    obtain ⟨l1, r1⟩ := ints_of h1
    exact ⟨l0, l1, c0, c1, rfl, r0, r1⟩

set_option maxRecDepth 20000 in
theorem match_in {base : Nat} {v : Value} {d : DataW H} {p : List MemPlace} (h : DataW.Trod enc Try.prog W 0 (fun _ => true) true 32 v d p) (hk : Value.okWide Try.prog W .any base 32 v) :
    ∃ i t : Int, v = .agg #[.int .i64 i, .int .i64 t] ∧ In64p (i, t) := by
  unfold Value.okWide at hk
  rw [Try.underlying32] at hk
  obtain ⟨cs, rfl, hs, -⟩ := hk
  rw [show Try.prog.cellsOf 32 = 2 from by kernel_rfl] at hs
  obtain ⟨fuel, hf⟩ := h
  obtain ⟨l⟩ := cs
  match l, hs with
  | [c0, c1], _ =>
    obtain ⟨y0, y1, n, -, -, h0, h1⟩ := trod_struct2 Try.underlying32 hf
    have hc : Try.prog.cellsOf 3 = 1 := by kernel_rfl
    simp only [hc, List.drop_zero, List.take_succ_cons, List.take_zero, List.drop_succ_cons] at h0 h1
    obtain ⟨z0, e0, -, b0⟩ := DataW.trod_int Try.underlying3 h0
    obtain ⟨z1, e1, -, b1⟩ := DataW.trod_int Try.underlying3 h1
    cases e0; cases e1
    exact ⟨z0, z1, rfl, bounds_i64 b0, bounds_i64 b1⟩

set_option maxRecDepth 20000 in
theorem match_of_trod {n : Nat} {cs : List Value} {x : DataW H × List MemPlace} (h : DataW.trod enc Try.prog W 0 (fun _ => true) true n 32 cs = some x) :
    ∃ s : Int × Int, cs = [.int .i64 s.1, .int .i64 s.2] ∧ In64p s := by
  obtain ⟨y0, y1, n, -, hl, h0, h1⟩ := trod_struct2 Try.underlying32 h
  rw [show Try.prog.cellsOf 32 = 2 from by kernel_rfl] at hl
  match cs, hl with
  | [c0, c1], _ =>
    have hc : Try.prog.cellsOf 3 = 1 := by kernel_rfl
    simp only [hc, List.drop_zero, List.take_succ_cons, List.take_zero, List.drop_succ_cons] at h0 h1
    obtain ⟨z0, e0, -, b0⟩ := DataW.trod_int Try.underlying3 h0
    obtain ⟨z1, e1, -, b1⟩ := DataW.trod_int Try.underlying3 h1
    cases e0; cases e1
    exact ⟨(z0, z1), rfl, bounds_i64 b0, bounds_i64 b1⟩

set_option maxRecDepth 20000 in
theorem matches_of_trod {n : Nat} {cs : List Value} {x : DataW H × List MemPlace} (h : DataW.trod enc Try.prog W 0 (fun _ => true) true (n + 1) 25 cs = some x) :
    ∃ l v, cs = [v] ∧ RepM W (fun b => b < W.heap.size) l v := by
  rcases DataW.trod_slice Try.underlying25 h with ⟨rfl, -⟩ | ⟨a, len, cap, elems, rest, m, hm, rfl, hx, -, hl, hc, hel, hrd, hsp, -⟩
  · exact ⟨[], _, rfl, .inl ⟨rfl, Bare.nil⟩⟩
  · obtain rfl : n = m := by omega
    unfold maxLen at hc
    rw [show Try.prog.cellsOf 32 = 2 from by kernel_rfl] at hrd hsp
    obtain ⟨hrl, hsp⟩ := hsp rfl
    by_cases h0 : cap = 0
    · obtain rfl : len = 0 := by omega
      exact ⟨[], _, rfl, .inl ⟨rfl, Bare.at hc⟩⟩
    · have hat : ∃ cs', W.cells? 0 (a.add (0 * 2)) 2 = some cs' := by
        by_cases h1 : len = 0
        · have h2 := hsp 0 (by omega)
          rw [List.getElem?_eq_getElem (by omega)] at h2
          obtain ⟨cs', h3, _⟩ := Option.bind_eq_some_iff.1 h2
          exact ⟨cs', by rw [h1] at h3; exact h3⟩
        · have h2 := hrd 0 (by omega)
          rw [List.getElem?_eq_getElem (by omega)] at h2
          obtain ⟨cs', h3, _⟩ := Option.bind_eq_some_iff.1 h2
          exact ⟨cs', h3⟩
      obtain ⟨cs', hat⟩ := hat
      obtain ⟨_, hcl, hcg⟩ := World.cells?_some hat
      have hc0 := hcg 0 (by omega)
      rw [List.getElem?_eq_getElem (by omega)] at hc0
      obtain ⟨hb, hs⟩ := lt_of_cell hc0
      obtain ⟨b, off, sp⟩ := a
      replace hb : b < W.heap.size := hb
      replace hs : sp = none := hs
      subst hs
      obtain ⟨l, hll, hR⟩ := list_of (R := fun i (s : Int × Int) => (W.cell? ⟨b, off + i * 2, none⟩ = some (.int .i64 s.1) ∧ W.cell? ⟨b, off + i * 2 + 1, none⟩ = some (.int .i64 s.2)) ∧ In64p s) len fun i hi => by
        have h2 := hrd i hi
        rw [List.getElem?_eq_getElem (by omega)] at h2
        obtain ⟨cs', h3, h4⟩ := Option.bind_eq_some_iff.1 h2
        obtain ⟨s, rfl, hs64⟩ := match_of_trod h4
        obtain ⟨_, _, h5⟩ := World.cells?_some h3
        rw [addr_add] at h5
        have g0 := h5 0 (by omega)
        have g1 := h5 1 (by omega)
        rw [addr_add] at g0 g1
        exact ⟨s, ⟨g0, g1⟩, hs64⟩
      subst hll
      exact ⟨l, _, rfl, .inr ⟨b, off, cap, rfl, hb, hl, hc, fun i hi => hR i hi⟩⟩

set_option maxRecDepth 20000 in
theorem matches_in {base : Nat} {v : Value} {d : DataW H} {p : List MemPlace} (h : DataW.Trod enc Try.prog W 0 (fun _ => true) true 25 v d p) (hk : Value.okWide Try.prog W .any base 25 v) :
    ∃ l, RepM W (fun b => b < W.heap.size) l v := by
  obtain ⟨a, n, c, rfl⟩ := okWide_slice Try.underlying25 hk
  obtain ⟨fuel, hf⟩ := h
  cases fuel with
  | zero => simp [DataW.trod] at hf
  | succ fuel =>
    obtain ⟨l, v, hv, hr⟩ := matches_of_trod hf
    refine ⟨l, ?_⟩
    have e : [Value.slice a n c] = [v] := hv
    cases e
    exact hr
end Go.Proofs.Ytenpbcpdecnhmaa.M
