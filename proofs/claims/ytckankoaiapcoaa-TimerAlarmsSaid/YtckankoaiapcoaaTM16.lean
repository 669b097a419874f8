/- What alarms are told, as it comes in. -/
import Derived.Test.YtckankoaiapcoaaTM8
import Derived.Test.YtckankoaiapcoaaTM15
import Derived.ProofKit
import Derived.OpenShut
import Derived.ChangeSame
namespace Go.Proofs.Ytckankoaiapcoaa.M
open Go.RowKit Go.ChangeShapes Go.WideShapes Go.ChangeAt

/-- What alarms are told. -/
structure Ak where
  kind : Int
  at_ : Int
  keys : List Int

def RepAk (w : World) (F : Nat → Prop) (a : Ak) (x0 x1 x2 : Value) : Prop :=
  x0 = .int .i64 a.kind ∧ x1 = .int .i64 a.at_ ∧ RepI w F a.keys x2 ∧ In1 a.kind ∧ In1 a.at_

theorem RepAk.same {w w' : World} {F G : Nat → Prop} (hF : ∀ k, F k → G k) (hw : ∀ k, F k → w'.heap[k]? = w.heap[k]?) {a : Ak} {x0 x1 x2 : Value} (h : RepAk w F a x0 x1 x2) : RepAk w' G a x0 x1 x2 :=
  ⟨h.1, h.2.1, h.2.2.1.same hF hw, h.2.2.2⟩

/-- A slice of them. -/
def RepAks (w : World) (F : Nat → Prop) (l : List Ak) (v : Value) : Prop :=
  (l = [] ∧ Bare v) ∨ ∃ b off c, v = .slice (some ⟨b, off, none⟩) l.length c ∧ F b ∧ l.length ≤ c ∧ c ≤ 9223372036854775807 ∧
    ∀ (i : Nat) (h : i < l.length), ∃ x0 x1 x2, w.cell? ⟨b, off + i * 3, none⟩ = some x0 ∧ w.cell? ⟨b, off + i * 3 + 1, none⟩ = some x1 ∧ w.cell? ⟨b, off + i * 3 + 2, none⟩ = some x2 ∧ RepAk w F l[i] x0 x1 x2

theorem RepAks.same {w w' : World} {F G : Nat → Prop} (hF : ∀ k, F k → G k) (hw : ∀ k, F k → w'.heap[k]? = w.heap[k]?) {l : List Ak} {v : Value} (h : RepAks w F l v) : RepAks w' G l v := by
  rcases h with h | ⟨b, off, c, hv, hb, hl, hm, hc⟩
  · exact .inl h
  · refine .inr ⟨b, off, c, hv, hF b hb, hl, hm, fun i hi => ?_⟩
    obtain ⟨x0, x1, x2, h0, h1, h2, hr⟩ := hc i hi
    have e : ∀ j, w'.cell? ⟨b, j, none⟩ = w.cell? ⟨b, j, none⟩ := fun j => World.cell?_of_block (a := ⟨b, j, none⟩) (hw b hb)
    exact ⟨x0, x1, x2, by rw [e]; exact h0, by rw [e]; exact h1, by rw [e]; exact h2, hr.same hF hw⟩

theorem RepAks.slice {w : World} {F : Nat → Prop} {l : List Ak} {v : Value} (h : RepAks w F l v) : ∃ a c, v = .slice a l.length c ∧ l.length ≤ 9223372036854775807 := by
  rcases h with ⟨rfl, a, c, rfl, _⟩ | ⟨b, off, c, rfl, _, h1, h2, _⟩
  · exact ⟨a, c, rfl, by simp⟩
  · exact ⟨_, c, rfl, by omega⟩

theorem RepAks.elem {w : World} {F : Nat → Prop} {l : List Ak} {a : Option Addr} {n c : Nat} (h : RepAks w F l (.slice a n c)) (i : Nat) (hi : i < l.length) :
    ∃ b off, a = some ⟨b, off, none⟩ ∧ F b ∧ ∃ x0 x1 x2, w.cell? ⟨b, off + i * 3, none⟩ = some x0 ∧ w.cell? ⟨b, off + i * 3 + 1, none⟩ = some x1 ∧ w.cell? ⟨b, off + i * 3 + 2, none⟩ = some x2 ∧ RepAk w F l[i] x0 x1 x2 := by
  rcases h with ⟨h, _⟩ | ⟨b, off, c', h, hb, _, _, hc⟩
  · rw [h] at hi; simp at hi
  · cases h
    exact ⟨b, off, rfl, hb, hc i hi⟩

variable {H : Type} {enc : TypeId × Value → H} {w : World}

theorem ints_of {n : Nat} {c : Value} {x : DataW H × List MemPlace} (h : DataW.trod enc Try.prog w 0 (fun _ => true) true n 28 [c] = some x) : ∃ l, RepI w (fun b => b < w.heap.size) l c := by
  cases n with
  | zero => simp [DataW.trod] at h
  | succ n =>
    obtain ⟨l, v, hv, hr, -⟩ := ints_of_trod h
    have e : [c] = [v] := hv
    cases e
    exact ⟨l, hr⟩

set_option maxRecDepth 20000 in
theorem ak_of_trod {n : Nat} {cs : List Value} {x : DataW H × List MemPlace} (h : DataW.trod enc Try.prog w 0 (fun _ => true) true (n + 1) 45 cs = some x) :
    ∃ a x0 x1 x2, cs = [x0, x1, x2] ∧ RepAk w (fun b => b < w.heap.size) a x0 x1 x2 := by
  obtain ⟨xs, m, hm, hx, hl, hxs, hf⟩ := DataW.trod_struct Try.underlying45 h
  obtain rfl : n = m := by omega
  rw [show Try.prog.cellsOf 45 = 3 from by kernel_rfl] at hl
  obtain ⟨x0, x1, x2, rfl⟩ : ∃ x0 x1 x2, cs = [x0, x1, x2] := by
    match cs, hl with
    | [x0, x1, x2], _ => exact ⟨x0, x1, x2, rfl⟩
  have h0 := hf 0 _ rfl
  have h1 := hf 1 _ rfl
  have h2 := hf 2 _ rfl
  match xs, hxs with
  | [y0, y1, y2], _ =>
    replace h0 : DataW.trod enc Try.prog w 0 (fun _ => true) true n 3 (List.take (Try.prog.cellsOf 3) (List.drop 0 [x0, x1, x2])) = some y0 := h0
    rw [show Try.prog.cellsOf 3 = 1 from by kernel_rfl] at h0
    replace h0 : DataW.trod enc Try.prog w 0 (fun _ => true) true n 3 [x0] = some y0 := h0
    replace h1 : DataW.trod enc Try.prog w 0 (fun _ => true) true n 3 (List.take (Try.prog.cellsOf 3) (List.drop 1 [x0, x1, x2])) = some y1 := h1
    rw [show Try.prog.cellsOf 3 = 1 from by kernel_rfl] at h1
    replace h1 : DataW.trod enc Try.prog w 0 (fun _ => true) true n 3 [x1] = some y1 := h1
    replace h2 : DataW.trod enc Try.prog w 0 (fun _ => true) true n 28 (List.take (Try.prog.cellsOf 28) (List.drop 2 [x0, x1, x2])) = some y2 := h2
    rw [show Try.prog.cellsOf 28 = 1 from by kernel_rfl] at h2
    replace h2 : DataW.trod enc Try.prog w 0 (fun _ => true) true n 28 [x2] = some y2 := h2
    obtain ⟨z0, e0, -, w0⟩ := DataW.trod_int Try.underlying3 h0
    cases e0
    obtain ⟨z1, e1, -, w1⟩ := DataW.trod_int Try.underlying3 h1
    cases e1
    obtain ⟨lk, r2⟩ := ints_of h2
    exact ⟨⟨z0, z1, lk⟩, _, _, _, rfl, rfl, rfl, r2, bounds_i64 w0, bounds_i64 w1⟩

set_option maxRecDepth 20000 in
theorem aks_of_trod {n : Nat} {cs : List Value} {x : DataW H × List MemPlace} (h : DataW.trod enc Try.prog w 0 (fun _ => true) true (n + 1) 36 cs = some x) :
    ∃ l v, cs = [v] ∧ RepAks w (fun b => b < w.heap.size) l v := by
  rcases DataW.trod_slice Try.underlying36 h with ⟨rfl, -⟩ | ⟨a, len, cap, elems, rest, m, hm, rfl, hx, -, hl, hc, hel, hrd, hsp, -⟩
  · exact ⟨[], _, rfl, .inl ⟨rfl, Bare.nil⟩⟩
  · obtain rfl : n = m := by omega
    unfold maxLen at hc
    rw [show Try.prog.cellsOf 45 = 3 from by kernel_rfl] at hrd hsp
    obtain ⟨hrl, hsp⟩ := hsp rfl
    by_cases h0 : cap = 0
    · obtain rfl : len = 0 := by omega
      exact ⟨[], _, rfl, .inl ⟨rfl, Bare.at hc⟩⟩
    · have hat : ∃ cs', w.cells? 0 (a.add (0 * 3)) 3 = some cs' := by
        by_cases h1 : len = 0
        · have h2 := hsp 0 (by omega)
          rw [List.getElem?_eq_getElem (by omega)] at h2
          obtain ⟨cs', h3, _⟩ := Option.bind_eq_some_iff.1 h2
          exact ⟨cs', by rw [h1] at h3; exact h3⟩
        · have h2 := hrd 0 (by omega)
          rw [List.getElem?_eq_getElem (by omega)] at h2
          obtain ⟨cs', h3, _⟩ := Option.bind_eq_some_iff.1 h2
          exact ⟨cs', h3⟩
      obtain ⟨cs', hat⟩ := hat
      obtain ⟨_, hcl, hcg⟩ := World.cells?_some hat
      have hc0 := hcg 0 (by omega)
      rw [List.getElem?_eq_getElem (by omega)] at hc0
      obtain ⟨hb, hs⟩ := lt_of_cell hc0
      obtain ⟨b, off, sp⟩ := a
      replace hb : b < w.heap.size := hb
      replace hs : sp = none := hs
      subst hs
      cases n with
      | zero =>
        exfalso
        by_cases h1 : len = 0
        · have h2 := hsp 0 (by omega)
          rw [List.getElem?_eq_getElem (by omega)] at h2
          obtain ⟨cs', h3, h4⟩ := Option.bind_eq_some_iff.1 h2
          simp [DataW.trod] at h4
        · have h2 := hrd 0 (by omega)
          rw [List.getElem?_eq_getElem (by omega)] at h2
          obtain ⟨cs', h3, h4⟩ := Option.bind_eq_some_iff.1 h2
          simp [DataW.trod] at h4
      | succ n =>
      obtain ⟨l, hll, hR⟩ := list_of (R := fun i (a : Ak) => ∃ x0 x1 x2, w.cell? ⟨b, off + i * 3, none⟩ = some x0 ∧ w.cell? ⟨b, off + i * 3 + 1, none⟩ = some x1 ∧ w.cell? ⟨b, off + i * 3 + 2, none⟩ = some x2 ∧ RepAk w (fun b => b < w.heap.size) a x0 x1 x2) len fun i hi => by
        have h2 := hrd i hi
        rw [List.getElem?_eq_getElem (by omega)] at h2
        obtain ⟨cs', h3, h4⟩ := Option.bind_eq_some_iff.1 h2
        obtain ⟨d, x0, x1, x2, rfl, hd⟩ := ak_of_trod h4
        obtain ⟨_, _, h5⟩ := World.cells?_some h3
        rw [addr_add] at h5
        have g0 := h5 0 (by omega)
        have g1 := h5 1 (by omega)
        have g2 := h5 2 (by omega)
        rw [addr_add] at g0 g1 g2
        exact ⟨d, x0, x1, x2, g0, g1, g2, hd⟩
      subst hll
      exact ⟨l, _, rfl, .inr ⟨b, off, cap, rfl, hb, hl, hc, fun i hi => hR i hi⟩⟩

set_option maxRecDepth 20000 in
theorem aks_in {base : Nat} {v : Value} {d : DataW H} {p : List MemPlace} (h : DataW.Trod enc Try.prog w 0 (fun _ => true) true 36 v d p) (hk : Value.okWide Try.prog w .any base 36 v) :
    ∃ l, RepAks w (fun b => b < w.heap.size) l v := by
  obtain ⟨a, n, c, rfl⟩ := okWide_slice Try.underlying36 hk
  obtain ⟨fuel, hf⟩ := h
  cases fuel with
  | zero => simp [DataW.trod] at hf
  | succ fuel =>
    obtain ⟨l, v, hv, hr⟩ := aks_of_trod hf
    refine ⟨l, ?_⟩
    have e : [Value.slice a n c] = [v] := hv
    cases e
    exact hr
end Go.Proofs.Ytckankoaiapcoaa.M
