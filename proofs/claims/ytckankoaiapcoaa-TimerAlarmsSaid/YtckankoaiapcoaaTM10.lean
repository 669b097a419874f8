/- A range over a function that turns blocks of its own between its rounds; the body turns none of these. -/
import Derived.RangeFuncNested
import Derived.Test.YtckankoaiapcoaaTM4
import Derived.Deep.QuietTactic
namespace Go.Proofs.Ytckankoaiapcoaa.M
open Go.RowKit

/-- How a round's body is left: at its end. -/
def roundT (B : Nat) (X : Nat → Prop) (I : Nat → World → Prop) (k : Nat) (W : World) : Exit → Act → World → Prop
  | .normal, _, W' => KeepsFrom B W W' ∧ I (k + 1) W' ∧ ∀ q, X q → W'.heap[q]? = W.heap[q]?
  | .ret, _, _ => False
  | .exit _, _, _ => False
  | .goto _, _, _ => False
  | .panic _, _, _ => False
  | .outgrown, _, _ => False

theorem wpIn_rangeFunc_byT {F : Fence} {n : Nat} {P : Program} {g : Operand} {ps : Array Tmp} {assign body : Code} {Q : Exit → Act → World → Prop} {a : Act} {w : World}
    (hro : F.round = none) (h1 : 1 ≤ n) {gf : Nat} {lb : Array Value} (hg : a.eval g = .func (.func gf) #[] lb) (hFg : F.fn gf) (eg : ∀ args w, (callFunc gf args).run P w = .ok (.enter gf args) w)
    (N : Nat) (encs : Nat → Array Value) (hps : ∀ k, (encs k).size = ps.size) (R : World → Prop) (X : Nat → Prop) (hX : ∀ q, X q → q < w.heap.size) (E0 E : World → Prop)
    (hE0 : ∀ W W' : World, E0 W → (∀ q, X q → W'.heap[q]? = W.heap[q]?) → E0 W') (hE : ∀ W W' : World, E W → (∀ q, X q → W'.heap[q]? = W.heap[q]?) → E W')
    (hseq : ∀ (l : Nat) (J : Nat → (Nat → Option Obj) → World → Prop) (W : World), (∀ k S W, J k S W → R W ∧ ∀ q, X q → W.heap[q]? = S q) →
      (∀ k S W W', J k S W → Only X W W' → J k (fun q => W'.heap[q]?) W') →
      (∀ k S W1, k < N → J k S W1 → YieldAt F (n - 1 - 1) P l (encs k) W1 fun e W' => e = .returned (.bool true) ∧ J (k + 1) S W') → (∃ S, J 0 S W) → E0 W →
      CallsIn F (n - 1) P gf (#[.func (.yield l) #[] #[]] ++ lb) W fun e W' => (∃ v, e = .returned v) ∧ (∃ S, J N S W') ∧ E W')
    (I : Nat → World → Prop) (hI : OwnFrom w.heap.size I) (hIX : ∀ k W W', I k W → Only X W W' → I k W') (hR : ∀ k W, I k W → R W) (h0 : I 0 w) (he0 : E0 w)
    (Ax : Nat → Act → World → Prop) (hAx : ∀ a', OwnFrom w.heap.size (fun k W => Ax k a' W))
    (hassign : ∀ (l k : Nat) (W : World) (K : Act → World → Prop), I k W → k < N → (∀ a', Ax k a' W → K a' W) →
      assign.wpIn (F.inRound l) (n - 1 - 1) P (Exit.then K (fun _ _ _ => False)) { tmps := (ps.zip (encs k)).foldl (fun t (p, v) => t.setIfInBounds p v) a.tmps, defers := [] } W)
    (hbody : ∀ (l k : Nat) (a' : Act) (W : World), I k W → Ax k a' W → k < N → body.wpIn (F.inRound l) (n - 1 - 1) P (roundT w.heap.size X I k W) a' W)
    (hdone : ∀ (D : Nat) (W : World), w.heap.size ≤ D → I N W → E W → W.heap[D]? = some (.deferred (some [])) → Q .normal { a with defers := { target := .collected D, args := #[] } :: a.defers } W) :
    (Code.rangeFunc g ps assign body).wpIn F n P Q a w := by
  refine wpIn_rangeFunc ?_
  intro fn hfn
  rw [hro]
  obtain ⟨L, hL⟩ : ∃ L : LoopState → Option Code → Loop, L = fun st pe => { state := st, pending := pe, fn, tmps := a.tmps, params := ps, assign, body, defers := w.heap.size } := ⟨_, rfl⟩
  obtain ⟨D, hD⟩ : ∃ D, D = w.heap.size := ⟨_, rfl⟩
  obtain ⟨l, hl0⟩ : ∃ l, l = w.heap.size + 1 := ⟨_, rfl⟩
  obtain ⟨W1, hW1⟩ : ∃ W1, (w.alloc (.deferred (some []))).alloc (.loop (L .ready none)) = W1 := ⟨_, rfl⟩
  have b1 : W1.heap[l]? = some (.loop (L .ready none)) := by
    rw [← hW1, hl0]
    have := World.alloc_heap_new (w.alloc (.deferred (some []))) (.loop (L .ready none))
    rwa [World.size_alloc] at this
  have b2 : W1.heap[D]? = some (.deferred (some [])) := by
    rw [← hW1, hD]
    exact (Below.heap_alloc _ _ _ (by simp)).trans (World.alloc_heap_new w _)
  have b3 : I 0 W1 := by rw [← hW1]; exact hI.alloc _ (hI.alloc _ h0)
  have b4 : E0 W1 := hE0 w W1 he0 fun q hq => by
    have := hX q hq
    rw [← hW1]
    exact (Below.heap_alloc _ _ _ (by simp; omega)).trans (Below.heap_alloc _ _ _ this)
  refine ⟨l, [{ target := .collected D, args := #[] }], W1, { target := .fn (.func gf) lb, args := #[.func (.yield l) #[] #[]] }, W1, gf, #[.func (.yield l) #[] #[]] ++ lb, W1, ?_, ?_, ?_, ?_, fun _ => h1, ?_⟩
  · rw [← hW1, hL, hD, hl0]; exact run_enterLoop_outer _ _ _ _ _
  · simp only [resolve, hg]
    simp [go_sem]
  · intro f' hf'
    simp [Target.leads] at hf'
    subst hf'
    exact hFg
  · simp [invoke, go_sem, eg]
  have turn : ∀ {W : World} {st : LoopState} {pe : Option Code} (o' : Obj), W.heap[l]? = some (.loop (L st pe)) → W.heap[D]? = some (.deferred (some [])) → (W.putObj l o').heap[l]? = some o' ∧ (W.putObj l o').heap[D]? = some (.deferred (some [])) := fun o' h1 h2 =>
    ⟨World.putObj_heap_same (Array.getElem?_eq_some_iff.1 h1).1, (World.putObj_heap_other (by omega)).trans h2⟩
  have hXo : ∀ (W : World) (o : Obj) (q : Nat), X q → (W.putObj l o).heap[q]? = W.heap[q]? := fun W o q hq => World.putObj_heap_other (by have := hX q hq; omega)
  refine (hseq l (fun k S W => I k W ∧ (∀ q, X q → W.heap[q]? = S q) ∧ W.heap[l]? = some (.loop (L .ready none)) ∧ W.heap[D]? = some (.deferred (some []))) W1
    (fun k S W hJ => ⟨hR k W hJ.1, hJ.2.1⟩) ?_ ?_ ⟨fun q => W1.heap[q]?, b3, fun _ _ => rfl, b1, b2⟩ b4).mono ?_
  · rintro k S W W' ⟨hi, hs, hl, hk⟩ ho
    refine ⟨hIX k W W' hi ho, fun _ _ => rfl, (ho.block l (Array.getElem?_eq_some_iff.1 hl).1 fun h => ?_).trans hl, (ho.block D (Array.getElem?_eq_some_iff.1 hk).1 fun h => ?_).trans hk⟩
    · have := hX l h; omega
    · have := hX D h; omega
  · rintro k S W hkN ⟨hi, hs, hl, hk⟩
    have hy := run_yield (P := P) (args := encs k) hl (by rw [hL]; exact hps k)
    rw [hL] at hy
    refine ⟨fn, _, assign, body, hy, roundIn_of_wpIn hfn (hassign l k W _ hi hkN ?_)⟩
    clear hy
    intro a' hax
    refine ⟨_, run_beginRound hl (by rw [hL]), ?_⟩
    obtain ⟨t1, t2⟩ := turn (.loop { L .ready none with state := .busy }) hl hk
    refine wpIn_mono (hbody l k a' _ (hI.putObj _ hi (by omega) hl rfl) ((hAx a').putObj (s := k) _ hax (by omega) hl rfl) hkN) ?_
    rintro e a3 W3 hp
    cases e with
    | normal =>
      obtain ⟨hk3, hi3, hx3⟩ := hp
      have e1 := hk3.same _ _ (by omega) t1 rfl
      have e2 := hk3.same _ _ (by omega) t2 rfl
      have e3 := run_endRound (P := P) none e1
      rw [hL] at e1 e3
      have e1' : W3.heap[l]? = some (.loop (L .busy none)) := by rw [hL]; exact e1
      obtain ⟨e4, e5⟩ := turn (.loop (L .ready none)) e1' e2
      rw [hL] at e4 e5
      refine ⟨_, _, e3, rfl, ?_, fun q hq => ?_, ?_, ?_⟩
      · exact hI.putObj _ hi3 (by omega) e1' rfl
      · exact (hXo W3 _ q hq).trans ((hx3 q hq).trans ((hXo W _ q hq).trans (hs q hq)))
      · rw [hL]; exact e4
      · exact e5
    | ret => exact hp.elim
    | exit id => exact hp.elim
    | goto t => exact hp.elim
    | panic ch => exact hp.elim
    | outgrown => exact hp.elim
  · rintro e W2 ⟨⟨v, rfl⟩, ⟨S, hi, hs, hl, hk⟩, he⟩
    exact ⟨none, _, by have := run_endLoop (P := P) hl (by rw [hL]; simp); rw [hL] at this; exact this, hdone D _ (by omega) (hI.putObj _ hi (by omega) hl rfl) (hE W2 _ he fun q hq => hXo W2 _ q hq) ((World.putObj_heap_other (by omega)).trans hk)⟩
end Go.Proofs.Ytckankoaiapcoaa.M
