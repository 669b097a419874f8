/- A range over a function that hands out what its rounds' number says. -/
import Derived.RangeFuncNested
import Derived.Test.YtamgjlegcegmeaaGreatDoorSD5
namespace Go.Proofs.YtamgjlegcegmeaaGreatDoor.M
open Go.RowKit

/-- How a round's body may be left, by the rounds' number. -/
def roundPost (B : Nat) (I : Nat → World → Prop) (Ix : Code → Nat → World → Prop) (k : Nat) (W : World) : Exit → Act → World → Prop
  | .normal, _, W' => KeepsFrom B W W' ∧ I (k + 1) W'
  | .ret, _, W' => KeepsFrom B W W' ∧ Ix .ret k W'
  | .exit id, _, W' => KeepsFrom B W W' ∧ Ix (.exit id) k W'
  | .goto t, _, W' => KeepsFrom B W W' ∧ Ix (.goto t) k W'
  | .panic _, _, _ => False
  | .outgrown, _, _ => False

theorem wpIn_rangeFunc_by {F : Fence} {n : Nat} {P : Program} {g : Operand} {ps : Array Tmp} {assign body : Code} {Q : Exit → Act → World → Prop} {a : Act} {w : World}
    (hro : F.round = none) (h1 : 1 ≤ n) {gf : Nat} {lb : Array Value} (hg : a.eval g = .func (.func gf) #[] lb) (hFg : F.fn gf) (eg : ∀ args w, (callFunc gf args).run P w = .ok (.enter gf args) w)
    (N : Nat) (encs : Nat → Array Value) (hps : ∀ k, (encs k).size = ps.size) (R : Nat → World → Prop)
    (hseq : ∀ (l : Nat) (J Jx : Nat → World → Prop) (W : World), (∀ k W, k ≤ N → J k W → R k W) →
      (∀ k W1, k < N → J k W1 → YieldAt F (n - 1 - 1) P l (encs k) W1 fun e W' => (e = .returned (.bool true) ∧ J (k + 1) W') ∨ (e = .returned (.bool false) ∧ Jx k W')) → J 0 W →
      CallsIn F (n - 1) P gf (#[.func (.yield l) #[] #[]] ++ lb) W fun e W' => (∃ v, e = .returned v) ∧ (J N W' ∨ ∃ k, Jx k W'))
    (I : Nat → World → Prop) (Ix : Code → Nat → World → Prop) (hI : OwnFrom w.heap.size I) (hIx : ∀ c, OwnFrom w.heap.size (Ix c)) (hR : ∀ k W, k ≤ N → I k W → R k W) (h0 : I 0 w)
    (Ax : Nat → Act → World → Prop) (hAx : ∀ a', OwnFrom w.heap.size (fun k W => Ax k a' W))
    (hassign : ∀ (l k : Nat) (W : World) (K : Act → World → Prop), I k W → k < N → (∀ a' W', KeepsFrom w.heap.size W W' → I k W' → Ax k a' W' → K a' W') →
      assign.wpIn (F.inRound l) (n - 1 - 1) P (Exit.then K (fun _ _ _ => False)) { tmps := (ps.zip (encs k)).foldl (fun t (p, v) => t.setIfInBounds p v) a.tmps, defers := [] } W)
    (hbody : ∀ (l k : Nat) (a' : Act) (W : World), I k W → Ax k a' W → k < N → body.wpIn (F.inRound l) (n - 1 - 1) P (roundPost w.heap.size I Ix k W) a' W)
    (hdone : ∀ (D : Nat) (W : World), w.heap.size ≤ D → I N W → W.heap[D]? = some (.deferred (some [])) → Q .normal { a with defers := { target := .collected D, args := #[] } :: a.defers } W)
    (hstop : ∀ (D : Nat) (c : Code) (k : Nat) (W : World), w.heap.size ≤ D → Ix c k W → W.heap[D]? = some (.deferred (some [])) → c.wpIn F n P Q { a with defers := { target := .collected D, args := #[] } :: a.defers } W) :
    (Code.rangeFunc g ps assign body).wpIn F n P Q a w := by
  refine wpIn_rangeFunc ?_
  intro fn hfn
  rw [hro]
  obtain ⟨L, hL⟩ : ∃ L : LoopState → Option Code → Loop, L = fun st pe => { state := st, pending := pe, fn, tmps := a.tmps, params := ps, assign, body, defers := w.heap.size } := ⟨_, rfl⟩
  obtain ⟨D, hD⟩ : ∃ D, D = w.heap.size := ⟨_, rfl⟩
  obtain ⟨l, hl0⟩ : ∃ l, l = w.heap.size + 1 := ⟨_, rfl⟩
  obtain ⟨W1, hW1⟩ : ∃ W1, (w.alloc (.deferred (some []))).alloc (.loop (L .ready none)) = W1 := ⟨_, rfl⟩
  have b1 : W1.heap[l]? = some (.loop (L .ready none)) := by
    rw [← hW1, hl0]
    have := World.alloc_heap_new (w.alloc (.deferred (some []))) (.loop (L .ready none))
    rwa [World.size_alloc] at this
  have b2 : W1.heap[D]? = some (.deferred (some [])) := by
    rw [← hW1, hD]
    exact (Below.heap_alloc _ _ _ (by simp)).trans (World.alloc_heap_new w _)
  have b3 : I 0 W1 := by rw [← hW1]; exact hI.alloc _ (hI.alloc _ h0)
  refine ⟨l, [{ target := .collected D, args := #[] }], W1, { target := .fn (.func gf) lb, args := #[.func (.yield l) #[] #[]] }, W1, gf, #[.func (.yield l) #[] #[]] ++ lb, W1, ?_, ?_, ?_, ?_, fun _ => h1, ?_⟩
  · rw [← hW1, hL, hD, hl0]; exact run_enterLoop_outer _ _ _ _ _
  · simp only [resolve, hg]
    simp [go_sem]
  · intro f' hf'
    simp [Target.leads] at hf'
    subst hf'
    exact hFg
  · simp [invoke, go_sem, eg]
  -- the two blocks of book-keeping beside what holds
  have turn : ∀ {W : World} {st : LoopState} {pe : Option Code} (o' : Obj), W.heap[l]? = some (.loop (L st pe)) → W.heap[D]? = some (.deferred (some [])) → (W.putObj l o').heap[l]? = some o' ∧ (W.putObj l o').heap[D]? = some (.deferred (some [])) := fun o' h1 h2 =>
    ⟨World.putObj_heap_same (Array.getElem?_eq_some_iff.1 h1).1, (World.putObj_heap_other (by omega)).trans h2⟩
  refine (hseq l (fun k W => I k W ∧ W.heap[l]? = some (.loop (L .ready none)) ∧ W.heap[D]? = some (.deferred (some [])))
    (fun k W => ∃ c, Ix c k W ∧ W.heap[l]? = some (.loop (L .done (some c))) ∧ W.heap[D]? = some (.deferred (some []))) W1 (fun k W hk hJ => hR k W hk hJ.1) ?_ ⟨b3, b1, b2⟩).mono ?_
  · rintro k W hkN ⟨hi, hl, hk⟩
    have hy := run_yield (P := P) (args := encs k) hl (by rw [hL]; exact hps k)
    rw [hL] at hy
    refine ⟨fn, _, assign, body, hy, roundIn_of_wpIn hfn (hassign l k W _ hi hkN ?_)⟩
    clear hy
    intro a' Wa hka hia hax
    have hla := hka.same _ _ (by omega) hl rfl
    have hDa := hka.same _ _ (by omega) hk rfl
    refine ⟨_, run_beginRound hla (by rw [hL]), ?_⟩
    obtain ⟨t1, t2⟩ := turn (.loop { L .ready none with state := .busy }) hla hDa
    refine wpIn_mono (hbody l k a' _ (hI.putObj _ hia (by omega) hla rfl) ((hAx a').putObj (s := k) _ hax (by omega) hla rfl) hkN) ?_
    have fin : ∀ (jump : Option Code) (W3 : World), KeepsFrom w.heap.size (Wa.putObj l (.loop { L .ready none with state := .busy })) W3 →
        (Instr.endRound l jump).run P W3 = .ok (.bool jump.isNone) (W3.putObj l (.loop (L (if jump.isNone then .ready else .done) jump))) ∧ W3.heap[l]? = some (.loop (L .busy none)) ∧ W3.heap[D]? = some (.deferred (some [])) := fun jump W3 hk3 => by
      have e1 := hk3.same _ _ (by omega) t1 rfl
      have e2 := hk3.same _ _ (by omega) t2 rfl
      have e3 := run_endRound (P := P) jump e1
      rw [hL] at e1 e3 ⊢
      exact ⟨e3, e1, e2⟩
    have leave : ∀ (c : Code) (W3 : World), KeepsFrom w.heap.size (Wa.putObj l (.loop { L .ready none with state := .busy })) W3 → Ix c k W3 →
        ∃ c', Ix c' k (W3.putObj l (.loop (L .done (some c)))) ∧ (W3.putObj l (.loop (L .done (some c)))).heap[l]? = some (.loop (L .done (some c'))) ∧ (W3.putObj l (.loop (L .done (some c)))).heap[D]? = some (.deferred (some [])) := fun c W3 hk3 hi3 => by
      obtain ⟨-, e2, e3⟩ := fin (some c) W3 hk3
      obtain ⟨e4, e5⟩ := turn (.loop (L .done (some c))) e2 e3
      exact ⟨c, (hIx c).putObj _ hi3 (by omega) e2 rfl, e4, e5⟩
    rintro e a3 W3 hp
    cases e with
    | normal =>
      obtain ⟨hk3, hi3⟩ := hp
      obtain ⟨e1, e2, e3⟩ := fin none W3 hk3
      obtain ⟨e4, e5⟩ := turn (.loop (L .ready none)) e2 e3
      exact ⟨_, _, e1, .inl ⟨rfl, hI.putObj _ hi3 (by omega) e2 rfl, e4, e5⟩⟩
    | ret => exact ⟨_, _, (fin (some .ret) W3 hp.1).1, .inr ⟨rfl, leave .ret W3 hp.1 hp.2⟩⟩
    | exit id => exact ⟨_, _, (fin (some (.exit id)) W3 hp.1).1, .inr ⟨rfl, leave (.exit id) W3 hp.1 hp.2⟩⟩
    | goto t => exact ⟨_, _, (fin (some (.goto t)) W3 hp.1).1, .inr ⟨rfl, leave (.goto t) W3 hp.1 hp.2⟩⟩
    | panic ch => exact hp.elim
    | outgrown => exact hp.elim
  · rintro e W2 ⟨⟨v, rfl⟩, (⟨hi, hl, hk⟩ | ⟨k, c, hi, hl, hk⟩)⟩
    · exact ⟨none, _, by have := run_endLoop (P := P) hl (by rw [hL]; simp); rw [hL] at this; exact this, hdone D _ (by omega) (hI.putObj _ hi (by omega) hl rfl) ((World.putObj_heap_other (by omega)).trans hk)⟩
    · exact ⟨some c, _, by have := run_endLoop (P := P) hl (by rw [hL]; simp); rw [hL] at this; exact this, hstop D c k _ (by omega) ((hIx c).putObj _ hi (by omega) hl rfl) ((World.putObj_heap_other (by omega)).trans hk)⟩
end Go.Proofs.YtamgjlegcegmeaaGreatDoor.M
