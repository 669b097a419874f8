/- The reader of package mould: whichever part's reader is called. -/
import Derived.Test.YtafodaoehnggfaaMouldTake2
namespace Go.Proofs.Ytafodaoehnggfaa.M
open Go.RowKit

def readerFn : Sh → FuncId
  | .num => 38
  | .blob => 39
  | .list _ => 40
  | .row _ => 41

theorem reader_entry (s : Sh) (args : Array Value) (w : World) : (callFunc (readerFn s) args).run Try.prog w = .ok (.enter (readerFn s) args) w := by
  cases s <;> simp [readerFn, go_sem]

theorem readerOf_any (s : Sh) (w : World) : Calls Try.prog 34 #[.int .u8 (kind s)] w fun e w' => e = .returned (.func (.func (readerFn s)) #[] #[]) ∧ w = w' := by
  cases s
  all_goals
    simp only [kind, readerFn]
    go_enter Try.func34, Try.ntmps34
    go_wp2_with fail
    go_ret
    exact ⟨rfl, rfl⟩

theorem ReadPost.form {w w' : World} {rb : Nat} {F : Nat → Prop} {r : Except Int (V × List UInt8)} {e : Ending} (h : ReadPost w rb F r e w') :
    ∃ n ab nb cb al nl cl c, e = .returned (.tuple #[.agg #[.int .u64 n, .slice ab nb cb, .slice al nl cl], .int .i64 c]) ∧ w.grownBy w' (some rb) := by
  cases r with
  | error c => exact ⟨_, _, _, _, _, _, _, _, h.1, h.2⟩
  | ok x =>
    obtain ⟨d, l⟩ := x
    obtain ⟨u, v, he, hg, hr, hv, hu⟩ := h
    obtain ⟨n, ab, nb, cb, al, nl, cl, rfl⟩ := hu.form
    exact ⟨_, _, _, _, _, _, _, _, he, hg⟩

/-- The same, seen from an earlier world, and behind stores into blocks that nobody else knows. -/
theorem ReadPost.wrap {w w0 w1 W : World} {rb : Nat} {F : Nat → Prop} {r : Except Int (V × List UInt8)} {e : Ending} (h : ReadPost w0 rb F r e w1) (h0 : w.heap.size ≤ w0.heap.size)
    (hW : ∀ k, k = rb ∨ F k ∨ w0.heap.size ≤ k → W.heap[k]? = w1.heap[k]?) (hg : w.grownBy W (some rb)) (hs : w1.heap.size ≤ W.heap.size) : ReadPost w rb F r e W := by
  cases r with
  | error c => exact ⟨h.1, hg⟩
  | ok x =>
    obtain ⟨d, l⟩ := x
    obtain ⟨u, v, he, _, hr, hv, hu⟩ := h
    exact ⟨u, v, he, hg, (hW rb (.inl rfl)).trans hr, hv.same (fun _ h => h) fun b hb => hW b (.inr (.inl hb)), hu.same (fun b hb => by omega) fun b hb => hW b (.inr (.inr hb.1))⟩

set_option maxHeartbeats 1600000 in
theorem value_of {s : Sh} (hk : KindSaid (readerFn s) s) : KindSaid 30 s := by
  intro rb F G L v pu w hr hv hs hF hG hL hss
  obtain ⟨sa, sn, sc, rfl⟩ := hs.agg
  have hrb := lt_of_heap hr
  have hcall := fun o1 o2 => hk rb F G L v (.agg #[.int .u8 (kind s), .slice sa sn sc, .bool (solid s)]) ((w.alloc o1).alloc o2).drew (boxes2 o1 o2 hr hv hF).1 (boxes2 o1 o2 hr hv hF).2
    (hs.same (fun _ h => h) fun b hb => by
      have := (hG b hb).1
      show ((w.alloc o1).alloc o2).heap[b]? = _
      rw [Below.heap_alloc _ _ _ (by simp; omega), Below.heap_alloc _ _ _ this])
    (fun b hb => ⟨by have := (hF b hb).1; simp; omega, (hF b hb).2⟩) (fun b hb => ⟨by have := (hG b hb).1; simp; omega, (hG b hb).2⟩) hL hss
  have HC := Lib.hid hcall
  have HRO := Lib.hid (readerOf_any s)
  have HF := Lib.hid hF
  have hent := reader_entry s
  clear hcall hk hr hv hs hF hG
  generalize readerFn s = fn at *
  generalize takeV s L = TV at *
  go_enter Try.func30, Try.ntmps30
  go_wp2_with fail
  go_region_law (first | (go_simp; go_at_call 34; refine (HRO.out _).mono ?_; rintro e w1 ⟨rfl, rfl⟩) | (go_simp; refine (HC.out _ _).mono ?_; intro e w1 hp; obtain ⟨n, ab, nb, cb, al, nl, cl, c, rfl, hg⟩ := hp.form; have hb2 := hg.block (w.heap.size + 1) (by simp) (by simp; omega); obtain ⟨d0, d1, d2, g0, g1, g2, hz⟩ := block3 (hb2.trans (heap_new _ _ _ (by simp))); have HP := Lib.hid hp; have HG := Lib.hid hg; clear hp hg hb2))
  all_goals go_wp2_with fail
  all_goals refine bodyPost_ret (v := .tuple #[.agg #[.int .u64 n, .slice ab nb cb, .slice al nl cl], .int .i64 c]) (by simp [results, Try.results30, go_sem, d0, d1, d2]) rfl ?_
  all_goals refine HP.out.wrap (by simp; omega) ?_ ?_ (by simp)
  all_goals first | exact gb_new _ (by simp) (gb_new _ (by simp) (gb_new _ (by simp) (gb_trans (gb_drew (gb_alloc _ (gb_alloc _ (gb_refl _ _)))) HG.out))) | skip
  all_goals
    intro k hk
    have hkne : k ≠ w.heap.size + 1 := by
      rcases hk with rfl | hk | hk
      · omega
      · have := (HF.out k hk).1; omega
      · simp at hk; omega
    simp (disch := (simp; omega)) only [Below.heap_setCell]
end Go.Proofs.Ytafodaoehnggfaa.M
