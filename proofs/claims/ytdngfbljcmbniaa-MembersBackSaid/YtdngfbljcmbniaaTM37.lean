/- Rows of ints and a block for a configuration, all of the call's own, apart from one another: what a region that draws its order makes one by one. -/
import Derived.Test.YtdngfbljcmbniaaTM24
import Derived.Test.YtdngfbljcmbniaaTM22
namespace Go.Proofs.Ytdngfbljcmbniaa.M
open Go.RowKit

def apartV (a b : List Int × Value) : Prop := a.2.ownBlock = b.2.ownBlock → a.2.ownBlock = none

theorem apartV_symm {a b : List Int × Value} (h : apartV a b) : apartV b a := fun e => by
  rw [e]; exact h e.symm

/-- Since W nothing has turned below; the rows rs are of the call's own and apart; the blocks gs hold the zero configuration. -/
structure Mk (W : World) (rs : List (List Int × Value)) (gs : List Nat) (w : World) : Prop where
  below : Below W.heap.size W w
  rows : ∀ r ∈ rs, IR W.heap.size r.1 r.2 w
  apart : rs.Pairwise apartV
  boxes : ∀ g ∈ gs, W.heap.size ≤ g ∧ w.heap[g]? = some (.cells #[.slice none 0 0, .slice none 0 0] 25) ∧ ∀ r ∈ rs, r.2.ownBlock ≠ some g

theorem Mk.start (W w : World) (h : Below W.heap.size W w) : Mk W [] [] w := ⟨h, fun _ h => by simp at h, List.Pairwise.nil, fun _ h => by simp at h⟩

theorem Mk.lit {W w : World} {rs : List (List Int × Value)} {gs : List Nat} (h : Mk W rs gs w) {g : Nat} (hg : g = w.heap.size) : Mk W (([], .slice (some ⟨g, 0, none⟩) 0 0) :: rs) gs (w.alloc (.cells #[] 3)) := by
  subst hg
  have hb := below_alloc w (.cells #[] 3)
  refine ⟨h.below.alloc h.below.size _, fun r hr => ?_, List.pairwise_cons.2 ⟨fun r hr e => ?_, h.apart⟩, fun g hg => ?_⟩
  · rcases List.mem_cons.1 hr with rfl | hr
    · exact IR.of_block rfl h.below.size (heap_alloc_new w _) (by simp) (by omega) rfl rfl (fun _ h => by simp at h)
    · exact (h.rows r hr).next hb
  · have := ((h.rows r hr).block_lt (by rw [← e]; rfl)).2
    exact absurd this (Nat.lt_irrefl _)
  · obtain ⟨h1, h2, h3⟩ := h.boxes g hg
    refine ⟨h1, old_below h2 hb, fun r hr => ?_⟩
    rcases List.mem_cons.1 hr with rfl | hr
    · intro e
      have e' : w.heap.size = g := by simpa [Value.ownBlock] using e
      have := lt_of_heap h2
      omega
    · exact h3 r hr

theorem Mk.zero {W w : World} {rs : List (List Int × Value)} {gs : List Nat} (h : Mk W rs gs w) {g : Nat} (hg : g = w.heap.size) : Mk W rs (g :: gs) (w.alloc (.cells #[.slice none 0 0, .slice none 0 0] 25)) := by
  subst hg
  have hb := below_alloc w (.cells #[.slice none 0 0, .slice none 0 0] 25)
  refine ⟨h.below.alloc h.below.size _, fun r hr => (h.rows r hr).next hb, h.apart, fun g hg => ?_⟩
  rcases List.mem_cons.1 hg with rfl | hg
  · exact ⟨h.below.size, heap_alloc_new w _, fun r hr e => by have := ((h.rows r hr).block_lt e).2; exact absurd this (Nat.lt_irrefl _)⟩
  · obtain ⟨h1, h2, h3⟩ := h.boxes g hg
    exact ⟨h1, old_below h2 hb, h3⟩

theorem Mk.app {W w w' : World} {l l' : List Int} {v v' : Value} {rs : List (List Int × Value)} {gs : List Nat} (h : Mk W ((l, v) :: rs) gs w) (ht : Turned W.heap.size l' v v' w w') : Mk W ((l', v') :: rs) gs w' := by
  obtain ⟨ha, hp⟩ := List.pairwise_cons.1 h.apart
  have hv := h.rows _ (List.mem_cons_self ..)
  refine ⟨h.below.trans (ht.below hv h.below.size), fun r hr => ?_, List.pairwise_cons.2 ⟨fun r hr e => ?_, hp⟩, fun g hg => ?_⟩
  · rcases List.mem_cons.1 hr with rfl | hr
    · exact ht.1
    · refine (h.rows r (List.mem_cons_of_mem _ hr)).kept ht.2.1 fun e => ?_
      rw [e]; exact ha r hr e.symm
  · have e2 : v'.ownBlock = r.2.ownBlock := e
    show v'.ownBlock = none
    rcases ht.2.2 with h1 | ⟨g, h1, hg⟩
    · rw [h1]; exact ha r hr (h1.symm.trans e2)
    · have := ((h.rows r (List.mem_cons_of_mem _ hr)).block_lt (e2.symm.trans h1)).2
      omega
  · obtain ⟨h1, h2, h3⟩ := h.boxes g hg
    have hn := h3 _ (List.mem_cons_self ..)
    refine ⟨h1, ht.old h2 hn, fun r hr => ?_⟩
    rcases List.mem_cons.1 hr with rfl | hr
    · exact ht.block (lt_of_heap h2) hn
    · exact h3 r (List.mem_cons_of_mem _ hr)

theorem Mk.swap {W w : World} {a b : List Int × Value} {rs : List (List Int × Value)} {gs : List Nat} (h : Mk W (a :: b :: rs) gs w) : Mk W (b :: a :: rs) gs w := by
  refine ⟨h.below, fun r hr => h.rows r (by simp only [List.mem_cons] at hr ⊢; rcases hr with h | h | h <;> simp [h]), ?_, fun g hg => ?_⟩
  · obtain ⟨h1, h2⟩ := List.pairwise_cons.1 h.apart
    obtain ⟨h3, h4⟩ := List.pairwise_cons.1 h2
    refine List.pairwise_cons.2 ⟨fun r hr => ?_, List.pairwise_cons.2 ⟨fun r hr => h1 r (List.mem_cons_of_mem _ hr), h4⟩⟩
    rcases List.mem_cons.1 hr with rfl | hr
    · exact apartV_symm (h1 _ (List.mem_cons_self ..))
    · exact h3 r hr
  · obtain ⟨h1, h2, h3⟩ := h.boxes g hg
    exact ⟨h1, h2, fun r hr => h3 r (by simp only [List.mem_cons] at hr ⊢; rcases hr with h | h | h <;> simp [h])⟩

theorem Mk.drew {W w : World} {rs : List (List Int × Value)} {gs : List Nat} (h : Mk W rs gs w) : Mk W rs gs w.drew :=
  ⟨h.below.drew, fun r hr => (h.rows r hr).next (below_drew1 w), h.apart, fun g hg => h.boxes g hg⟩

/-- The configuration is written. -/
theorem Mk.done {W w : World} {a b : List Int} {v l : Value} {g : Nat} (h : Mk W [(b, l), (a, v)] [g] w) : NX W.heap.size g v l ⟨a, b⟩ v l ((w.setCell ⟨g, 0, none⟩ v).setCell ⟨g, 1, none⟩ l) ∧ Below W.heap.size W ((w.setCell ⟨g, 0, none⟩ v).setCell ⟨g, 1, none⟩ l) := by
  obtain ⟨h1, h2, h3⟩ := h.boxes g (by simp)
  have hl := h3 (b, l) (by simp)
  have hv := h3 (a, v) (by simp)
  have ha := (List.pairwise_cons.1 h.apart).1 (a, v) (by simp)
  refine ⟨⟨(heap_set22 h2), ⟨((h.rows (a, v) (by simp)).set hv).set hv, ((h.rows (b, l) (by simp)).set hl).set hl, fun e => by rw [e]; exact ha e.symm⟩, h1, hv, hl⟩, (h.below.setCell h1 _).setCell h1 _⟩

/-- An append, at a step of a region that draws its order. -/
theorem wp_ir_append {w : World} {o : Oper} {a : Act} {K : Act → World → Prop} {Q : Exit → Act → World → Prop} (s y : Operand)
    (ho : o.op = .call { callee := .builtin .append, args := #[s, y], argTypes := #[23, 23] }) (_hty : o.type = 23)
    {base : Nat} {L L2 : List Int} {v x : Value} {F : Nat → Prop} (hs : a.eval s = v) (hown : IR base L v w) (hbase : base ≤ w.heap.size) (hy : a.eval y = x) (hx : RepI w F L2 x) (hl : L.length + L2.length ≤ 17592186044416)
    (h : ∀ v' w', Turned base (L ++ L2) v v' w w' → K (a.put o.dst v') w') : o.wp Try.prog a w K Q := by
  obtain ⟨ib, hib, hib0, hib1, hib2⟩ := info_parts infoInt
  exact wp_append_any w s y 23 ho base 3 ib (.int .i64 0) 1 8 Try.underlying23 hib hib0 hib1 hib2 rfl (by decide) v L.length (L.map intV) hs hown.own x hy L2.length (L2.map intV) hx.yields
    (by unfold maxLen; omega) (by omega) hbase fun v' w' ha => h v' w' ⟨⟨by rw [List.map_append, List.length_append]; exact ha.1, fun z hz => by
      rcases List.mem_append.1 hz with hz | hz
      · exact hown.rng z hz
      · exact hx.rng z hz⟩, ha.2.1, by
      rcases ha.2.2 with h | h
      · exact .inl h
      · exact .inr ⟨_, h, Nat.le_refl _⟩⟩

/-- One of three comes up next, whichever. -/
theorem H_any3 {P : Program} {md : Region.Mode} {ops : Array Oper} {Q : Exit → Act → World → Prop} {S : World → Prop} {fuel : Nat} {listed : Array Bool} {a : Act} {w : World} {i j k : Nat} {oi oj ok : Oper}
    (hr : Region.ready md ops listed = [i, j, k]) (hi : ops[i]? = some oi) (hj : ops[j]? = some oj) (hk : ops[k]? = some ok) (hwi : Region.wanted oi (yielded ops a.tmps) = true) (hwj : Region.wanted oj (yielded ops a.tmps) = true) (hwk : Region.wanted ok (yielded ops a.tmps) = true)
    (h1 : oi.wp P a w (fun a' w' => S w' ∧ wpAnyH P md ops Q S fuel (listed.setIfInBounds i true) a' w') Q)
    (h2 : oj.wp P a w (fun a' w' => S w' ∧ wpAnyH P md ops Q S fuel (listed.setIfInBounds j true) a' w') Q)
    (h3 : ok.wp P a w (fun a' w' => S w' ∧ wpAnyH P md ops Q S fuel (listed.setIfInBounds k true) a' w') Q) : wpAnyH P md ops Q S (fuel + 1) listed a w :=
  wpAnyH_ready hr (by simp) (AllReadyH.cons hi (fun K' hK => by rw [if_pos hwi]; exact Oper.wp_mono (fun a w h => hK.out a w h.1 fun _ => h.2) h1)
    (AllReadyH.cons hj (fun K' hK => by rw [if_pos hwj]; exact Oper.wp_mono (fun a w h => hK.out a w h.1 fun _ => h.2) h2)
      (AllReadyH.cons hk (fun K' hK => by rw [if_pos hwk]; exact Oper.wp_mono (fun a w h => hK.out a w h.1 fun _ => h.2) h3) AllReadyH.nil)))
end Go.Proofs.Ytdngfbljcmbniaa.M
