/- Rows of matches of a call's own. -/
import Derived.Test.YtenpbcpdecnhmaaTA10
namespace Go.Proofs.Ytenpbcpdecnhmaa.M
open Go.RowKit

/-- A row's cells. -/
def mCells (l : List (Int × Int)) : List Value := l.flatMap fun p => [.int .i64 p.1, .int .i64 p.2]

theorem mCells_len (l : List (Int × Int)) : (mCells l).length = l.length * 2 := by
  induction l with
  | nil => rfl
  | cons p r ih => simp only [mCells, List.flatMap_cons, List.length_append, List.length_cons, List.length_nil] at ih ⊢; omega

theorem mCells_app (a b : List (Int × Int)) : mCells (a ++ b) = mCells a ++ mCells b := by simp [mCells]

theorem mCells_at {l : List (Int × Int)} {i : Nat} (hi : i < l.length) : (mCells l)[i * 2]? = some (.int .i64 l[i].1) ∧ (mCells l)[i * 2 + 1]? = some (.int .i64 l[i].2) := by
  induction l generalizing i with
  | nil => simp at hi
  | cons p r ih =>
    cases i with
    | zero => exact ⟨rfl, rfl⟩
    | succ i =>
      have := ih (i := i) (by simpa using hi)
      simp only [mCells, List.flatMap_cons, List.cons_append, List.nil_append] at this ⊢
      rw [show (i + 1) * 2 = i * 2 + 2 by omega]
      exact this

theorem mCells_inv {l : List (Int × Int)} {j : Nat} {u : Value} (h : (mCells l)[j]? = some u) : ∃ (i : Nat) (hi : i < l.length), (j = i * 2 ∧ u = .int .i64 l[i].1) ∨ (j = i * 2 + 1 ∧ u = .int .i64 l[i].2) := by
  have hj : j < l.length * 2 := by
    rw [← mCells_len]
    exact (List.getElem?_eq_some_iff.1 h).1
  refine ⟨j / 2, by omega, ?_⟩
  obtain ⟨h1, h2⟩ := mCells_at (l := l) (i := j / 2) (by omega)
  rcases Nat.mod_two_eq_zero_or_one j with e | e
  · have hj2 : j / 2 * 2 = j := by omega
    rw [hj2, h] at h1
    exact .inl ⟨hj2.symm, Option.some.inj h1⟩
  · have hj2 : j / 2 * 2 + 1 = j := by omega
    rw [hj2, h] at h2
    exact .inr ⟨hj2.symm, Option.some.inj h2⟩

theorem mCells_one (l : List (Int × Int)) : ∀ u ∈ mCells l, u.oneCell' = true := by
  intro u hu
  obtain ⟨j, hj⟩ := List.mem_iff_getElem?.1 hu
  obtain ⟨i, hi, ⟨-, rfl⟩ | ⟨-, rfl⟩⟩ := mCells_inv hj <;> rfl

theorem infoMatch : (Try.prog.info? 32).map (fun i => (i.zero, i.size, i.bytes)) = some (some (.agg #[.int .i64 0, .int .i64 0]), 2, 16) := by kernel_rfl

theorem RepM.yields {w : World} {F : Nat → Prop} {l : List (Int × Int)} {v : Value} (h : RepM w F l v) : Yields w v l.length 2 (mCells l) := by
  refine ⟨mCells_len l, mCells_one l, ?_⟩
  rcases h with ⟨rfl, a, c, rfl, _, ha⟩ | ⟨b, off, c, rfl, _, h1, h2, hc⟩
  · cases a with
    | none => rw [ha rfl]; exact .inl ⟨rfl, rfl⟩
    | some a => exact .inr ⟨a, c, rfl, fun j u hj => by simp [mCells] at hj⟩
  · refine .inr ⟨_, c, rfl, fun j u hj => ?_⟩
    obtain ⟨i, hi, ⟨rfl, rfl⟩ | ⟨rfl, rfl⟩⟩ := mCells_inv hj
    · rw [← (hc i hi).1.1]
      simp [addr_add]
    · rw [← (hc i hi).1.2]
      simp [addr_add, Nat.add_assoc]

/-- v is a row of matches of the call's own. -/
structure MR (base : Nat) (l : List (Int × Int)) (v : Value) (w : World) : Prop where
  own : w.ownsRow base 32 2 v l.length (mCells l)
  rng : ∀ p ∈ l, In64p p

theorem MR.bare (base : Nat) (w : World) : MR base [] (.slice none 0 0) w := ⟨World.ownsRow_nil _ _ _ _, fun _ h => by simp at h⟩

theorem MR.slice {base : Nat} {l : List (Int × Int)} {v : Value} {w : World} (h : MR base l v w) : ∃ a c, v = .slice a l.length c := owned_slice h.own

theorem MR.lit {base : Nat} {w : World} {g : Nat} (hb : base ≤ w.heap.size) (hg : g = w.heap.size) : MR base [] (.slice (some ⟨g, 0, none⟩) 0 0) (w.alloc (.cells #[] 32)) := by
  subst hg
  exact ⟨World.ownsRow_lit w #[] 0 (base := base) (e := 32) (size := 2) hb (by unfold maxLen; omega) rfl, fun _ h => by simp at h⟩

theorem MR.kept {base : Nat} {l : List (Int × Int)} {v : Value} {w w' : World} {row : Option Nat} (h : MR base l v w) (hg : w.grownBy w' row) (hn : row ≠ v.ownBlock ∨ v.ownBlock = none) : MR base l v w' := by
  refine ⟨?_, h.rng⟩
  obtain ⟨h1, h2⟩ := h.own
  refine ⟨h1, ?_⟩
  rcases h2 with h2 | ⟨g, cap, cur, rfl, hb, hcur, r⟩
  · exact .inl h2
  · refine .inr ⟨g, cap, cur, rfl, hb, (hg.block g (lt_of_heap hcur) fun e => ?_).trans hcur, r⟩
    rcases hn with hn | hn
    · exact hn e.symm
    · cases hn

theorem MR.next {base : Nat} {l : List (Int × Int)} {v : Value} {w w' : World} (h : MR base l v w) (hb : Below w.heap.size w w') : MR base l v w' := h.kept (grown_of_below hb) (by
  cases e : v.ownBlock with
  | none => exact .inr rfl
  | some g => exact .inl (by simp))

theorem MR.rep {base : Nat} {l : List (Int × Int)} {v : Value} {w : World} (h : MR base l v w) : RepM w (fun b => base ≤ b ∧ b < w.heap.size) l v := by
  have h' := h.own
  obtain ⟨_, ⟨hv, hn⟩ | ⟨g, cap, cur, rfl, hg, hcur, h1, h2, h3, h4⟩⟩ := h.own
  · exact .inl ⟨List.length_eq_zero_iff.1 hn, by rw [hv]; exact Bare.nil⟩
  · refine .inr ⟨g, 0, cap, rfl, ⟨hg, lt_of_heap hcur⟩, h1, by unfold maxLen at h2; omega, fun i hi => ⟨?_, h.rng _ (List.getElem_mem hi)⟩⟩
    obtain ⟨c0, c1⟩ := mCells_at hi
    have e0 := h'.cells (g := g) rfl (i * 2) _ c0
    have e1 := h'.cells (g := g) rfl (i * 2 + 1) _ c1
    rw [addr_add] at e0 e1
    exact ⟨e0, by rw [Nat.add_assoc]; exact e1⟩

/-- Since w nothing that was there has turned, and v is a row of matches of the call's own. -/
def OwnM (w : World) (l : List (Int × Int)) (v : Value) (wr : World) : Prop := Below w.heap.size w wr ∧ MR w.heap.size l v wr

theorem OwnM.bare {w wr : World} (h : Below w.heap.size w wr) : OwnM w [] (.slice none 0 0) wr := ⟨h, MR.bare _ _⟩

theorem OwnM.next {w wr w' : World} {l : List (Int × Int)} {v : Value} (h : OwnM w l v wr) (hb : Below wr.heap.size wr w') : OwnM w l v w' := ⟨h.1.trans (hb.mono h.1.size), h.2.next hb⟩

theorem OwnM.app {w wr w' : World} {L L2 : List (Int × Int)} {v v' : Value} (h : OwnM w L v wr) (hr : ∀ p ∈ L2, In64p p) (ha : AppLeft wr w.heap.size 32 2 v L.length L2.length (mCells L) (mCells L2) v' w') : OwnM w (L ++ L2) v' w' := by
  obtain ⟨h1, h2, h3⟩ := ha
  refine ⟨h.1.grown h2 h.1.size (fun j hj => (h.2.own.lt j hj).1), ⟨by rw [mCells_app, List.length_append]; exact h1, fun p hp => ?_⟩⟩
  rcases List.mem_append.1 hp with hp | hp
  · exact h.2.rng p hp
  · exact hr p hp

theorem OwnM.rep {w wr : World} {l : List (Int × Int)} {v : Value} (h : OwnM w l v wr) : RepM wr (fun b => b < wr.heap.size) l v := h.2.rep.same (fun _ hk => hk.2) fun _ _ => rfl

theorem RepM.one' {w : World} {a b : Int} {g : Nat} (hg : g = w.heap.size) (hr : In64p (a, b)) : RepM (w.alloc (.cells #[.int .i64 a, .int .i64 b] 32)) (fun k => k = g) [(a, b)] (.slice (some ⟨g, 0, none⟩) 1 1) := by
  rcases RepM.one hg hr with ⟨h, -⟩ | ⟨b', off, c, hv, -, h⟩
  · cases h
  · cases hv
    exact .inr ⟨g, 0, 1, rfl, rfl, h⟩

/-- An append. -/
theorem wpList_own_match {w wr : World} {ops : Array Oper} {rest : List Oper} {o : Oper} {a : Act} {Q : Exit → Act → World → Prop} (hgd : o.guard = none) (s y : Operand)
    (ho : o.op = .call { callee := .builtin .append, args := #[s, y], argTypes := #[25, 25] })
    {L L2 : List (Int × Int)} {v x : Value} {F : Nat → Prop} (hs : a.eval s = v) (hown : OwnM w L v wr) (hy : a.eval y = x) (hx : RepM wr F L2 x) (hl : L.length + L2.length ≤ 4398046511104)
    (h : ∀ v' w', OwnM w (L ++ L2) v' w' → wr.grownBy w' v.ownBlock → wpList Try.prog ops Q rest (a.put o.dst v') w') : wpList Try.prog ops Q (o :: rest) a wr := by
  obtain ⟨ib, hib, hib0, hib1, hib2⟩ := info_parts infoMatch
  exact wpList_append_any wr hgd s y 25 ho w.heap.size 32 ib (.agg #[.int .i64 0, .int .i64 0]) 2 16 Try.underlying25 hib hib0 hib1 hib2 rfl (by decide) v L.length (mCells L) hs hown.2.own x hy L2.length (mCells L2) hx.yields
    (by unfold maxLen; omega) (by omega) hown.1.size fun v' w' ha => h v' w' (hown.app hx.rng ha) ha.2.1

/-- .. at a step of a region that draws its order. -/
theorem wp_own_match {w wr : World} {o : Oper} {a : Act} {K : Act → World → Prop} {Q : Exit → Act → World → Prop} (s y : Operand)
    (ho : o.op = .call { callee := .builtin .append, args := #[s, y], argTypes := #[25, 25] })
    {L L2 : List (Int × Int)} {v x : Value} {F : Nat → Prop} (hs : a.eval s = v) (hown : OwnM w L v wr) (hy : a.eval y = x) (hx : RepM wr F L2 x) (hl : L.length + L2.length ≤ 4398046511104)
    (h : ∀ v' w', OwnM w (L ++ L2) v' w' → wr.grownBy w' v.ownBlock → K (a.put o.dst v') w') : o.wp Try.prog a wr K Q := by
  obtain ⟨ib, hib, hib0, hib1, hib2⟩ := info_parts infoMatch
  exact wp_append_any wr s y 25 ho w.heap.size 32 ib (.agg #[.int .i64 0, .int .i64 0]) 2 16 Try.underlying25 hib hib0 hib1 hib2 rfl (by decide) v L.length (mCells L) hs hown.2.own x hy L2.length (mCells L2) hx.yields
    (by unfold maxLen; omega) (by omega) hown.1.size fun v' w' ha => h v' w' (hown.app hx.rng ha) ha.2.1
end Go.Proofs.Ytenpbcpdecnhmaa.M
