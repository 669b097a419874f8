/- Rows of matches of a call's own. The law TallyRises. -/
import Derived.Test.YtenpbcpdecnhmaaTA10
import Derived.Test.YtenpbcpdecnhmaaTA11
import Derived.Deep.RegionHeld
import Derived.Deep.CutRange
/- Part: TaM. -/
namespace Go.Proofs.Ytenpbcpdecnhmaa.M
open Go.RowKit

/-- A row's cells. -/
def mCells (l : List (Int × Int)) : List Value := l.flatMap fun p => [.int .i64 p.1, .int .i64 p.2]

theorem mCells_len (l : List (Int × Int)) : (mCells l).length = l.length * 2 := by
  induction l with
  | nil => rfl
  | cons p r ih => simp only [mCells, List.flatMap_cons, List.length_append, List.length_cons, List.length_nil] at ih ⊢; omega

theorem mCells_app (a b : List (Int × Int)) : mCells (a ++ b) = mCells a ++ mCells b := by simp [mCells]

theorem mCells_at {l : List (Int × Int)} {i : Nat} (hi : i < l.length) : (mCells l)[i * 2]? = some (.int .i64 l[i].1) ∧ (mCells l)[i * 2 + 1]? = some (.int .i64 l[i].2) := by
  induction l generalizing i with
  | nil => simp at hi
  | cons p r ih =>
    cases i with
    | zero => exact ⟨rfl, rfl⟩
    | succ i =>
      have := ih (i := i) (by simpa using hi)
      simp only [mCells, List.flatMap_cons, List.cons_append, List.nil_append] at this ⊢
      rw [show (i + 1) * 2 = i * 2 + 2 by omega]
      exact this

theorem mCells_inv {l : List (Int × Int)} {j : Nat} {u : Value} (h : (mCells l)[j]? = some u) : ∃ (i : Nat) (hi : i < l.length), (j = i * 2 ∧ u = .int .i64 l[i].1) ∨ (j = i * 2 + 1 ∧ u = .int .i64 l[i].2) := by
  have hj : j < l.length * 2 := by
    rw [← mCells_len]
    exact (List.getElem?_eq_some_iff.1 h).1
  refine ⟨j / 2, by omega, ?_⟩
  obtain ⟨h1, h2⟩ := mCells_at (l := l) (i := j / 2) (by omega)
  rcases Nat.mod_two_eq_zero_or_one j with e | e
  · have hj2 : j / 2 * 2 = j := by omega
    rw [hj2, h] at h1
    exact .inl ⟨hj2.symm, Option.some.inj h1⟩
  · have hj2 : j / 2 * 2 + 1 = j := by omega
    rw [hj2, h] at h2
    exact .inr ⟨hj2.symm, Option.some.inj h2⟩

theorem mCells_one (l : List (Int × Int)) : ∀ u ∈ mCells l, u.oneCell' = true := by
  intro u hu
  obtain ⟨j, hj⟩ := List.mem_iff_getElem?.1 hu
  obtain ⟨i, hi, ⟨-, rfl⟩ | ⟨-, rfl⟩⟩ := mCells_inv hj <;> rfl

theorem infoMatch : (Try.prog.info? 32).map (fun i => (i.zero, i.size, i.bytes)) = some (some (.agg #[.int .i64 0, .int .i64 0]), 2, 16) := by kernel_rfl

theorem RepM.yields {w : World} {F : Nat → Prop} {l : List (Int × Int)} {v : Value} (h : RepM w F l v) : Yields w v l.length 2 (mCells l) := by
  refine ⟨mCells_len l, mCells_one l, ?_⟩
  rcases h with ⟨rfl, a, c, rfl, _, ha⟩ | ⟨b, off, c, rfl, _, h1, h2, hc⟩
  · cases a with
    | none => rw [ha rfl]; exact .inl ⟨rfl, rfl⟩
    | some a => exact .inr ⟨a, c, rfl, fun j u hj => by simp [mCells] at hj⟩
  · refine .inr ⟨_, c, rfl, fun j u hj => ?_⟩
    obtain ⟨i, hi, ⟨rfl, rfl⟩ | ⟨rfl, rfl⟩⟩ := mCells_inv hj
    · rw [← (hc i hi).1.1]
      simp [addr_add]
    · rw [← (hc i hi).1.2]
      simp [addr_add, Nat.add_assoc]

/-- v is a row of matches of the call's own. -/
structure MR (base : Nat) (l : List (Int × Int)) (v : Value) (w : World) : Prop where
  own : w.ownsRow base 32 2 v l.length (mCells l)
  rng : ∀ p ∈ l, In64p p

theorem MR.bare (base : Nat) (w : World) : MR base [] (.slice none 0 0) w := ⟨World.ownsRow_nil _ _ _ _, fun _ h => by simp at h⟩

theorem MR.slice {base : Nat} {l : List (Int × Int)} {v : Value} {w : World} (h : MR base l v w) : ∃ a c, v = .slice a l.length c := owned_slice h.own

theorem MR.lit {base : Nat} {w : World} {g : Nat} (hb : base ≤ w.heap.size) (hg : g = w.heap.size) : MR base [] (.slice (some ⟨g, 0, none⟩) 0 0) (w.alloc (.cells #[] 32)) := by
  subst hg
  exact ⟨World.ownsRow_lit w #[] 0 (base := base) (e := 32) (size := 2) hb (by unfold maxLen; omega) rfl, fun _ h => by simp at h⟩

theorem MR.kept {base : Nat} {l : List (Int × Int)} {v : Value} {w w' : World} {row : Option Nat} (h : MR base l v w) (hg : w.grownBy w' row) (hn : row ≠ v.ownBlock ∨ v.ownBlock = none) : MR base l v w' := by
  refine ⟨?_, h.rng⟩
  obtain ⟨h1, h2⟩ := h.own
  refine ⟨h1, ?_⟩
  rcases h2 with h2 | ⟨g, cap, cur, rfl, hb, hcur, r⟩
  · exact .inl h2
  · refine .inr ⟨g, cap, cur, rfl, hb, (hg.block g (lt_of_heap hcur) fun e => ?_).trans hcur, r⟩
    rcases hn with hn | hn
    · exact hn e.symm
    · cases hn

theorem MR.next {base : Nat} {l : List (Int × Int)} {v : Value} {w w' : World} (h : MR base l v w) (hb : Below w.heap.size w w') : MR base l v w' := h.kept (grown_of_below hb) (by
  cases e : v.ownBlock with
  | none => exact .inr rfl
  | some g => exact .inl (by simp))

theorem MR.rep {base : Nat} {l : List (Int × Int)} {v : Value} {w : World} (h : MR base l v w) : RepM w (fun b => base ≤ b ∧ b < w.heap.size) l v := by
  have h' := h.own
  obtain ⟨_, ⟨hv, hn⟩ | ⟨g, cap, cur, rfl, hg, hcur, h1, h2, h3, h4⟩⟩ := h.own
  · exact .inl ⟨List.length_eq_zero_iff.1 hn, by rw [hv]; exact Bare.nil⟩
  · refine .inr ⟨g, 0, cap, rfl, ⟨hg, lt_of_heap hcur⟩, h1, by unfold maxLen at h2; omega, fun i hi => ⟨?_, h.rng _ (List.getElem_mem hi)⟩⟩
    obtain ⟨c0, c1⟩ := mCells_at hi
    have e0 := h'.cells (g := g) rfl (i * 2) _ c0
    have e1 := h'.cells (g := g) rfl (i * 2 + 1) _ c1
    rw [addr_add] at e0 e1
    exact ⟨e0, by rw [Nat.add_assoc]; exact e1⟩

/-- Since w nothing that was there has turned, and v is a row of matches of the call's own. -/
def OwnM (w : World) (l : List (Int × Int)) (v : Value) (wr : World) : Prop := Below w.heap.size w wr ∧ MR w.heap.size l v wr

theorem OwnM.bare {w wr : World} (h : Below w.heap.size w wr) : OwnM w [] (.slice none 0 0) wr := ⟨h, MR.bare _ _⟩

theorem OwnM.next {w wr w' : World} {l : List (Int × Int)} {v : Value} (h : OwnM w l v wr) (hb : Below wr.heap.size wr w') : OwnM w l v w' := ⟨h.1.trans (hb.mono h.1.size), h.2.next hb⟩

theorem OwnM.app {w wr w' : World} {L L2 : List (Int × Int)} {v v' : Value} (h : OwnM w L v wr) (hr : ∀ p ∈ L2, In64p p) (ha : AppLeft wr w.heap.size 32 2 v L.length L2.length (mCells L) (mCells L2) v' w') : OwnM w (L ++ L2) v' w' := by
  obtain ⟨h1, h2, h3⟩ := ha
  refine ⟨h.1.grown h2 h.1.size (fun j hj => (h.2.own.lt j hj).1), ⟨by rw [mCells_app, List.length_append]; exact h1, fun p hp => ?_⟩⟩
  rcases List.mem_append.1 hp with hp | hp
  · exact h.2.rng p hp
  · exact hr p hp

theorem OwnM.rep {w wr : World} {l : List (Int × Int)} {v : Value} (h : OwnM w l v wr) : RepM wr (fun b => b < wr.heap.size) l v := h.2.rep.same (fun _ hk => hk.2) fun _ _ => rfl

theorem RepM.one' {w : World} {a b : Int} {g : Nat} (hg : g = w.heap.size) (hr : In64p (a, b)) : RepM (w.alloc (.cells #[.int .i64 a, .int .i64 b] 32)) (fun k => k = g) [(a, b)] (.slice (some ⟨g, 0, none⟩) 1 1) := by
  rcases RepM.one hg hr with ⟨h, -⟩ | ⟨b', off, c, hv, -, h⟩
  · cases h
  · cases hv
    exact .inr ⟨g, 0, 1, rfl, rfl, h⟩

/-- An append. -/
theorem wpList_own_match {w wr : World} {ops : Array Oper} {rest : List Oper} {o : Oper} {a : Act} {Q : Exit → Act → World → Prop} (hgd : o.guard = none) (s y : Operand)
    (ho : o.op = .call { callee := .builtin .append, args := #[s, y], argTypes := #[25, 25] })
    {L L2 : List (Int × Int)} {v x : Value} {F : Nat → Prop} (hs : a.eval s = v) (hown : OwnM w L v wr) (hy : a.eval y = x) (hx : RepM wr F L2 x) (hl : L.length + L2.length ≤ 4398046511104)
    (h : ∀ v' w', OwnM w (L ++ L2) v' w' → wr.grownBy w' v.ownBlock → wpList Try.prog ops Q rest (a.put o.dst v') w') : wpList Try.prog ops Q (o :: rest) a wr := by
  obtain ⟨ib, hib, hib0, hib1, hib2⟩ := info_parts infoMatch
  exact wpList_append_any wr hgd s y 25 ho w.heap.size 32 ib (.agg #[.int .i64 0, .int .i64 0]) 2 16 Try.underlying25 hib hib0 hib1 hib2 rfl (by decide) v L.length (mCells L) hs hown.2.own x hy L2.length (mCells L2) hx.yields
    (by unfold maxLen; omega) (by omega) hown.1.size fun v' w' ha => h v' w' (hown.app hx.rng ha) ha.2.1

/-- .. at a step of a region that draws its order. -/
theorem wp_own_match {w wr : World} {o : Oper} {a : Act} {K : Act → World → Prop} {Q : Exit → Act → World → Prop} (s y : Operand)
    (ho : o.op = .call { callee := .builtin .append, args := #[s, y], argTypes := #[25, 25] })
    {L L2 : List (Int × Int)} {v x : Value} {F : Nat → Prop} (hs : a.eval s = v) (hown : OwnM w L v wr) (hy : a.eval y = x) (hx : RepM wr F L2 x) (hl : L.length + L2.length ≤ 4398046511104)
    (h : ∀ v' w', OwnM w (L ++ L2) v' w' → wr.grownBy w' v.ownBlock → K (a.put o.dst v') w') : o.wp Try.prog a wr K Q := by
  obtain ⟨ib, hib, hib0, hib1, hib2⟩ := info_parts infoMatch
  exact wp_append_any wr s y 25 ho w.heap.size 32 ib (.agg #[.int .i64 0, .int .i64 0]) 2 16 Try.underlying25 hib hib0 hib1 hib2 rfl (by decide) v L.length (mCells L) hs hown.2.own x hy L2.length (mCells L2) hx.yields
    (by unfold maxLen; omega) (by omega) hown.1.size fun v' w' ha => h v' w' (hown.app hx.rng ha) ha.2.1
end Go.Proofs.Ytenpbcpdecnhmaa.M

/- Part: LawTaRises. -/
namespace Go.Proofs.Ytenpbcpdecnhmaa.M
open Go.RowKit

set_option maxRecDepth 20000 in
set_option maxHeartbeats 6400000 in
theorem TallyRises_any (V Ls : List Int) (ms : List (Int × Int)) (mi mx : Int) (hmo : In64p (mi, mx)) (vv lv mv : Value) (w : World) (hv : RepI w (fun k => k < w.heap.size) V vv) (hl : RepI w (fun k => k < w.heap.size) Ls lv) (hm : RepM w (fun k => k < w.heap.size) ms mv) :
    Calls Try.prog 4 #[.agg #[vv, lv], mv, .agg #[.int .i64 mi, .int .i64 mx]] w fun e w' => e = .returned (.bool true) ∧ Below w.heap.size w w' := by
  obtain ⟨a, k, rfl, -⟩ := hv.slice
  obtain ⟨a', k', rfl, -⟩ := hl.slice
  obtain ⟨ma, mk, rfl, hqb⟩ := hm.slice
  obtain ⟨n, hn⟩ : ∃ n, n = V.length := ⟨_, rfl⟩
  obtain ⟨m, hm2⟩ : ∃ m, m = Ls.length := ⟨_, rfl⟩
  obtain ⟨q, hq⟩ : ∃ q, q = ms.length := ⟨_, rfl⟩
  rw [← hn] at hv ⊢
  rw [← hm2] at hl ⊢
  rw [← hq] at hm hqb ⊢
  obtain ⟨g, hg⟩ : ∃ g, g = w.heap.size := ⟨_, rfl⟩
  obtain ⟨W0, hW⟩ : ∃ W0, W0 = (w.alloc (.cells #[.slice a n k, .slice a' m k'] 24)).alloc (.cells #[.int .i64 mi, .int .i64 mx] 32) := ⟨_, rfl⟩
  have HB : Hid (Below w.heap.size w W0) := Lib.hid (by rw [hW]; exact (below_alloc _ _).alloc (by simp) _)
  have HBX : Hid (W0.heap[g]? = some (.cells #[.slice a n k, .slice a' m k'] 24)) := Lib.hid (by rw [hW, hg]; exact old_alloc (heap_alloc_new w _))
  have HBM : Hid (W0.heap[g + 1]? = some (.cells #[.int .i64 mi, .int .i64 mx] 32)) := Lib.hid (by rw [hW, hg]; exact heap_new _ _ _ (by simp))
  have HV := Lib.hid hv
  have HL := Lib.hid hl
  have HM := Lib.hid hm
  have HN := Lib.hid hn
  have HM2 := Lib.hid hm2
  have HQ := Lib.hid hq
  have HW := Lib.hid hW
  have HG := Lib.hid hg
  have HMO := Lib.hid hmo
  clear hv hl hm hn hm2 hq hW hg hmo
  go_enter Try.func4, Try.ntmps4
  go_wp2_with fail
  rw [← HW.out, ← HG.out]
  refine (awake9_any W0).mono ?_
  rintro e w2 ⟨rfl, hb2⟩
  have HB2 : Hid (Below w.heap.size w w2) := Lib.hid (HB.out.trans (hb2.mono HB.out.size))
  have HBX2 := Lib.hid (old_below HBX.out hb2)
  have HBM2 := Lib.hid (old_below HBM.out hb2)
  obtain ⟨c0, c1, -, -, cz⟩ := block2' HBX2.out
  clear hb2
  go_wp2_with fail
  have HS := Lib.hid (small_any V Ls (fun k => k < w.heap.size) _ _ w2 (HV.out.below (fun k hk => hk) HB2.out) (HL.out.below (fun k hk => hk) HB2.out))
  rw [← HN.out, ← HM2.out] at HS
  refine HS.out.mono ?_
  rintro e w3 ⟨rfl, hb3⟩
  have HB3 : Hid (Below w.heap.size w w3) := Lib.hid (HB2.out.trans (hb3.mono HB2.out.size))
  have HBX3 := Lib.hid (old_below HBX2.out hb3)
  have HBM3 := Lib.hid (old_below HBM2.out hb3)
  clear hb3 c0 c1 cz HS
  by_cases hs : n ≤ 60 ∧ m ≤ 60
  · rw [decide_eq_true hs]
    by_cases hp : q > 60
    · have q1 : decide ((q : Int) > 60) = true := decide_eq_true (by omega)
      go_wp2_with fail
      refine (awake9_any _).mono ?_
      rintro e w5 ⟨rfl, hb5⟩
      have HB5 : Hid (Below w.heap.size w w5) := Lib.hid (HB3.out.trans (hb5.mono HB3.out.size))
      clear hb5
      go_wp2_with fail
      go_ret
      exact ⟨rfl, HB5.out⟩
    have q1 : decide ((q : Int) > 60) = false := decide_eq_false (by omega)
    obtain ⟨c0, c1, -, -, cz⟩ := block2' HBX3.out
    have HSM : Hid (V.length ≤ 60 ∧ ms.length ≤ 60) := Lib.hid (by rw [← HN.out, ← HQ.out]; omega)
    obtain ⟨y, hy⟩ : ∃ y, y = comOf V ms := ⟨_, rfl⟩
    have HYR : Hid (0 ≤ y ∧ y ≤ 9223372036854775807) := Lib.hid (by
      rw [hy]
      unfold comOf
      by_cases h : V.map (hasM ms) = []
      · rw [h, com_nil]; omega
      · obtain ⟨v, -, e⟩ := List.mem_map.1 (com_mem h)
        rw [← e]
        exact ⟨hasM_nn ms v, (hasM_in64 HM.out.rng v).2⟩)
    have hC1 := Commit_any V Ls ms (fun k => k < w.heap.size) (fun k => k < w.heap.size) _ _ _ w3 (HV.out.below (fun k hk => hk) HB3.out) (HL.out.below (fun k hk => hk) HB3.out) (fun k hk => Nat.lt_of_lt_of_le hk HB3.out.size) (HM.out.below (fun k hk => hk) HB3.out) (fun k hk => Nat.lt_of_lt_of_le hk HB3.out.size) (by have := HSM.out; omega) (by have := HSM.out; omega)
    rw [← hy] at hC1
    have HC1 := Lib.hid hC1
    have HY := Lib.hid hy
    clear hC1 hy hs
    go_wp2_with fail
    refine HC1.out.mono ?_
    rintro e W ⟨rfl, hb4⟩
    have HB4 : Hid (Below w.heap.size w W) := Lib.hid (HB3.out.trans (hb4.mono HB3.out.size))
    have HBX4 := Lib.hid (old_below HBX3.out hb4)
    have HBM4 := Lib.hid (old_below HBM3.out hb4)
    clear hb4 HC1 c0 c1 cz HBX3 HBM3 HBX2 HBM2 HBX HBM
    obtain ⟨c0, c1, -, -, cz⟩ := block2' HBX4.out
    by_cases h0 : n = 0
    · have q0 : ((n : Int) == 0) = true := by simp [h0]
      have HY0 : Hid ((y == 0) = true) := Lib.hid (by
        have : V = [] := List.length_eq_zero_iff.1 (HN.out.symm.trans h0)
        rw [HY.out, this]
        simp [comOf, com_nil])
      have q2 := HY0.out
      clear h0
      go_wp2_with fail
      go_ret
      exact ⟨by rfl, HB4.out⟩
    · have q0 : ((n : Int) == 0) = false := by simpa using h0
      have HNE : Hid (V.map (hasM ms) ≠ []) := Lib.hid (by
        intro e
        have := congrArg List.length e
        rw [List.length_map] at this
        have h2 := HN.out
        simp at this
        rw [this] at h2
        exact h0 (by simpa using h2))
      clear h0
      go_upto_region 6 with fail
      go_cut [8] from 31 to 36 (fun x w' => Hid (OwnM W (ms ++ [(mi, mx)]) x w'))
      case first =>
        have r0 : ∀ w' : World, Below W.heap.size W w' → w'.cell? ⟨g + 1, 0, none⟩ = some (.int .i64 mi) := fun w' hb' => (block2' (old_below HBM4.out hb')).1
        have r1 : ∀ w' : World, Below W.heap.size W w' → w'.cell? ⟨g + 1, 1, none⟩ = some (.int .i64 mx) := fun w' hb' => (block2' (old_below HBM4.out hb')).2.1
        have hS : Below W.heap.size W W.drew := (Below.refl _ _).drew
        clear c0 c1 cz
        refine wp_region_held (S := fun w' => Below W.heap.size W w') (by kernel_rfl) ?_
        refine H_take (i := 1) (v := ?_) rfl (by as_aux_lemma => kernel_rfl) (by as_aux_lemma => kernel_rfl) (by as_aux_lemma => kernel_rfl) (fun _ _ _ h => h) (by rfl) hS ?_ ?_
        rotate_left
        · intro w' hw'; go_simp; with_reducible rfl
        go_simp
        refine H_take (i := 3) (v := ?_) rfl (by as_aux_lemma => kernel_rfl) (by as_aux_lemma => kernel_rfl) (by as_aux_lemma => kernel_rfl) (fun _ _ _ h => h) (by rfl) hS ?_ ?_
        rotate_left
        · intro w' hw'; go_simp; with_reducible rfl
        go_simp
        clear r0 r1
        obtain ⟨wc, hwc⟩ : ∃ wc, wc = W.drew := ⟨_, rfl⟩
        have hs : Below W.heap.size W wc := by rw [hwc]; exact hS
        rw [← hwc]
        clear hwc hS
        refine H_both (i := 0) (j := 4) (by as_aux_lemma => kernel_rfl) rfl rfl (by rfl) (by rfl) ?_ ?_
        · skip
          go_simp
          obtain ⟨gz, hgz⟩ : ∃ gz, gz = wc.heap.size := ⟨_, rfl⟩
          obtain ⟨wn, hwn⟩ : ∃ wn, wn = wc.alloc (.cells #[] 32) := ⟨_, rfl⟩
          rw [← hwn, ← hgz]
          have hbn : Below wc.heap.size wc wn := by rw [hwn]; exact below_alloc _ _
          have HO : Hid (OwnM W [] (.slice (some ⟨gz, 0, none⟩) 0 0) wn) := Lib.hid ⟨hs.trans (hbn.mono hs.size), by rw [hwn]; exact MR.lit hs.size hgz⟩
          replace hs : Below W.heap.size W wn := hs.trans (hbn.mono hs.size)
          clear hgz hwn hbn
          refine ⟨hs, ?_⟩
          refine H_both (i := 2) (j := 4) (by as_aux_lemma => kernel_rfl) rfl rfl (by rfl) (by rfl) ?_ ?_
          · skip
            refine wp_own_match (.tmp 31) (.tmp 32) rfl (w := W) (L := []) (L2 := ms) rfl HO.out rfl ((HM.out.below (fun k hk => hk) HB4.out).below (fun k hk => Nat.lt_of_lt_of_le hk HB4.out.size) hs) (by have := HSM.out; simp; omega) ?_
            intro v2 w2 ho2 hg2
            obtain ⟨a2, k2, hv2⟩ := ho2.2.slice
            rw [List.nil_append, ← HQ.out] at hv2
            subst hv2
            replace hs := ho2.1
            replace HO := Lib.hid ho2
            clear ho2 hg2
            refine ⟨hs, ?_⟩
            go_simp
            refine H_one (i := 4) (by as_aux_lemma => kernel_rfl) rfl (by rfl) ?_
            obtain ⟨wc, hwc⟩ : ∃ wc, wc = w2 := ⟨_, rfl⟩
            subst hwc
            go_simp
            obtain ⟨gx, hgx⟩ : ∃ gx, gx = wc.heap.size := ⟨_, rfl⟩
            obtain ⟨wn, hwn⟩ : ∃ wn, wn = wc.alloc (.cells #[.int .i64 mi, .int .i64 mx] 32) := ⟨_, rfl⟩
            rw [← hwn, ← hgx]
            have hbn : Below wc.heap.size wc wn := by rw [hwn]; exact below_alloc _ _
            have HX : Hid (RepM wn (fun k => k = gx) [(mi, mx)] (.slice (some ⟨gx, 0, none⟩) 1 1)) := Lib.hid (by rw [hwn]; exact RepM.one' hgx HMO.out)
            replace hs : Below W.heap.size W wn := hs.trans (hbn.mono hs.size)
            replace HO := Lib.hid (HO.out.next hbn)
            clear hgx hwn hbn
            refine ⟨hs, ?_⟩
            refine H_one (i := 5) (by as_aux_lemma => kernel_rfl) rfl (by rfl) ?_
            refine wp_own_match (.tmp 33) (.tmp 35) rfl (w := W) (L := ms) (L2 := [(mi, mx)]) rfl HO.out rfl HX.out (by have := HSM.out; simp; omega) ?_
            intro v4 w4 ho4 hg4
            obtain ⟨a4, k4, hv4⟩ := ho4.2.slice
            obtain ⟨q4, hq4⟩ : ∃ q4, q4 = (ms ++ [(mi, mx)]).length := ⟨_, rfl⟩
            rw [← hq4] at hv4
            subst hv4
            have hs4 := ho4.1
            have HO4 := Lib.hid ho4
            clear ho4 hg4 hq4
            refine ⟨hs4, ?_⟩
            go_simp
            refine H_take (i := 6) (v := ?_) rfl (by as_aux_lemma => kernel_rfl) (by as_aux_lemma => kernel_rfl) (by as_aux_lemma => kernel_rfl) (fun _ _ _ h => h) (by rfl) hs4 ?_ ?_
            rotate_left
            · intro w' hw'; go_simp; with_reducible rfl
            go_simp
            refine wpAnyH_done (by as_aux_lemma => kernel_rfl) ?_ _
            go_wp2_with fail
            go_meet
            case rel => exact HO4
          · obtain ⟨wc, hwc⟩ : ∃ wc, wc = wn := ⟨_, rfl⟩
            subst hwc
            go_simp
            obtain ⟨gx, hgx⟩ : ∃ gx, gx = wc.heap.size := ⟨_, rfl⟩
            obtain ⟨wn, hwn⟩ : ∃ wn, wn = wc.alloc (.cells #[.int .i64 mi, .int .i64 mx] 32) := ⟨_, rfl⟩
            rw [← hwn, ← hgx]
            have hbn : Below wc.heap.size wc wn := by rw [hwn]; exact below_alloc _ _
            have HX : Hid (RepM wn (fun k => k = gx) [(mi, mx)] (.slice (some ⟨gx, 0, none⟩) 1 1)) := Lib.hid (by rw [hwn]; exact RepM.one' hgx HMO.out)
            replace hs : Below W.heap.size W wn := hs.trans (hbn.mono hs.size)
            have hne : gx ≠ gz := by have := HO.out.2.own.lt gz rfl; omega
            have hlt : gx < wn.heap.size := by rw [hwn, hgx]; simp
            replace HO := Lib.hid (HO.out.next hbn)
            clear hgx hwn hbn
            refine ⟨hs, ?_⟩
            refine H_one (i := 2) (by as_aux_lemma => kernel_rfl) rfl (by rfl) ?_
            refine wp_own_match (.tmp 31) (.tmp 32) rfl (w := W) (L := []) (L2 := ms) rfl HO.out rfl ((HM.out.below (fun k hk => hk) HB4.out).below (fun k hk => Nat.lt_of_lt_of_le hk HB4.out.size) hs) (by have := HSM.out; simp; omega) ?_
            intro v2 w2 ho2 hg2
            obtain ⟨a2, k2, hv2⟩ := ho2.2.slice
            rw [List.nil_append, ← HQ.out] at hv2
            subst hv2
            replace HX := Lib.hid (HX.out.same (G := fun k => k = gx) (w' := w2) (fun k hk => hk) fun k hk => hg2.block k (by
              rw [hk]; exact hlt) (by rw [hk]; intro e; exact hne (Option.some.inj e)))
            replace hs := ho2.1
            replace HO := Lib.hid ho2
            clear ho2 hg2
            refine ⟨hs, ?_⟩
            go_simp
            refine H_one (i := 5) (by as_aux_lemma => kernel_rfl) rfl (by rfl) ?_
            refine wp_own_match (.tmp 33) (.tmp 35) rfl (w := W) (L := ms) (L2 := [(mi, mx)]) rfl HO.out rfl HX.out (by have := HSM.out; simp; omega) ?_
            intro v4 w4 ho4 hg4
            obtain ⟨a4, k4, hv4⟩ := ho4.2.slice
            obtain ⟨q4, hq4⟩ : ∃ q4, q4 = (ms ++ [(mi, mx)]).length := ⟨_, rfl⟩
            rw [← hq4] at hv4
            subst hv4
            have hs4 := ho4.1
            have HO4 := Lib.hid ho4
            clear ho4 hg4 hq4
            refine ⟨hs4, ?_⟩
            go_simp
            refine H_take (i := 6) (v := ?_) rfl (by as_aux_lemma => kernel_rfl) (by as_aux_lemma => kernel_rfl) (by as_aux_lemma => kernel_rfl) (fun _ _ _ h => h) (by rfl) hs4 ?_ ?_
            rotate_left
            · intro w' hw'; go_simp; with_reducible rfl
            go_simp
            refine wpAnyH_done (by as_aux_lemma => kernel_rfl) ?_ _
            go_wp2_with fail
            go_meet
            case rel => exact HO4
        · skip
          go_simp
          obtain ⟨gx, hgx⟩ : ∃ gx, gx = wc.heap.size := ⟨_, rfl⟩
          obtain ⟨wn, hwn⟩ : ∃ wn, wn = wc.alloc (.cells #[.int .i64 mi, .int .i64 mx] 32) := ⟨_, rfl⟩
          rw [← hwn, ← hgx]
          have hbn : Below wc.heap.size wc wn := by rw [hwn]; exact below_alloc _ _
          have HX : Hid (RepM wn (fun k => k = gx) [(mi, mx)] (.slice (some ⟨gx, 0, none⟩) 1 1)) := Lib.hid (by rw [hwn]; exact RepM.one' hgx HMO.out)
          replace hs : Below W.heap.size W wn := hs.trans (hbn.mono hs.size)
          have hlt : gx < wn.heap.size := by rw [hwn, hgx]; simp
          clear hgx hwn hbn
          refine ⟨hs, ?_⟩
          refine H_one (i := 0) (by as_aux_lemma => kernel_rfl) rfl (by rfl) ?_
          obtain ⟨wc, hwc⟩ : ∃ wc, wc = wn := ⟨_, rfl⟩
          subst hwc
          go_simp
          obtain ⟨gz, hgz⟩ : ∃ gz, gz = wc.heap.size := ⟨_, rfl⟩
          obtain ⟨wn, hwn⟩ : ∃ wn, wn = wc.alloc (.cells #[] 32) := ⟨_, rfl⟩
          rw [← hwn, ← hgz]
          have hbn : Below wc.heap.size wc wn := by rw [hwn]; exact below_alloc _ _
          have HO : Hid (OwnM W [] (.slice (some ⟨gz, 0, none⟩) 0 0) wn) := Lib.hid ⟨hs.trans (hbn.mono hs.size), by rw [hwn]; exact MR.lit hs.size hgz⟩
          replace hs : Below W.heap.size W wn := hs.trans (hbn.mono hs.size)
          have hne : gx ≠ gz := by rw [hgz]; omega
          replace HX := Lib.hid (HX.out.same (G := fun k => k = gx) (w' := wn) (fun k hk => hk) fun k hk => hbn.block k (by rw [hk]; exact hlt))
          have hlt2 : gx < wn.heap.size := Nat.lt_of_lt_of_le hlt hbn.size
          clear hgz hwn hbn
          refine ⟨hs, ?_⟩
          refine H_one (i := 2) (by as_aux_lemma => kernel_rfl) rfl (by rfl) ?_
          refine wp_own_match (.tmp 31) (.tmp 32) rfl (w := W) (L := []) (L2 := ms) rfl HO.out rfl ((HM.out.below (fun k hk => hk) HB4.out).below (fun k hk => Nat.lt_of_lt_of_le hk HB4.out.size) hs) (by have := HSM.out; simp; omega) ?_
          intro v2 w2 ho2 hg2
          obtain ⟨a2, k2, hv2⟩ := ho2.2.slice
          rw [List.nil_append, ← HQ.out] at hv2
          subst hv2
          replace HX := Lib.hid (HX.out.same (G := fun k => k = gx) (w' := w2) (fun k hk => hk) fun k hk => hg2.block k (by
            rw [hk]; exact hlt2) (by rw [hk]; intro e; exact hne (Option.some.inj e)))
          replace hs := ho2.1
          replace HO := Lib.hid ho2
          clear ho2 hg2
          refine ⟨hs, ?_⟩
          go_simp
          refine H_one (i := 5) (by as_aux_lemma => kernel_rfl) rfl (by rfl) ?_
          refine wp_own_match (.tmp 33) (.tmp 35) rfl (w := W) (L := ms) (L2 := [(mi, mx)]) rfl HO.out rfl HX.out (by have := HSM.out; simp; omega) ?_
          intro v4 w4 ho4 hg4
          obtain ⟨a4, k4, hv4⟩ := ho4.2.slice
          obtain ⟨q4, hq4⟩ : ∃ q4, q4 = (ms ++ [(mi, mx)]).length := ⟨_, rfl⟩
          rw [← hq4] at hv4
          subst hv4
          have hs4 := ho4.1
          have HO4 := Lib.hid ho4
          clear ho4 hg4 hq4
          refine ⟨hs4, ?_⟩
          go_simp
          refine H_take (i := 6) (v := ?_) rfl (by as_aux_lemma => kernel_rfl) (by as_aux_lemma => kernel_rfl) (by as_aux_lemma => kernel_rfl) (fun _ _ _ h => h) (by rfl) hs4 ?_ ?_
          rotate_left
          · intro w' hw'; go_simp; with_reducible rfl
          go_simp
          refine wpAnyH_done (by as_aux_lemma => kernel_rfl) ?_ _
          go_wp2_with fail
          go_meet
          case rel => exact HO4
      case rest =>
        have HO := hcut
        clear hcut
        obtain ⟨aa, ak, haa⟩ := HO.out.2.slice
        obtain ⟨qa, hqa⟩ : ∃ qa, qa = (ms ++ [(mi, mx)]).length := ⟨_, rfl⟩
        rw [← hqa] at haa
        subst haa
        have HQA : Hid (qa ≤ 61) := Lib.hid (by rw [hqa]; have := HSM.out; simp; omega)
        have hYE : enough (V.map (hasM ms)) y := (enough_iff HNE.out).2 (by rw [HY.out]; exact Int.le_refl _)
        have hYN : ¬ enough (V.map (hasM ms)) (y + 1) := fun h => by
          have := (enough_iff HNE.out).1 h
          rw [HY.out] at this
          unfold comOf at this
          omega
        have HSTAY : Hid (∀ w' : World, Below wc.heap.size wc w' → Below w.heap.size w w' ∧ RepI w' (fun k => k < w.heap.size) V (.slice a n k) ∧ RepI w' (fun k => k < w.heap.size) Ls (.slice a' m k') ∧ RepM w' (fun k => k < w.heap.size) ms (.slice ma q mk) ∧ w'.heap[g]? = some (.cells #[.slice a n k, .slice a' m k'] 24) ∧ OwnM W (ms ++ [(mi, mx)]) (.slice aa qa ak) w') := Lib.hid fun w' hb' => by
          have hbW := HO.out.1.trans (hb'.mono HO.out.1.size)
          have hb := HB4.out.trans (hbW.mono HB4.out.size)
          exact ⟨hb, HV.out.below (fun k hk => hk) hb, HL.out.below (fun k hk => hk) hb, HM.out.below (fun k hk => hk) hb, old_below HBX4.out hbW, HO.out.next hb'⟩
        have HEN : Hid (∀ (x : Int) (w' : World), Below wc.heap.size wc w' → Calls Try.prog 12 #[.agg #[.slice a n k, .slice a' m k'], .slice ma q mk, .int .i64 x] w' fun e w'' => e = .returned (.bool (decide (enough (V.map (hasM ms)) x))) ∧ Below w'.heap.size w' w'') := Lib.hid fun x w' hb' => by
          obtain ⟨h1, h2, h3, h4, -, -⟩ := HSTAY.out w' hb'
          exact RefEnough_any V Ls ms x (fun k => k < w.heap.size) (fun k => k < w.heap.size) _ _ _ w' h2 h3 (fun k hk => Nat.lt_of_lt_of_le hk h1.size) h4 (fun k hk => Nat.lt_of_lt_of_le hk h1.size) (by have := HSM.out; omega)
        obtain ⟨z, hz⟩ : ∃ z, z = comOf V (ms ++ [(mi, mx)]) := ⟨_, rfl⟩
        have hzy : z ≥ y := by rw [hz, HY.out]; exact comOf_mono fun m hm => List.mem_append_left _ hm
        have hzq : decide (z ≥ y) = true := decide_eq_true hzy
        have HCM : Hid (∀ (w' : World), Below wc.heap.size wc w' → Calls Try.prog 10 #[.agg #[.slice a n k, .slice a' m k'], .slice aa qa ak] w' fun e w'' => e = .returned (.int .i64 z) ∧ Below w'.heap.size w' w'') := Lib.hid fun w' hb' => by
          obtain ⟨h1, h2, h3, -, -, h5⟩ := HSTAY.out w' hb'
          rw [hz]
          exact Commit_any V Ls (ms ++ [(mi, mx)]) (fun k => k < w.heap.size) (fun k => k < w'.heap.size) _ _ _ w' h2 h3 (fun k hk => Nat.lt_of_lt_of_le hk h1.size) h5.rep (fun k hk => hk) (by have := HSM.out; omega) (by rw [← hqa]; have := HQA.out; omega)
        have HE1 := Lib.hid (HEN.out y)
        have HE2 := Lib.hid (HEN.out (y + 1))
        rw [decide_eq_true hYE] at HE1
        rw [decide_eq_false hYN] at HE2
        have HWC : Hid (Below wc.heap.size wc wc) := Lib.hid (Below.refl _ _)
        have hyr := HYR.out
        clear hYE hYN hz hzy hqa c0 c1 cz
        obtain ⟨c0, c1, -, -, cz⟩ := block2' (HSTAY.out wc (Below.refl _ _)).2.2.2.2.1
        by_cases hmx : y = 9223372036854775807
        · have q3 : (y == 9223372036854775807) = true := by simp [hmx]
          clear hmx
          go_wp2_with fail
          refine (HE1.out wc HWC.out).mono ?_
          rintro e w5 ⟨rfl, hb5⟩
          have HB5 := Lib.hid hb5
          clear c0 c1 cz hb5
          obtain ⟨c0, c1, -, -, cz⟩ := block2' (HSTAY.out w5 HB5.out).2.2.2.2.1
          go_wp2_with fail
          refine (HCM.out w5 HB5.out).mono ?_
          rintro e w6 ⟨rfl, hb6⟩
          have HB6 : Hid (Below wc.heap.size wc w6) := Lib.hid (HB5.out.trans (hb6.mono HB5.out.size))
          clear hb6 c0 c1 cz
          go_wp2_with fail
          go_ret
          exact ⟨rfl, (HSTAY.out w6 HB6.out).1⟩
        · have q3 : (y == 9223372036854775807) = false := by simpa using hmx
          have hyw : IntKind.i64.wrap (y + 1) = y + 1 := IntWalk.i64_in _ (by omega)
          clear hmx
          go_wp2_with fail
          refine (HE1.out wc HWC.out).mono ?_
          rintro e w5 ⟨rfl, hb5⟩
          have HB5 := Lib.hid hb5
          clear c0 c1 cz hb5
          obtain ⟨c0, c1, -, -, cz⟩ := block2' (HSTAY.out w5 HB5.out).2.2.2.2.1
          go_wp2_with fail
          refine (HE2.out w5 HB5.out).mono ?_
          rintro e w6 ⟨rfl, hb6⟩
          have HB6 : Hid (Below wc.heap.size wc w6) := Lib.hid (HB5.out.trans (hb6.mono HB5.out.size))
          clear hb6 c0 c1 cz
          obtain ⟨c0, c1, -, -, cz⟩ := block2' (HSTAY.out w6 HB6.out).2.2.2.2.1
          go_wp2_with fail
          refine (HCM.out w6 HB6.out).mono ?_
          rintro e w7 ⟨rfl, hb7⟩
          have HB7 : Hid (Below wc.heap.size wc w7) := Lib.hid (HB6.out.trans (hb7.mono HB6.out.size))
          clear hb7 c0 c1 cz
          go_wp2_with fail
          go_ret
          exact ⟨rfl, (HSTAY.out w7 HB7.out).1⟩
  · rw [decide_eq_false hs]
    go_wp2_with fail
    refine (awake9_any _).mono ?_
    rintro e w5 ⟨rfl, hb5⟩
    have HB5 : Hid (Below w.heap.size w w5) := Lib.hid (HB3.out.trans (hb5.mono HB3.out.size))
    clear hb5
    go_wp2_with fail
    go_ret
    exact ⟨rfl, HB5.out⟩
end Go.Proofs.Ytenpbcpdecnhmaa.M
