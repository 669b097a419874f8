/- Rows of peers, as the document has them. The document's Only. -/
import Derived.Test.YtenpbcpdecnhmaaTA10
import Derived.BigQuiet
import Derived.Deep.CutRange
/- Part: TaQ. -/
namespace Go.Proofs.Ytenpbcpdecnhmaa.M
open Go.RowKit

/-- A row's cells. -/
def pCells (l : List Pr) : List Value := l.flatMap fun p => [.int .i64 p.1, .int .i64 p.2.1, .int .i64 p.2.2]

theorem pCells_len (l : List Pr) : (pCells l).length = l.length * 3 := by
  induction l with
  | nil => rfl
  | cons p r ih => simp only [pCells, List.flatMap_cons, List.length_append, List.length_cons, List.length_nil] at ih ⊢; omega

theorem pCells_app (a b : List Pr) : pCells (a ++ b) = pCells a ++ pCells b := by simp [pCells]

theorem pCells_at {l : List Pr} {i : Nat} (hi : i < l.length) : (pCells l)[i * 3]? = some (.int .i64 l[i].1) ∧ (pCells l)[i * 3 + 1]? = some (.int .i64 l[i].2.1) ∧ (pCells l)[i * 3 + 2]? = some (.int .i64 l[i].2.2) := by
  induction l generalizing i with
  | nil => simp at hi
  | cons p r ih =>
    cases i with
    | zero => exact ⟨rfl, rfl, rfl⟩
    | succ i =>
      have := ih (i := i) (by simpa using hi)
      simp only [pCells, List.flatMap_cons, List.cons_append, List.nil_append] at this ⊢
      rw [show (i + 1) * 3 = i * 3 + 3 by omega]
      exact this

theorem pCells_inv {l : List Pr} {j : Nat} {u : Value} (h : (pCells l)[j]? = some u) : ∃ (i : Nat) (hi : i < l.length), (j = i * 3 ∧ u = .int .i64 l[i].1) ∨ (j = i * 3 + 1 ∧ u = .int .i64 l[i].2.1) ∨ (j = i * 3 + 2 ∧ u = .int .i64 l[i].2.2) := by
  have hj : j < l.length * 3 := by
    rw [← pCells_len]
    exact (List.getElem?_eq_some_iff.1 h).1
  refine ⟨j / 3, by omega, ?_⟩
  obtain ⟨h1, h2, h3⟩ := pCells_at (l := l) (i := j / 3) (by omega)
  rcases (show j = j / 3 * 3 ∨ j = j / 3 * 3 + 1 ∨ j = j / 3 * 3 + 2 by omega) with e | e | e
  · rw [← e, h] at h1
    exact .inl ⟨e, Option.some.inj h1⟩
  · rw [← e, h] at h2
    exact .inr (.inl ⟨e, Option.some.inj h2⟩)
  · rw [← e, h] at h3
    exact .inr (.inr ⟨e, Option.some.inj h3⟩)

theorem pCells_one (l : List Pr) : ∀ u ∈ pCells l, u.oneCell' = true := by
  intro u hu
  obtain ⟨j, hj⟩ := List.mem_iff_getElem?.1 hu
  obtain ⟨i, hi, ⟨-, rfl⟩ | ⟨-, rfl⟩ | ⟨-, rfl⟩⟩ := pCells_inv hj <;> rfl

theorem infoPeer : (Try.prog.info? 53).map (fun i => (i.zero, i.size, i.bytes)) = some (some (.agg #[.int .i64 0, .int .i64 0, .int .i64 0]), 3, 24) := by kernel_rfl

/-- A slice of peers. -/
def RepP (w : World) (F : Nat → Prop) (l : List Pr) (v : Value) : Prop :=
  (l = [] ∧ Bare v) ∨ ∃ b off c, v = .slice (some ⟨b, off, none⟩) l.length c ∧ F b ∧ l.length ≤ c ∧ c ≤ 9223372036854775807 ∧
    ∀ (i : Nat) (hi : i < l.length), w.cell? ⟨b, off + i * 3, none⟩ = some (.int .i64 l[i].1) ∧ w.cell? ⟨b, off + i * 3 + 1, none⟩ = some (.int .i64 l[i].2.1) ∧ w.cell? ⟨b, off + i * 3 + 2, none⟩ = some (.int .i64 l[i].2.2)

theorem RepP.slice {w : World} {F : Nat → Prop} {l : List Pr} {v : Value} (h : RepP w F l v) : ∃ a c, v = .slice a l.length c ∧ l.length ≤ c ∧ c ≤ 9223372036854775807 := by
  rcases h with ⟨rfl, a, c, rfl, h1, -⟩ | ⟨b, off, c, rfl, -, h1, h2, -⟩
  · exact ⟨a, c, rfl, by simp, h1⟩
  · exact ⟨_, _, rfl, h1, h2⟩

theorem RepP.elem {w : World} {F : Nat → Prop} {l : List Pr} {a : Option Addr} {n c : Nat} (h : RepP w F l (.slice a n c)) (i : Nat) (hi : i < l.length) :
    ∃ b off, a = some ⟨b, off, none⟩ ∧ F b ∧ w.cell? ⟨b, off + i * 3, none⟩ = some (.int .i64 l[i].1) ∧ w.cell? ⟨b, off + i * 3 + 1, none⟩ = some (.int .i64 l[i].2.1) ∧ w.cell? ⟨b, off + i * 3 + 2, none⟩ = some (.int .i64 l[i].2.2) := by
  rcases h with ⟨rfl, -⟩ | ⟨b, off, c', hv, hF, h1, h2, hc⟩
  · simp at hi
  · cases hv
    exact ⟨b, off, rfl, hF, (hc i hi).1, (hc i hi).2.1, (hc i hi).2.2⟩

theorem RepP.same {w w' : World} {F G : Nat → Prop} (hF : ∀ k, F k → G k) (hw : ∀ k, F k → w'.heap[k]? = w.heap[k]?) {l : List Pr} {v : Value} (h : RepP w F l v) : RepP w' G l v := by
  rcases h with h | ⟨b, off, c, hs, hb, h1, h2, hc⟩
  · exact .inl h
  · exact .inr ⟨b, off, c, hs, hF b hb, h1, h2, fun i hi => ⟨by rw [World.cell?_of_block (by exact hw b hb)]; exact (hc i hi).1, by rw [World.cell?_of_block (by exact hw b hb)]; exact (hc i hi).2.1, by rw [World.cell?_of_block (by exact hw b hb)]; exact (hc i hi).2.2⟩⟩

theorem RepP.below {w w' : World} {F : Nat → Prop} {l : List Pr} {v : Value} (h : RepP w F l v) (hF : ∀ k, F k → k < w.heap.size) (hb : Below w.heap.size w w') : RepP w' F l v := h.same (fun _ h => h) fun k hk => hb.block k (hF k hk)

theorem RepP.yields {w : World} {F : Nat → Prop} {l : List Pr} {v : Value} (h : RepP w F l v) : Yields w v l.length 3 (pCells l) := by
  refine ⟨pCells_len l, pCells_one l, ?_⟩
  rcases h with ⟨rfl, a, c, rfl, _, ha⟩ | ⟨b, off, c, rfl, _, h1, h2, hc⟩
  · cases a with
    | none => rw [ha rfl]; exact .inl ⟨rfl, rfl⟩
    | some a => exact .inr ⟨a, c, rfl, fun j u hj => by simp [pCells] at hj⟩
  · refine .inr ⟨_, c, rfl, fun j u hj => ?_⟩
    obtain ⟨i, hi, ⟨rfl, rfl⟩ | ⟨rfl, rfl⟩ | ⟨rfl, rfl⟩⟩ := pCells_inv hj
    · rw [← (hc i hi).1]
      simp [addr_add]
    · rw [← (hc i hi).2.1]
      simp [addr_add, Nat.add_assoc]
    · rw [← (hc i hi).2.2]
      simp [addr_add, Nat.add_assoc]

/-- The first of them: s[:k]. -/
theorem RepP.takeP {w : World} {F : Nat → Prop} {l : List Pr} {a : Option Addr} {n c : Nat} (h : RepP w F l (.slice a n c)) (hn : n = l.length) {k : Nat} (hk : k ≤ n) : RepP w F (l.take k) (.slice a k c) := by
  subst hn
  have hl : (l.take k).length = k := by rw [List.length_take]; omega
  rcases h with ⟨rfl, hb⟩ | ⟨b, off, c', hv, hF, h1, h2, hc⟩
  · obtain rfl : k = 0 := by simpa using hk
    exact .inl ⟨rfl, hb⟩
  · cases hv
    refine .inr ⟨b, off, c, by rw [hl], hF, by omega, h2, fun i hi => ?_⟩
    simp only [List.getElem_take]
    exact hc i (by omega)

/-- The last of them: s[k:]. -/
theorem RepP.dropP {w : World} {F : Nat → Prop} {l : List Pr} {b off n c : Nat} (h : RepP w F l (.slice (some ⟨b, off, none⟩) n c)) (hn : n = l.length) {k : Nat} (hk : k ≤ n) {a' : Option Addr} (ha : a' = if c = k then some ⟨b, off, none⟩ else some ⟨b, off + k * 3, none⟩) : RepP w F (l.drop k) (.slice a' (n - k) (c - k)) := by
  subst hn ha
  have hl : (l.drop k).length = l.length - k := by rw [List.length_drop]
  rcases h with ⟨rfl, hb⟩ | ⟨b', off', c', hv, hF, h1, h2, hc⟩
  · obtain rfl : k = 0 := by simpa using hk
    refine .inl ⟨rfl, ?_⟩
    simpa using hb
  · cases hv
    by_cases e : c = k
    · rw [if_pos e]
      have e2 : l.length = k := by omega
      refine .inl ⟨by rw [← e2]; exact List.drop_length, ?_⟩
      rw [e2, e]
      simp only [Nat.sub_self]
      exact Bare.at (by omega)
    · rw [if_neg e]
      refine .inr ⟨b, off + k * 3, c - k, by rw [hl], hF, by omega, by omega, fun i hi => ?_⟩
      have := hc (k + i) (by omega)
      simp only [List.getElem_drop]
      rw [show off + k * 3 + i * 3 = off + (k + i) * 3 by omega]
      exact this

/-- v is a row of peers of the call's own. -/
def PR (base : Nat) (l : List Pr) (v : Value) (w : World) : Prop := w.ownsRow base 53 3 v l.length (pCells l)

theorem PR.bare (base : Nat) (w : World) : PR base [] (.slice none 0 0) w := World.ownsRow_nil _ _ _ _

theorem PR.slice {base : Nat} {l : List Pr} {v : Value} {w : World} (h : PR base l v w) : ∃ a c, v = .slice a l.length c := owned_slice h

theorem PR.same {base : Nat} {l : List Pr} {v : Value} {w w' : World} (h : PR base l v w) (hs : ∀ k, v.ownBlock = some k → w'.heap[k]? = w.heap[k]?) : PR base l v w' := by
  unfold PR at h ⊢
  obtain ⟨h1, h2⟩ := h
  refine ⟨h1, ?_⟩
  rcases h2 with h2 | ⟨g, cap, cur, rfl, hb, hcur, r⟩
  · exact .inl h2
  · exact .inr ⟨g, cap, cur, rfl, hb, (hs g rfl).trans hcur, r⟩

theorem PR.next {base : Nat} {l : List Pr} {v : Value} {w w' : World} (h : PR base l v w) (hb : Below w.heap.size w w') : PR base l v w' := h.same fun k hk => hb.block k (h.lt k hk).2

theorem PR.lower {base base' : Nat} {l : List Pr} {v : Value} {w : World} (h : PR base l v w) (hb : base' ≤ base) : PR base' l v w := by
  obtain ⟨h1, h2⟩ := h
  refine ⟨h1, ?_⟩
  rcases h2 with h2 | ⟨g, cap, cur, e, hg, r⟩
  · exact .inl h2
  · exact .inr ⟨g, cap, cur, e, Nat.le_trans hb hg, r⟩

theorem PR.cells {base : Nat} {l : List Pr} {v : Value} {w : World} (h : PR base l v w) : (l = [] ∧ v = .slice none 0 0) ∨ ∃ g cap cur, v = .slice (some ⟨g, 0, none⟩) l.length cap ∧ base ≤ g ∧ g < w.heap.size ∧ w.heap[g]? = some (.cells cur 53 (0, 0)) ∧ l.length ≤ cap ∧ cap ≤ 9223372036854775807 := by
  obtain ⟨_, ⟨hv, hn⟩ | ⟨g, cap, cur, rfl, hg, hcur, h1, h2, h3, h4⟩⟩ := h
  · exact .inl ⟨List.length_eq_zero_iff.1 hn, hv⟩
  · exact .inr ⟨g, cap, cur, rfl, hg, lt_of_heap hcur, hcur, h1, by unfold maxLen at h2; omega⟩

theorem PR.rep {base : Nat} {l : List Pr} {v : Value} {w : World} (h : PR base l v w) : RepP w (fun b => base ≤ b ∧ b < w.heap.size) l v := by
  have h' : w.ownsRow base 53 3 v l.length (pCells l) := h
  rcases h.cells with ⟨rfl, rfl⟩ | ⟨g, cap, cur, rfl, hg, hlt, hcur, h1, h2⟩
  · exact .inl ⟨rfl, Bare.nil⟩
  · refine .inr ⟨g, 0, cap, rfl, ⟨hg, hlt⟩, h1, h2, fun i hi => ?_⟩
    obtain ⟨c0, c1, c2⟩ := pCells_at hi
    have e0 := h'.cells (g := g) rfl (i * 3) _ c0
    have e1 := h'.cells (g := g) rfl (i * 3 + 1) _ c1
    have e2 := h'.cells (g := g) rfl (i * 3 + 2) _ c2
    rw [addr_add] at e0 e1 e2
    exact ⟨e0, by rw [Nat.add_assoc]; exact e1, by rw [Nat.add_assoc]; exact e2⟩

/-- One of them is laid anew. -/
theorem PR.put {base g n c : Nat} {l : List Pr} {w : World} (h : PR base l (.slice (some ⟨g, 0, none⟩) n c) w) (hn : n = l.length) {k : Nat} (hk : k < l.length) (f : Nat) (x : Int) {p : Pr}
    (hp : (f = 1 ∧ p = (l[k].1, x, l[k].2.2)) ∨ (f = 2 ∧ p = (l[k].1, l[k].2.1, x))) : PR base (l.set k p) (.slice (some ⟨g, 0, none⟩) n c) (w.setCell ⟨g, k * 3 + f, none⟩ (.int .i64 x)) := by
  subst hn
  unfold PR at h ⊢
  have hs := (h.stored (k * 3 + f) (.int .i64 x)).1
  have e : (pCells l).set (k * 3 + f) (.int .i64 x) = pCells (l.set k p) := by
    apply List.ext_getElem?
    intro j
    have hlen : (pCells l).length = (pCells (l.set k p)).length := by rw [pCells_len, pCells_len, List.length_set]
    rcases Nat.lt_or_ge j (pCells l).length with hj | hj
    · have hj3 : j < l.length * 3 := by rw [← pCells_len]; exact hj
      obtain ⟨a0, a1, a2⟩ := pCells_at (l := l) (i := j / 3) (by omega)
      obtain ⟨b0, b1, b2⟩ := pCells_at (l := l.set k p) (i := j / 3) (by rw [List.length_set]; omega)
      rw [List.getElem?_set]
      by_cases ek : k = j / 3
      · subst ek
        simp only [List.getElem_set_self] at b0 b1 b2
        rcases (show j = j / 3 * 3 ∨ j = j / 3 * 3 + 1 ∨ j = j / 3 * 3 + 2 by omega) with e | e | e
        · rw [← e] at a0 b0
          rcases hp with ⟨rfl, rfl⟩ | ⟨rfl, rfl⟩
          · rw [if_neg (by omega), a0, b0]
          · rw [if_neg (by omega), a0, b0]
        · rw [← e] at a1 b1
          rcases hp with ⟨rfl, rfl⟩ | ⟨rfl, rfl⟩
          · rw [if_pos (by omega), if_pos (by rw [e] at hj; omega), b1]
          · rw [if_neg (by omega), a1, b1]
        · rw [← e] at a2 b2
          rcases hp with ⟨rfl, rfl⟩ | ⟨rfl, rfl⟩
          · rw [if_neg (by omega), a2, b2]
          · rw [if_pos (by omega), if_pos (by rw [e] at hj; omega), b2]
      · simp only [List.getElem_set_ne ek] at b0 b1 b2
        have hf : f = 1 ∨ f = 2 := by rcases hp with ⟨h, -⟩ | ⟨h, -⟩ <;> omega
        rw [if_neg (by omega)]
        rcases (show j = j / 3 * 3 ∨ j = j / 3 * 3 + 1 ∨ j = j / 3 * 3 + 2 by omega) with e | e | e
        · rw [← e] at a0 b0; rw [a0, b0]
        · rw [← e] at a1 b1; rw [a1, b1]
        · rw [← e] at a2 b2; rw [a2, b2]
    · rw [List.getElem?_eq_none (by rw [List.length_set]; exact hj), List.getElem?_eq_none (by rw [← hlen]; exact hj)]
  rw [e] at hs
  rw [List.length_set]
  exact hs

/-- An append. -/
theorem wpList_own_peer {w wr : World} {ops : Array Oper} {rest : List Oper} {o : Oper} {a : Act} {Q : Exit → Act → World → Prop} (hgd : o.guard = none) (s y : Operand)
    (ho : o.op = .call { callee := .builtin .append, args := #[s, y], argTypes := #[47, 47] })
    {L L2 : List Pr} {v x : Value} {F : Nat → Prop} (hs : a.eval s = v) (hbl : Below w.heap.size w wr) (hown : PR w.heap.size L v wr) (hy : a.eval y = x) (hx : RepP wr F L2 x) (hl : L.length + L2.length ≤ 4398046511104)
    (h : ∀ v' w', Below w.heap.size w w' → PR w.heap.size (L ++ L2) v' w' → wr.grownBy w' v.ownBlock → wpList Try.prog ops Q rest (a.put o.dst v') w') : wpList Try.prog ops Q (o :: rest) a wr := by
  obtain ⟨ib, hib, hib0, hib1, hib2⟩ := info_parts infoPeer
  exact wpList_append_any wr hgd s y 47 ho w.heap.size 53 ib (.agg #[.int .i64 0, .int .i64 0, .int .i64 0]) 3 24 Try.underlying47 hib hib0 hib1 hib2 rfl (by decide) v L.length (pCells L) hs hown x hy L2.length (pCells L2) hx.yields
    (by unfold maxLen; omega) (by omega) hbl.size fun v' w' ha => h v' w' (hbl.grown ha.2.1 hbl.size (fun j hj => (hown.lt j hj).1)) (by unfold PR; rw [pCells_app, List.length_append]; exact ha.1) ha.2.1
end Go.Proofs.Ytenpbcpdecnhmaa.M

/- Part: TaR. -/
namespace Go.Proofs.Ytenpbcpdecnhmaa.M
open Go.RowKit

theorem trk3 {w : World} {g : Nat} {x y z : Value} {t : TypeId} (h : w.heap[g]? = some (.cells #[x, y, z] t)) :
    (w.cell? ⟨g, 0, none⟩ = some x ∧ w.cell? ⟨g, 1, none⟩ = some y ∧ w.cell? ⟨g, 2, none⟩ = some z) ∧ (w.frozen? ⟨g, 0, none⟩ = false ∧ w.frozen? ⟨g, 1, none⟩ = false ∧ w.frozen? ⟨g, 2, none⟩ = false) ∧ g < w.heap.size :=
  ⟨⟨cell_of_row w g 0 _ t _ h, cell_of_row w g 1 _ t _ h, cell_of_row w g 2 _ t _ h⟩, ⟨frozen_of_row w g 0 _ t h, frozen_of_row w g 1 _ t h, frozen_of_row w g 2 _ t h⟩, lt_of_heap h⟩

theorem heap_set3 {w : World} {g : Nat} {x y z a b c : Value} {t : TypeId} (h : w.heap[g]? = some (.cells #[x, y, z] t)) :
    (((w.setCell ⟨g, 0, none⟩ a).setCell ⟨g, 1, none⟩ b).setCell ⟨g, 2, none⟩ c).heap[g]? = some (.cells #[a, b, c] t) := by
  simp [World.setCell, Array.getElem?_modify, h]

theorem RepP.one {w : World} {a b c : Int} {g : Nat} (hg : g = w.heap.size) : RepP (w.alloc (.cells #[.int .i64 a, .int .i64 b, .int .i64 c] 53)) (fun k => k = g) [(a, b, c)] (.slice (some ⟨g, 0, none⟩) 1 1) := by
  subst hg
  refine .inr ⟨w.heap.size, 0, 1, rfl, rfl, by simp, by omega, fun i hi => ?_⟩
  obtain rfl : i = 0 := by simpa using hi
  have h0 := fun j => cell_of_row _ w.heap.size j _ _ _ (heap_alloc_new w (.cells #[.int .i64 a, .int .i64 b, .int .i64 c] 53))
  exact ⟨h0 0, h0 1, h0 2⟩

/-- A row of peers of the call's own since w. -/
def OwnP (w : World) (l : List Pr) (v : Value) (wr : World) : Prop := Below w.heap.size w wr ∧ PR w.heap.size l v wr

def OnlyRefPost (w : World) (f : Int → Option (Int × Int)) (N : Nat) (e : Ending) (w' : World) : Prop := ∃ v out, e = .returned v ∧ OwnP w out v w' ∧ Rel out f ∧ out.length ≤ N

set_option maxRecDepth 20000 in
set_option maxHeartbeats 6400000 in
theorem RefOnly_any (l : List Pr) (f : Int → Option (Int × Int)) (last : Int) (ids : List Int) (F G : Nat → Prop) (lv iv : Value) (w : World) (hr : Rel l f) (hlv : RepP w G l lv) (hG : ∀ k, G k → k < w.heap.size) (hll : l.length ≤ 1000000) (hla : last ≤ 1099511627776) (hiv : RepI w F ids iv) (hF : ∀ k, F k → k < w.heap.size) (hil : ids.length ≤ 1000000) :
    Calls Try.prog 18 #[lv, .int .i64 last, iv] w (OnlyRefPost w (onlyP f last ids) ids.length) := by
  obtain ⟨la, lc, rfl, hlc1, hlc2⟩ := hlv.slice
  obtain ⟨ia, ic, rfl, -⟩ := hiv.slice
  obtain ⟨q, hq⟩ : ∃ q, q = l.length := ⟨_, rfl⟩
  obtain ⟨n, hn⟩ : ∃ n, n = ids.length := ⟨_, rfl⟩
  rw [← hq] at hlv hll hlc1 ⊢
  rw [← hn] at hiv hil ⊢
  have HR := Lib.hid hr
  have HLV := Lib.hid hlv
  have HG := Lib.hid hG
  have HIV := Lib.hid hiv
  have HF := Lib.hid hF
  have HQ := Lib.hid hq
  have HN := Lib.hid hn
  obtain ⟨lm, hlm⟩ : ∃ lm, lm = max last 0 := ⟨_, rfl⟩
  have HLM := Lib.hid hlm
  have hlmb : 0 ≤ lm ∧ lm ≤ 1099511627776 := by omega
  clear hr hlv hG hiv hF hq hn hlm
  go_enter Try.func18, Try.ntmps18
  go_upto_if 14 with fail
  go_cut [1, 14] from 15 to 15 (fun x _ w' => x = .int .i64 lm ∧ Hid (w' = w))
  case first =>
    by_cases h0 : last < 0
    · have q0 : decide (last < 0) = true := decide_eq_true h0
      have HL0 : Hid ((0 : Int) = lm) := Lib.hid (by rw [HLM.out]; omega)
      go_wp2_with fail
      go_meet
      case rel => exact ⟨by rw [HL0.out], Lib.hid rfl⟩
    · have q0 : decide (last < 0) = false := decide_eq_false h0
      have HL0 : Hid (last = lm) := Lib.hid (by rw [HLM.out]; omega)
      go_wp2_with fail
      go_meet
      case rel => exact ⟨by rw [HL0.out], Lib.hid rfl⟩
  case rest =>
    obtain ⟨rfl, HW⟩ := hcut
    obtain ⟨W, hW⟩ : ∃ W, W = wc := ⟨_, rfl⟩
    have hWw := HW.out
    subst hW
    subst hWw
    go_wp2_with fail
    go_loopg [7, 8] n (fun gk v i wr => ∃ (z : Nat) (out : List Pr), z + gk = n ∧ i = .int .i64 (z : Int) ∧ out.length ≤ z ∧ Hid (OwnP W out v wr ∧ Rel out (onlyP f last (ids.take z))) ∧ Hid (out = [] → v = .slice none 0 0))
    case atStart => exact ⟨0, [], by omega, rfl, by simp, Lib.hid ⟨⟨Below.refl _ _, PR.bare _ _⟩, by
      have e : onlyP f last (ids.take 0) = noP := by funext j; simp [onlyP, noP]
      rw [e]; exact Rel.nil⟩, Lib.hid fun _ => rfl⟩
    case round =>
      obtain ⟨z, out, hz, rfl, hoz, HO, HNV⟩ := hrel
      obtain ⟨oa, oc, hov⟩ := HO.out.1.2.slice
      obtain ⟨on, hon⟩ : ∃ on, on = out.length := ⟨_, rfl⟩
      rw [← hon] at hov hoz
      subst hov
      have HON := Lib.hid hon
      clear hon
      by_cases hlt : z < n
      · have hzz : (z : Int) < (n : Int) := by omega
        have hz2 : z < ids.length := by rw [← HN.out]; exact hlt
        obtain ⟨ib, io, rfl, -, e0, hr1, hr2⟩ := (HIV.out.below HF.out HO.out.1.1).elem' HN.out z hlt
        obtain ⟨id, hid⟩ : ∃ id, id = ids[z] := ⟨_, rfl⟩
        rw [← hid] at e0 hr1 hr2
        have HT : Hid (onlyP f last (ids.take (z + 1)) = updP (onlyP f last (ids.take z)) id ((f id).getD (0, max last 0))) := Lib.hid (by rw [hid]; exact onlyP_take f last hz2)
        have HIDE : Hid (∀ w' : World, Below W.heap.size W w' → w'.cell? ⟨ib, io + z, none⟩ = some (.int .i64 id)) := Lib.hid fun w' hb' => by
          obtain ⟨b2, o2, hbb, -, f0, -, -⟩ := (HIV.out.below HF.out hb').elem' HN.out z hlt
          cases hbb
          rw [hid]
          exact f0
        obtain ⟨gb, hgb⟩ : ∃ gb, gb = wr.heap.size := ⟨_, rfl⟩
        obtain ⟨wo, hwo⟩ : ∃ wo, wo = wr.alloc (.cells #[.int .i64 id, .int .i64 0, .int .i64 (lm + 1)] 53) := ⟨_, rfl⟩
        have hbo : Below wr.heap.size wr wo := by rw [hwo]; exact below_alloc _ _
        have HBO : Hid (wo.heap[gb]? = some (.cells #[.int .i64 id, .int .i64 0, .int .i64 (lm + 1)] 53)) := Lib.hid (by rw [hwo]; exact heap_new _ _ _ hgb)
        have HOW : Hid (OwnP W out (.slice oa on oc) wo) := Lib.hid ⟨HO.out.1.1.trans (hbo.mono HO.out.1.1.size), HO.out.1.2.next hbo⟩
        have HNB : Hid (W.heap.size ≤ gb ∧ Value.ownBlock (.slice oa on oc) ≠ some gb) := Lib.hid ⟨by rw [hgb]; exact HO.out.1.1.size, fun e => by have := HO.out.1.2.lt gb e; omega⟩
        have HREL := Lib.hid HO.out.2
        have HWO := Lib.hid hwo
        have HGB := Lib.hid hgb
        obtain ⟨gO, hgO⟩ : ∃ gO, gO = gk := ⟨_, rfl⟩
        subst hgO
        clear hid hz2 hgb hwo hbo HO
        go_wp2_with fail
        rw [← HWO.out, ← HGB.out]
        clear e0
        go_loopg [10] q (fun gk j wr => ∃ (t : Nat) (p : Pr), t + gk = q ∧ j = .int .i64 (t : Int) ∧ Hid (Only (fun j => j = gb) wo wr ∧ wr.heap[gb]? = some (.cells #[.int .i64 p.1, .int .i64 p.2.1, .int .i64 p.2.2] 53)) ∧ Hid (p = Go.Proofs.Ytenpbcpdecnhmaa.M.pick l t id (id, 0, max last 0 + 1)))
        case atStart => exact ⟨0, (id, 0, lm + 1), by omega, rfl, Lib.hid ⟨Only.refl _ _, HBO.out⟩, Lib.hid (by rw [pick_zero, HLM.out])⟩
        case round =>
          obtain ⟨t, p, ht, rfl, HOB, HP⟩ := hrel
          have HBW : Hid (Below W.heap.size W wr) := Lib.hid (below_only HOW.out.1 HOB.out.1 fun k hk => by rw [hk]; exact HNB.out.1)
          by_cases hlt2 : t < q
          · have htt : (t : Int) < (q : Int) := by omega
            have ht2 : t < l.length := by rw [← HQ.out]; exact hlt2
            obtain ⟨lb, lo, rfl, hlb, f0, f1, f2⟩ := (HLV.out.below HG.out HBW.out).elem t ht2
            have e0 := HIDE.out wr HBW.out
            obtain ⟨pp, hpp⟩ : ∃ pp, pp = l[t] := ⟨_, rfl⟩
            obtain ⟨pa, pb, pc⟩ := pp
            rw [← hpp] at f0 f1 f2
            simp only at f0 f1 f2
            have HPS : Hid (Go.Proofs.Ytenpbcpdecnhmaa.M.pick l (t + 1) id (id, 0, max last 0 + 1) = if pa = id then (pa, pb, pc) else p) := Lib.hid (by rw [pick_step ht2, ← hpp, ← HP.out])
            by_cases he : pa = id
            · have q1 : (pa == id) = true := by simp [he]
              have HPN : Hid ((pa, pb, pc) = Go.Proofs.Ytenpbcpdecnhmaa.M.pick l (t + 1) id (id, 0, max last 0 + 1)) := Lib.hid (by rw [HPS.out, if_pos he])
              have hlbw : lb < wr.heap.size := Nat.lt_of_lt_of_le (HG.out lb hlb) HBW.out.size
              have HKEEP : Hid (∀ w' : World, Below wr.heap.size wr w' → w'.cell? ⟨lb, lo + t * 3, none⟩ = some (.int .i64 pa) ∧ w'.cell? ⟨lb, lo + t * 3 + 1, none⟩ = some (.int .i64 pb) ∧ w'.cell? ⟨lb, lo + t * 3 + 2, none⟩ = some (.int .i64 pc) ∧ w'.heap[gb]? = some (.cells #[.int .i64 p.1, .int .i64 p.2.1, .int .i64 p.2.2] 53)) := Lib.hid fun w' hb' =>
                ⟨(hb'.cell (p := ⟨lb, lo + t * 3, none⟩) hlbw).trans f0, (hb'.cell (p := ⟨lb, lo + t * 3 + 1, none⟩) hlbw).trans f1, (hb'.cell (p := ⟨lb, lo + t * 3 + 2, none⟩) hlbw).trans f2, old_below HOB.out.2 hb'⟩
              clear he hpp
              go_wp2_with fail
              go_quiet (fail)
              obtain ⟨w7, hw7⟩ : ∃ w7, w7 = wr.drewN nq := ⟨_, rfl⟩
              have hb7 : Below wr.heap.size wr w7 := by rw [hw7]; exact below_drewN _ _
              rw [← hw7]
              obtain ⟨g0, g1, g2, gx⟩ := HKEEP.out w7 hb7
              have HO7 : Hid (Only (fun j => j = gb) wo w7) := Lib.hid (HOB.out.1.then (Only.of_below hb7))
              have HGX := Lib.hid gx
              obtain ⟨⟨y0, y1, y2⟩, ⟨z0, z1, z2⟩, gz⟩ := trk3 gx
              have hlbz : lb < w7.heap.size := Nat.lt_of_lt_of_le hlbw hb7.size
              have hlne : lb ≠ gb := fun e => by have := HG.out lb hlb; have := HNB.out.1; omega
              clear hw7 hb7 f0 f1 f2 e0 gx hlbw
              go_wp2_with fail
              go_roundg (gk - 1)
              case measure => omega
              case rel => exact ⟨t + 1, (pa, pb, pc), by omega, by go_num, Lib.hid ⟨((HO7.out.set (.inl rfl) _).set (.inl rfl) _).set (.inl rfl) _, heap_set3 HGX.out⟩, HPN⟩
            · have q1 : (pa == id) = false := by simpa using he
              have HPN : Hid (p = Go.Proofs.Ytenpbcpdecnhmaa.M.pick l (t + 1) id (id, 0, max last 0 + 1)) := Lib.hid (by rw [HPS.out, if_neg he])
              clear he hpp
              go_wp2_with fail
              go_quiet (fail)
              obtain ⟨w7, hw7⟩ : ∃ w7, w7 = wr.drewN nq := ⟨_, rfl⟩
              have hb7 : Below wr.heap.size wr w7 := by rw [hw7]; exact below_drewN _ _
              rw [← hw7]
              have HO7 : Hid (Only (fun j => j = gb) wo w7 ∧ w7.heap[gb]? = some (.cells #[.int .i64 p.1, .int .i64 p.2.1, .int .i64 p.2.2] 53)) := Lib.hid ⟨HOB.out.1.then (Only.of_below hb7), old_below HOB.out.2 hb7⟩
              clear hw7 hb7 f0 f1 f2 e0
              go_wp2_with fail
              go_roundg (gk - 1)
              case measure => omega
              case rel => exact ⟨t + 1, p, by omega, by go_num, HO7, HPN⟩
          · obtain rfl : t = q := by omega
            have htt : ¬ ((t : Nat) : Int) < (t : Int) := by omega
            have HPC : Hid (p = chosen f last id) := Lib.hid (by have := HP.out; rw [HQ.out, pick_is HR.out] at this; exact this)
            have HOW2 : Hid (OwnP W out (.slice oa on oc) wr) := Lib.hid ⟨HBW.out, HOW.out.2.same fun k hk => HOB.out.1.block k (HOW.out.2.lt k hk).2 fun e => HNB.out.2 (by rw [hk, e])⟩
            have HBX2 := Lib.hid HOB.out.2
            clear HP HOB
            go_wp2_with fail
            obtain ⟨cm, hcm⟩ : ∃ cm, cm = ((f id).getD (0, max last 0)).1 := ⟨_, rfl⟩
            obtain ⟨cn, hcn⟩ : ∃ cn, cn = ((f id).getD (0, max last 0)).2 + 1 := ⟨_, rfl⟩
            have HBX3 : Hid (wr.heap[gb]? = some (.cells #[.int .i64 id, .int .i64 cm, .int .i64 cn] 53)) := Lib.hid (by have := HBX2.out; rw [HPC.out] at this; rw [hcm, hcn]; exact this)
            have HCC : Hid ((f id).getD (0, max last 0) = (cm, cn - 1)) := Lib.hid (by rw [hcm, hcn]; simp)
            obtain ⟨w8, hw8⟩ : ∃ w8, w8 = wr := ⟨_, rfl⟩
            subst hw8
            clear hcm hcn HPC HBX2
            go_loopg [11] on (fun gk j wr => ∃ t : Nat, t + gk = on ∧ j = .int .i64 (t : Int) ∧ Hid (Below w8.heap.size w8 wr) ∧ Hid (Leads out id t))
            case atStart => exact ⟨0, by omega, rfl, Lib.hid (Below.refl _ _), Lib.hid ⟨Nat.zero_le _, fun j _ h => by omega⟩⟩
            case round =>
              obtain ⟨t, ht, rfl, HB8, HLD⟩ := hrel
              have HOX : Hid (∀ w', Below wr.heap.size wr w' → OwnP W out (.slice oa on oc) w' ∧ w'.heap[gb]? = some (.cells #[.int .i64 id, .int .i64 cm, .int .i64 cn] 53)) := Lib.hid fun w' hb' => by
                have hb := HB8.out.trans (hb'.mono HB8.out.size)
                exact ⟨⟨HOW2.out.1.trans (hb.mono HOW2.out.1.size), HOW2.out.2.next hb⟩, old_below HBX3.out hb⟩
              obtain ⟨⟨b0, b1, b2⟩, -, bz⟩ := trk3 (HOX.out wr (Below.refl _ _)).2
              by_cases hlt3 : t < on
              · have htt3 : (t : Int) < (on : Int) := by omega
                have ht3 : t < out.length := by rw [← HON.out]; exact hlt3
                obtain ⟨ob, oo, rfl, -, f0, -, -⟩ := (HOX.out wr (Below.refl _ _)).1.2.rep.elem t ht3
                obtain ⟨x, hx⟩ : ∃ x, x = out[t].1 := ⟨_, rfl⟩
                rw [← hx] at f0
                by_cases hxi : x < id
                · have q5 : decide (x < id) = true := decide_eq_true hxi
                  have HLD2 : Hid (Leads out id (t + 1)) := Lib.hid ⟨by omega, fun j hj hjt => by
                    rcases Nat.lt_or_ge j t with h | h
                    · exact HLD.out.2 j hj h
                    · obtain rfl : j = t := by omega
                      rw [← hx]; exact hxi⟩
                  clear hx hxi
                  go_wp2_with fail
                  go_quiet (fail)
                  obtain ⟨w9, hw9⟩ : ∃ w9, w9 = wr.drewN nq := ⟨_, rfl⟩
                  have HB9 : Hid (Below w8.heap.size w8 w9) := Lib.hid (by rw [hw9]; exact HB8.out.trans (below_dr _ _ _))
                  rw [← hw9]
                  clear hw9 f0 b0 b1 b2 bz
                  go_wp2_with fail
                  go_roundg (gk - 1)
                  case measure => omega
                  case rel => exact ⟨t + 1, by omega, by go_num, HB9, HLD2⟩
                · have q5 : decide (x < id) = false := decide_eq_false hxi
                  have HST : Hid (∀ hk : t < out.length, ¬ out[t].1 < id) := Lib.hid fun _ => by rw [← hx]; exact hxi
                  have HXE := Lib.hid hx
                  clear hx hxi
                  go_wp2_with fail
                  go_quiet (fail)
                  obtain ⟨w9, hw9⟩ : ∃ w9, w9 = wr.drewN nq := ⟨_, rfl⟩
                  have hb9 : Below wr.heap.size wr w9 := by rw [hw9]; exact below_drewN _ _
                  rw [← hw9]
                  obtain ⟨ho9, hx9⟩ := HOX.out w9 hb9
                  clear hw9 f0 b0 b1 b2 bz
                  obtain ⟨⟨b0, b1, b2⟩, -, bz⟩ := trk3 hx9
                  obtain ⟨ob2, oo2, hbb, -, f0, -, -⟩ := ho9.2.rep.elem t ht3
                  cases hbb
                  rw [← HXE.out] at f0
                  have HO9 := Lib.hid ho9
                  have HX9 := Lib.hid hx9
                  clear ho9 hx9 hb9
                  by_cases hxe : x = id
                  · have q6 : (x == id) = true := by simp [hxe]
                    have HRL : Hid (Rel out (onlyP f last (ids.take (z + 1)))) := Lib.hid (by
                      rw [HT.out, HCC.out]
                      refine HREL.out.there ht3 (by rw [← HXE.out]; exact hxe) fun m nx hm => ?_
                      have h1 := (HREL.out.mem id m nx).1 hm
                      unfold onlyP at h1
                      split at h1
                      · have h2 := Option.some.inj h1
                        rw [← h2, HCC.out]
                      · cases h1)
                    clear hxe
                    go_wp2_with fail
                    go_quiet (fail)
                    obtain ⟨w10, hw10⟩ : ∃ w10, w10 = w9.drewN nq := ⟨_, rfl⟩
                    have HO10 : Hid (OwnP W out (.slice (some ⟨ob, oo, none⟩) on oc) w10) := Lib.hid (by rw [hw10]; exact ⟨HO9.out.1.trans ((below_drewN _ _).mono HO9.out.1.size), HO9.out.2.next (below_drewN _ _)⟩)
                    rw [← hw10]
                    clear hw10 f0 b0 b1 b2 bz
                    go_wp2_with fail
                    go_roundg (gO - 1)
                    case measure => omega
                    case rel => exact ⟨z + 1, out, by omega, by go_num, by rw [← HON.out]; omega, Lib.hid ⟨HO10.out, HRL.out⟩, HNV⟩
                  · have q6 : (x == id) = false := by simpa using hxe
                    have HNE : Hid (∀ hk : t < out.length, out[t].1 ≠ id) := Lib.hid fun _ => by rw [← HXE.out]; exact hxe
                    clear hxe
                    go_wp2_with fail
                    go_quiet (fail)
                    obtain ⟨w10, hw10⟩ : ∃ w10, w10 = w9.drewN nq := ⟨_, rfl⟩
                    have hb10 : Below w9.heap.size w9 w10 := by rw [hw10]; exact below_drewN _ _
                    have HO10 : Hid (OwnP W out (.slice (some ⟨ob, oo, none⟩) on oc) w10 ∧ w10.heap[gb]? = some (.cells #[.int .i64 id, .int .i64 cm, .int .i64 cn] 53)) := Lib.hid ⟨⟨HO9.out.1.trans (hb10.mono HO9.out.1.size), HO9.out.2.next hb10⟩, old_below HX9.out hb10⟩
                    rw [← hw10]
                    clear hw10 hb10 f0 b0 b1 b2 bz
                    obtain ⟨ho10, hx10⟩ := HO10.out
                    obtain ⟨⟨b0, b1, b2⟩, -, bz⟩ := trk3 hx10
                    have HX10 := Lib.hid hx10
                    have HOL : Hid (out.length ≤ 1000000) := Lib.hid (by have := HON.out; omega)
                    have HTO : Hid (t ≤ out.length) := Lib.hid HLD.out.1
                    rcases ho10.2.cells with ⟨hnil, hbare⟩ | ⟨og, oca, ocur, hov, hog, hoglt, -, hcap1, hcap2⟩
                    · cases hbare
                    · obtain ⟨ha, hlen, hcc⟩ := Value.slice.inj hov
                      obtain ⟨hob, hoo⟩ : og = ob ∧ oo = 0 := by
                        have := Option.some.inj ha
                        simp only [Addr.mk.injEq] at this
                        exact ⟨this.1.symm, this.2.1⟩
                      subst hcc
                      subst hob
                      subst hoo
                      clear hov ha
                      have hct : ¬ oc = t := by omega
                      have htc : t ≤ oc := by have := HTO.out; omega
                      have HTAKE : Hid (RepP w10 (fun b => b < w10.heap.size) (out.take t) (.slice (some ⟨og, 0, none⟩) t oc)) := Lib.hid ((ho10.2.rep.takeP hlen (by have := HTO.out; omega)).same (fun _ hk => hk.2) fun _ _ => rfl)
                      have htci : (t : Int) ≤ (oc : Int) := by omega
                      have HHO := Lib.hid ho10.2
                      have HLE := Lib.hid hlen
                      have HDROP : Hid (∀ w', Below w10.heap.size w10 w' → RepP w' (fun _ => True) (out.drop t) (.slice (some ⟨og, t * 3, none⟩) (on - t) (oc - t))) := Lib.hid fun w' hb' => ((HHO.out.next hb').rep.dropP (k := t) hlen (by omega) (a' := some ⟨og, t * 3, none⟩) (by rw [if_neg hct, Nat.zero_add])).same (fun _ _ => trivial) fun _ _ => rfl
                      clear ho10 hx10 hlen hog hoglt hcap1 hcap2
                      go_wp2_with (at_builtin; refine wpList_own_peer rfl (.tmp 78) (.tmp 81) rfl (w := w10) (L := []) (L2 := out.take t) rfl (Below.refl _ _) (PR.bare _ _) rfl HTAKE.out (by have := HOL.out; rw [List.length_take]; simp; omega) ?_)
                      intro v11 w11 hb11 hp11 _
                      obtain ⟨a11, c11, hv11⟩ := hp11.slice
                      obtain ⟨n11, hn11⟩ : ∃ n11, n11 = (out.take t).length := ⟨_, rfl⟩
                      rw [← hn11] at hv11
                      subst hv11
                      obtain ⟨⟨d0, d1, d2⟩, -, dz⟩ := trk3 (old_below HX10.out hb11)
                      have HB11 := Lib.hid hb11
                      have HP11 := Lib.hid hp11
                      clear hb11 hp11 hn11 b0 b1 b2 bz
                      go_wp2_with (at_builtin; refine wpList_own_peer rfl (.tmp 83) (.tmp 85) rfl (w := w10) (L := out.take t) (L2 := [(id, cm, cn)]) rfl (HB11.out.alloc HB11.out.size _) (HP11.out.next (below_alloc _ _)) rfl (RepP.one rfl) (by have := HOL.out; simp; omega) ?_)
                      intro v12 w12 hb12 hp12 _
                      obtain ⟨a12, c12, hv12⟩ := hp12.slice
                      obtain ⟨n12, hn12⟩ : ∃ n12, n12 = (out.take t ++ [(id, cm, cn)]).length := ⟨_, rfl⟩
                      rw [← hn12] at hv12
                      subst hv12
                      have HB12 := Lib.hid hb12
                      have HP12 := Lib.hid hp12
                      clear hb12 hp12 hn12 d0 d1 d2 dz
                      have HDROP2 := Lib.hid (HDROP.out w12 HB12.out)
                      go_wp2_with (at_builtin; refine wpList_own_peer rfl (.tmp 87) (.tmp 90) rfl (w := w10) (L := out.take t ++ [(id, cm, cn)]) (L2 := out.drop t) rfl HB12.out HP12.out rfl HDROP2.out (by have := HOL.out; simp; omega) ?_)
                      intro v13 w13 hb13 hp13 _
                      have HFIN : Hid (OwnP W (out.take t ++ (id, cm, cn) :: out.drop t) v13 w13 ∧ Rel (out.take t ++ (id, cm, cn) :: out.drop t) (onlyP f last (ids.take (z + 1)))) := Lib.hid ⟨⟨HO10.out.1.1.trans (hb13.mono HO10.out.1.1.size), PR.lower (by simpa using hp13) HO10.out.1.1.size⟩, by
                        rw [HT.out, HCC.out]
                        have := HREL.out.insert HLD.out (fun hk => by have := HST.out hk; omega) (fun hk => by have := HNE.out hk; exact this) (cm, cn - 1)
                        simpa using this⟩
                      have HLEN : Hid ((out.take t ++ (id, cm, cn) :: out.drop t).length ≤ z + 1) := Lib.hid (by have := HON.out; simp; omega)
                      clear hb13 hp13
                      go_wp2_with fail
                      go_roundg (gO - 1)
                      case measure => omega
                      case rel => exact ⟨z + 1, _, by omega, by go_num, HLEN.out, HFIN, Lib.hid fun h => by simp at h⟩
              · obtain rfl : t = on := by omega
                have htt3 : ¬ ((t : Nat) : Int) < (t : Int) := by omega
                have HST : Hid (∀ hk : t < out.length, ¬ out[t].1 < id) := Lib.hid fun hk => by have := HON.out; omega
                have HNE : Hid (∀ hk : t < out.length, out[t].1 ≠ id) := Lib.hid fun hk => by have := HON.out; omega
                go_wp2_with fail
                go_quiet (fail)
                obtain ⟨w9, hw9⟩ : ∃ w9, w9 = wr.drewN nq := ⟨_, rfl⟩
                have hb9 : Below wr.heap.size wr w9 := by rw [hw9]; exact below_drewN _ _
                rw [← hw9]
                obtain ⟨ho9, hx9⟩ := HOX.out w9 hb9
                clear hw9 b0 b1 b2 bz
                obtain ⟨⟨b0, b1, b2⟩, -, bz⟩ := trk3 hx9
                have HO9 := Lib.hid ho9
                have HX9 := Lib.hid hx9
                clear ho9 hx9 hb9
                go_wp2_with fail
                go_quiet (fail)
                obtain ⟨w10, hw10⟩ : ∃ w10, w10 = w9.drewN nq := ⟨_, rfl⟩
                have hb10 : Below w9.heap.size w9 w10 := by rw [hw10]; exact below_drewN _ _
                have HO10 : Hid (OwnP W out (.slice oa t oc) w10 ∧ w10.heap[gb]? = some (.cells #[.int .i64 id, .int .i64 cm, .int .i64 cn] 53)) := Lib.hid ⟨⟨HO9.out.1.trans (hb10.mono HO9.out.1.size), HO9.out.2.next hb10⟩, old_below HX9.out hb10⟩
                rw [← hw10]
                clear hw10 hb10 b0 b1 b2 bz
                obtain ⟨ho10, hx10⟩ := HO10.out
                obtain ⟨⟨b0, b1, b2⟩, -, bz⟩ := trk3 hx10
                have HX10 := Lib.hid hx10
                have HOL : Hid (out.length ≤ 1000000) := Lib.hid (by have := HON.out; omega)
                have HTO : Hid (t ≤ out.length) := Lib.hid HLD.out.1
                rcases ho10.2.cells with ⟨hnil, hbare⟩ | ⟨og, oca, ocur, hov, hog, hoglt, -, hcap1, hcap2⟩
                · cases hbare
                  have HTAKE : Hid (RepP w10 (fun b => b < w10.heap.size) [] (.slice none 0 0)) := Lib.hid (.inl ⟨rfl, Bare.nil⟩)
                  have HDROP : Hid (∀ w', Below w10.heap.size w10 w' → RepP w' (fun b => b < w10.heap.size) (out.drop 0) (.slice none 0 0)) := Lib.hid fun w' _ => .inl ⟨by rw [hnil]; rfl, Bare.nil⟩
                  clear ho10 hx10 hnil
                  go_wp2_with (at_builtin; refine wpList_own_peer rfl (.tmp 78) (.tmp 81) rfl (w := w10) (L := []) (L2 := []) rfl (Below.refl _ _) (PR.bare _ _) rfl HTAKE.out (by simp) ?_)
                  intro v11 w11 hb11 hp11 _
                  obtain ⟨a11, c11, hv11⟩ := hp11.slice
                  obtain ⟨n11, hn11⟩ : ∃ n11, n11 = ([] : List Pr).length := ⟨_, rfl⟩
                  rw [← hn11] at hv11
                  subst hv11
                  obtain ⟨⟨d0, d1, d2⟩, -, dz⟩ := trk3 (old_below HX10.out hb11)
                  have HB11 := Lib.hid hb11
                  have HP11 := Lib.hid hp11
                  clear hb11 hp11 hn11 b0 b1 b2 bz
                  go_wp2_with (at_builtin; refine wpList_own_peer rfl (.tmp 83) (.tmp 85) rfl (w := w10) (L := []) (L2 := [(id, cm, cn)]) rfl (HB11.out.alloc HB11.out.size _) (HP11.out.next (below_alloc _ _)) rfl (RepP.one rfl) (by simp) ?_)
                  intro v12 w12 hb12 hp12 _
                  obtain ⟨a12, c12, hv12⟩ := hp12.slice
                  obtain ⟨n12, hn12⟩ : ∃ n12, n12 = [(id, cm, cn)].length := ⟨_, rfl⟩
                  rw [← hn12] at hv12
                  subst hv12
                  have HB12 := Lib.hid hb12
                  have HP12 := Lib.hid hp12
                  clear hb12 hp12 hn12 d0 d1 d2 dz
                  have HDROP2 := Lib.hid (HDROP.out w12 HB12.out)
                  go_wp2_with (at_builtin; refine wpList_own_peer rfl (.tmp 87) (.tmp 90) rfl (w := w10) (L := [(id, cm, cn)]) (L2 := out.drop 0) rfl HB12.out HP12.out rfl HDROP2.out (by have := HOL.out; simp <;> omega) ?_)
                  intro v13 w13 hb13 hp13 _
                  have HFIN : Hid (OwnP W ([] ++ (id, cm, cn) :: out.drop 0) v13 w13 ∧ Rel ([] ++ (id, cm, cn) :: out.drop 0) (onlyP f last (ids.take (z + 1)))) := Lib.hid ⟨⟨HO10.out.1.1.trans (hb13.mono HO10.out.1.1.size), PR.lower (by simpa using hp13) HO10.out.1.1.size⟩, by
                    rw [HT.out, HCC.out]
                    have := HREL.out.insert (k := 0) HLD.out (fun hk => by have := HST.out hk; omega) (fun hk => by have := HNE.out hk; exact this) (cm, cn - 1)
                    simpa using this⟩
                  have HLEN : Hid (([] ++ (id, cm, cn) :: out.drop 0).length ≤ z + 1) := Lib.hid (by have := HON.out; simp; omega)
                  clear hb13 hp13
                  go_wp2_with fail
                  go_roundg (gO - 1)
                  case measure => omega
                  case rel => exact ⟨z + 1, _, by omega, by go_num, HLEN.out, HFIN, Lib.hid fun h => by simp at h⟩
                · obtain ⟨ha, hlen, hcc⟩ := Value.slice.inj hov
                  subst hcc
                  subst ha
                  clear hov
                  have htc : t ≤ oc := by have := HTO.out; omega
                  have HTAKE : Hid (RepP w10 (fun b => b < w10.heap.size) (out.take t) (.slice (some ⟨og, 0, none⟩) t oc)) := Lib.hid ((ho10.2.rep.takeP hlen (by have := HTO.out; omega)).same (fun _ hk => hk.2) fun _ _ => rfl)
                  have htci : (t : Int) ≤ (oc : Int) := by omega
                  have HHO := Lib.hid ho10.2
                  have HLE := Lib.hid hlen
                  have hdn : out.drop t = [] := by rw [hlen]; exact List.drop_length
                  have HOC0 : Hid (¬ oc = 0) := Lib.hid (by
                    intro h
                    have h1 : out.length = 0 := by omega
                    have := HNV.out (List.length_eq_zero_iff.1 h1)
                    cases this)
                  have hocb : oc ≤ 9223372036854775807 := hcap2
                  by_cases hct : oc = t
                  · have HDROP : Hid (∀ w', Below w10.heap.size w10 w' → RepP w' (fun _ => True) (out.drop t) (.slice (some ⟨og, 0, none⟩) 0 (oc - t))) := Lib.hid fun w' hb' => .inl ⟨hdn, Bare.at (by omega)⟩
                    have hce : (oc = t) = True := eq_true hct
                    clear ho10 hx10 hlen hog hoglt hcap1 hcap2 hdn
                    have h00 : ¬ oc = 0 := HOC0.out
                    clear hct
                    go_wp2_with (at_builtin; refine wpList_own_peer rfl (.tmp 78) (.tmp 81) rfl (w := w10) (L := []) (L2 := out.take t) rfl (Below.refl _ _) (PR.bare _ _) rfl HTAKE.out (by have := HOL.out; rw [List.length_take]; simp; omega) ?_)
                    intro v11 w11 hb11 hp11 _
                    obtain ⟨a11, c11, hv11⟩ := hp11.slice
                    obtain ⟨n11, hn11⟩ : ∃ n11, n11 = (out.take t).length := ⟨_, rfl⟩
                    rw [← hn11] at hv11
                    subst hv11
                    obtain ⟨⟨d0, d1, d2⟩, -, dz⟩ := trk3 (old_below HX10.out hb11)
                    have HB11 := Lib.hid hb11
                    have HP11 := Lib.hid hp11
                    clear hb11 hp11 hn11 b0 b1 b2 bz
                    go_wp2_with (at_builtin; refine wpList_own_peer rfl (.tmp 83) (.tmp 85) rfl (w := w10) (L := out.take t) (L2 := [(id, cm, cn)]) rfl (HB11.out.alloc HB11.out.size _) (HP11.out.next (below_alloc _ _)) rfl (RepP.one rfl) (by have := HOL.out; simp; omega) ?_)
                    intro v12 w12 hb12 hp12 _
                    obtain ⟨a12, c12, hv12⟩ := hp12.slice
                    obtain ⟨n12, hn12⟩ : ∃ n12, n12 = (out.take t ++ [(id, cm, cn)]).length := ⟨_, rfl⟩
                    rw [← hn12] at hv12
                    subst hv12
                    have HB12 := Lib.hid hb12
                    have HP12 := Lib.hid hp12
                    clear hb12 hp12 hn12 d0 d1 d2 dz
                    have HDROP2 := Lib.hid (HDROP.out w12 HB12.out)
                    go_wp2_with (at_builtin; refine wpList_own_peer rfl (.tmp 87) (.tmp 90) rfl (w := w10) (L := out.take t ++ [(id, cm, cn)]) (L2 := out.drop t) rfl HB12.out HP12.out rfl HDROP2.out (by have := HOL.out; simp; omega) ?_)
                    intro v13 w13 hb13 hp13 _
                    have HFIN : Hid (OwnP W (out.take t ++ (id, cm, cn) :: out.drop t) v13 w13 ∧ Rel (out.take t ++ (id, cm, cn) :: out.drop t) (onlyP f last (ids.take (z + 1)))) := Lib.hid ⟨⟨HO10.out.1.1.trans (hb13.mono HO10.out.1.1.size), PR.lower (by simpa using hp13) HO10.out.1.1.size⟩, by
                      rw [HT.out, HCC.out]
                      have := HREL.out.insert HLD.out (fun hk => by have := HST.out hk; omega) (fun hk => by have := HNE.out hk; exact this) (cm, cn - 1)
                      simpa using this⟩
                    have HLEN : Hid ((out.take t ++ (id, cm, cn) :: out.drop t).length ≤ z + 1) := Lib.hid (by have := HON.out; simp; omega)
                    clear hb13 hp13
                    go_wp2_with fail
                    go_roundg (gO - 1)
                    case measure => omega
                    case rel => exact ⟨z + 1, _, by omega, by go_num, HLEN.out, HFIN, Lib.hid fun h => by simp at h⟩
                  · have HDROP : Hid (∀ w', Below w10.heap.size w10 w' → RepP w' (fun _ => True) (out.drop t) (.slice (some ⟨og, t * 3, none⟩) 0 (oc - t))) := Lib.hid fun w' hb' => .inl ⟨hdn, Bare.at (by omega)⟩
                    clear ho10 hx10 hlen hog hoglt hcap1 hcap2 hdn
                    go_wp2_with (at_builtin; refine wpList_own_peer rfl (.tmp 78) (.tmp 81) rfl (w := w10) (L := []) (L2 := out.take t) rfl (Below.refl _ _) (PR.bare _ _) rfl HTAKE.out (by have := HOL.out; rw [List.length_take]; simp; omega) ?_)
                    intro v11 w11 hb11 hp11 _
                    obtain ⟨a11, c11, hv11⟩ := hp11.slice
                    obtain ⟨n11, hn11⟩ : ∃ n11, n11 = (out.take t).length := ⟨_, rfl⟩
                    rw [← hn11] at hv11
                    subst hv11
                    obtain ⟨⟨d0, d1, d2⟩, -, dz⟩ := trk3 (old_below HX10.out hb11)
                    have HB11 := Lib.hid hb11
                    have HP11 := Lib.hid hp11
                    clear hb11 hp11 hn11 b0 b1 b2 bz
                    go_wp2_with (at_builtin; refine wpList_own_peer rfl (.tmp 83) (.tmp 85) rfl (w := w10) (L := out.take t) (L2 := [(id, cm, cn)]) rfl (HB11.out.alloc HB11.out.size _) (HP11.out.next (below_alloc _ _)) rfl (RepP.one rfl) (by have := HOL.out; simp; omega) ?_)
                    intro v12 w12 hb12 hp12 _
                    obtain ⟨a12, c12, hv12⟩ := hp12.slice
                    obtain ⟨n12, hn12⟩ : ∃ n12, n12 = (out.take t ++ [(id, cm, cn)]).length := ⟨_, rfl⟩
                    rw [← hn12] at hv12
                    subst hv12
                    have HB12 := Lib.hid hb12
                    have HP12 := Lib.hid hp12
                    clear hb12 hp12 hn12 d0 d1 d2 dz
                    have HDROP2 := Lib.hid (HDROP.out w12 HB12.out)
                    go_wp2_with (at_builtin; refine wpList_own_peer rfl (.tmp 87) (.tmp 90) rfl (w := w10) (L := out.take t ++ [(id, cm, cn)]) (L2 := out.drop t) rfl HB12.out HP12.out rfl HDROP2.out (by have := HOL.out; simp; omega) ?_)
                    intro v13 w13 hb13 hp13 _
                    have HFIN : Hid (OwnP W (out.take t ++ (id, cm, cn) :: out.drop t) v13 w13 ∧ Rel (out.take t ++ (id, cm, cn) :: out.drop t) (onlyP f last (ids.take (z + 1)))) := Lib.hid ⟨⟨HO10.out.1.1.trans (hb13.mono HO10.out.1.1.size), PR.lower (by simpa using hp13) HO10.out.1.1.size⟩, by
                      rw [HT.out, HCC.out]
                      have := HREL.out.insert HLD.out (fun hk => by have := HST.out hk; omega) (fun hk => by have := HNE.out hk; exact this) (cm, cn - 1)
                      simpa using this⟩
                    have HLEN : Hid ((out.take t ++ (id, cm, cn) :: out.drop t).length ≤ z + 1) := Lib.hid (by have := HON.out; simp; omega)
                    clear hb13 hp13
                    go_wp2_with fail
                    go_roundg (gO - 1)
                    case measure => omega
                    case rel => exact ⟨z + 1, _, by omega, by go_num, HLEN.out, HFIN, Lib.hid fun h => by simp at h⟩
      · obtain rfl : z = n := by omega
        have hzz : ¬ ((z : Nat) : Int) < (z : Int) := by omega
        have HD : Hid (OnlyRefPost W (onlyP f last ids) z (.returned (.slice oa on oc)) wr) := Lib.hid ⟨_, out, rfl, HO.out.1, by have := HO.out.2; rw [HN.out, List.take_length] at this; exact this, by rw [← HON.out]; exact hoz⟩
        clear HO
        go_wp2_with fail
        go_ret
        exact HD.out
end Go.Proofs.Ytenpbcpdecnhmaa.M
