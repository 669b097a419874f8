/- Rows of ints of a call's own, and what turns them (stage 9's seat; as in stage 8's texts MmB .. MmU). Maps keyed by ints: of ints, and of pairs of ints. -/
import Derived.Test.YtenpbcpdecnhmaaTA3
import Derived.Test.YtenpbcpdecnhmaaTA4
import Derived.Test.YtenpbcpdecnhmaaTA5
import Derived.Laws.ResultCell
import Derived.Maps.OwnOps
import Derived.Maps.OwnSet
/- Part: TaLib. -/
namespace Go.Proofs.Ytenpbcpdecnhmaa.M
open Go.RowKit

theorem block2' {w : World} {g : Nat} {x y : Value} {t : TypeId} (h : w.heap[g]? = some (.cells #[x, y] t)) :
    w.cell? ⟨g, 0, none⟩ = some x ∧ w.cell? ⟨g, 1, none⟩ = some y ∧ w.frozen? ⟨g, 0, none⟩ = false ∧ w.frozen? ⟨g, 1, none⟩ = false ∧ g < w.heap.size :=
  ⟨cell_of_row w g 0 _ t _ h, cell_of_row w g 1 _ t _ h, frozen_of_row w g 0 _ t h, frozen_of_row w g 1 _ t h, lt_of_heap h⟩

theorem heap_set22 {w : World} {g : Nat} {x y a b : Value} {t : TypeId} (h : w.heap[g]? = some (.cells #[x, y] t)) :
    ((w.setCell ⟨g, 0, none⟩ a).setCell ⟨g, 1, none⟩ b).heap[g]? = some (.cells #[a, b] t) := by
  simp [World.setCell, Array.getElem?_modify, h]

theorem one_map (l : List Int) : ∀ u ∈ l.map intV, u.oneCell' = true := by
  intro u hu
  obtain ⟨z, -, rfl⟩ := List.mem_map.1 hu
  rfl

theorem RepI.below {w w' : World} {F : Nat → Prop} {l : List Int} {v : Value} (h : RepI w F l v) (hF : ∀ k, F k → k < w.heap.size) (hb : Below w.heap.size w w') : RepI w' F l v := h.same (fun _ h => h) fun k hk => hb.block k (hF k hk)

/-- What is left behind a call that turned a row of the call's own. -/
def Turned (base : Nat) (l : List Int) (v v' : Value) (w w' : World) : Prop :=
  IR base l v' w' ∧ w.grownBy w' v.ownBlock ∧ (v'.ownBlock = v.ownBlock ∨ ∃ g, v'.ownBlock = some g ∧ w.heap.size ≤ g)

theorem Turned.after {base : Nat} {l : List Int} {v v' : Value} {w w1 w' : World} (hb : Below w.heap.size w w1) (h : Turned base l v v' w1 w') : Turned base l v v' w w' :=
  ⟨h.1, gb_trans (gb_other _ (grown_of_below hb)) h.2.1, by
    rcases h.2.2 with h | ⟨g, h, hg⟩
    · exact .inl h
    · exact .inr ⟨g, h, Nat.le_trans hb.size hg⟩⟩

theorem Turned.below {base : Nat} {v : Value} {w w' : World} {L0 L : List Int} {v' : Value} (h : Turned base L v v' w w') (h0 : IR base L0 v w) (hb : base ≤ w.heap.size) : Below base w w' :=
  ⟨h.2.1.os, h.2.1.tape, h.2.1.output, h.2.1.size, fun k hk => h.2.1.block k (by omega) fun e => by have := (h0.block_lt e.symm).1; omega⟩

theorem below_drewN (w : World) (q : Nat) : Below w.heap.size w (w.drewN q) := ⟨rfl, rfl, rfl, Nat.le_refl _, fun _ _ => rfl⟩

theorem RepI.yields {w : World} {F : Nat → Prop} {l : List Int} {v : Value} (h : RepI w F l v) : Yields w v l.length 1 (l.map intV) := by
  refine ⟨by simp, one_map l, ?_⟩
  rcases h with ⟨rfl, a, c, rfl, _, ha⟩ | ⟨b, off, c, rfl, _, h1, h2, hc⟩
  · cases a with
    | none => rw [ha rfl]; exact .inl ⟨rfl, rfl⟩
    | some a => exact .inr ⟨a, c, rfl, fun j u hj => by simp at hj⟩
  · refine .inr ⟨_, c, rfl, fun j u hj => ?_⟩
    rw [List.getElem?_map] at hj
    have hj2 : j < l.length := by
      rcases Nat.lt_or_ge j l.length with h3 | h3
      · exact h3
      · rw [List.getElem?_eq_none h3] at hj; simp at hj
    rw [List.getElem?_eq_getElem hj2] at hj
    have := (hc j hj2).1
    simp at hj
    rw [← hj, intV, ← this]
    cases j <;> simp [Addr.add]

/-- An append to a row of ints of the call's own. -/
theorem wpList_ir_append {w : World} {ops : Array Oper} {rest : List Oper} {o : Oper} {a : Act} {Q : Exit → Act → World → Prop} (hgd : o.guard = none) (s y : Operand)
    (ho : o.op = .call { callee := .builtin .append, args := #[s, y], argTypes := #[22, 22] }) (_hty : o.type = 22)
    {base : Nat} {L L2 : List Int} {v x : Value} {F : Nat → Prop} (hs : a.eval s = v) (hown : IR base L v w) (hbase : base ≤ w.heap.size) (hy : a.eval y = x) (hx : RepI w F L2 x) (hl : L.length + L2.length ≤ 17592186044416)
    (h : ∀ v' w', Turned base (L ++ L2) v v' w w' → wpList Try.prog ops Q rest (a.put o.dst v') w') : wpList Try.prog ops Q (o :: rest) a w := by
  obtain ⟨ib, hib, hib0, hib1, hib2⟩ := info_parts infoInt
  exact wpList_append_any w hgd s y 22 ho base 3 ib (.int .i64 0) 1 8 Try.underlying22 hib hib0 hib1 hib2 rfl (by decide) v L.length (L.map intV) hs hown.own x hy L2.length (L2.map intV) hx.yields
    (by unfold maxLen; omega) (by omega) hbase fun v' w' ha => h v' w' ⟨⟨by rw [List.map_append, List.length_append]; exact ha.1, fun z hz => by
      rcases List.mem_append.1 hz with hz | hz
      · exact hown.rng z hz
      · exact hx.rng z hz⟩, ha.2.1, by
      rcases ha.2.2 with h | h
      · exact .inl h
      · exact .inr ⟨_, h, Nat.le_refl _⟩⟩

theorem IR.set {base : Nat} {l : List Int} {v u : Value} {w : World} {g j : Nat} (h : IR base l v w) (hn : v.ownBlock ≠ some g) : IR base l v (w.setCell ⟨g, j, none⟩ u) :=
  h.kept (gb_set j u (gb_refl w (some g))) fun e => absurd e hn

theorem ownBlock_nil : Value.ownBlock (.slice none 0 0) = none := rfl

theorem below_of_none {w w' : World} (h : w.grownBy w' none) : Below w.heap.size w w' := ⟨h.os, h.tape, h.output, h.size, fun k hk => h.block k hk (by simp)⟩

theorem heap_set2 {w : World} {g : Nat} {x y z : Value} {t : TypeId} (h : w.heap[g]? = some (.cells #[x, y] t)) :
    (w.setCell ⟨g, 0, none⟩ z).heap[g]? = some (.cells #[z, y] t) ∧ (w.setCell ⟨g, 1, none⟩ z).heap[g]? = some (.cells #[x, z] t) := by
  constructor <;> simp [World.setCell, Array.getElem?_modify, h]

theorem below_drew1 (w : World) : Below w.heap.size w w.drew := ⟨rfl, rfl, rfl, Nat.le_refl _, fun _ _ => rfl⟩

theorem only_drew (X : Nat → Prop) (w : World) : Only X w w.drew := ⟨rfl, rfl, rfl, Nat.le_refl _, fun _ _ _ => rfl⟩

theorem only_of_grown {X : Nat → Prop} {w w' : World} {row : Option Nat} (h : w.grownBy w' row) (hX : ∀ k, row = some k → X k) : Only X w w' :=
  ⟨h.os, h.tape, h.output, h.size, fun k hk hn => h.block k hk fun e => hn (hX k e.symm)⟩

/-- Since w nothing that was there has turned, and v is a row of ints of the call's own. -/
def OwnI (w : World) (l : List Int) (v : Value) (wr : World) : Prop := Below w.heap.size w wr ∧ IR w.heap.size l v wr

theorem OwnI.start (w : World) : OwnI w [] (.slice none 0 0) w := ⟨Below.refl _ _, IR.bare _ _⟩

theorem OwnI.next {w wr w' : World} {l : List Int} {v : Value} (h : OwnI w l v wr) (hb : Below wr.heap.size wr w') : OwnI w l v w' := ⟨h.1.trans (hb.mono h.1.size), h.2.next hb⟩

theorem OwnI.turned {w wr w' : World} {l l' : List Int} {v v' : Value} (h : OwnI w l v wr) (ht : Turned w.heap.size l' v v' wr w') : OwnI w l' v' w' := ⟨h.1.trans (ht.below h.2 h.1.size), ht.1⟩

theorem one_int {w : World} {z : Int} {g : Nat} (hg : g = w.heap.size) (hz : -9223372036854775808 ≤ z ∧ z ≤ 9223372036854775807) : RepI (w.alloc (.cells #[.int .i64 z] 3)) (fun _ => True) [z] (.slice (some ⟨g, 0, none⟩) 1 1) := by
  subst hg
  refine .inr ⟨w.heap.size, 0, 1, rfl, trivial, by simp, by omega, fun i hi => ?_⟩
  obtain rfl : i = 0 := by simpa using hi
  exact ⟨cell_of_row _ _ 0 _ _ _ (heap_alloc_new w _), hz⟩

theorem below_dr (n : Nat) (w : World) (q : Nat) : Below n w (w.drewN q) := ⟨rfl, rfl, rfl, Nat.le_refl _, fun _ _ => rfl⟩

/-- Ints in a new block. -/
theorem RepI.lit {w : World} {l : List Int} {g : Nat} {cs : Array Value} (hg : g = w.heap.size) (hc : cs = (l.map intV).toArray) (hl : l.length ≤ 1000000) (hr : In64 l) {n : Nat} (hn : n = l.length) :
    RepI (w.alloc (.cells cs 3)) (fun b => b < w.heap.size + 1) l (.slice (some ⟨g, 0, none⟩) n n) := by
  subst hg hc hn
  refine .inr ⟨w.heap.size, 0, l.length, rfl, by omega, Nat.le_refl _, by omega, fun i hi => ⟨?_, hr _ (List.getElem_mem hi)⟩⟩
  have := cell_of_row _ w.heap.size (0 + i) _ _ _ (heap_alloc_new w (.cells (l.map intV).toArray 3))
  rw [this]
  simp [hi, intV]

theorem In64.small {l : List Int} (h : ∀ x ∈ l, 0 ≤ x ∧ x ≤ 1000000) : In64 l := fun x hx => by have := h x hx; omega
/-- A slice that lies in one block. -/
theorem RepI.exact {w : World} {F : Nat → Prop} {l : List Int} {g off n c : Nat} (h : RepI w F l (.slice (some ⟨g, off, none⟩) n c)) {g' : Nat} (hg : g = g') : RepI w (fun b => b = g') l (.slice (some ⟨g, off, none⟩) n c) := by
  rcases h with h | ⟨b, o, c', hv, hb, h1, h2, h3⟩
  · exact .inl h
  · cases hv
    exact .inr ⟨_, _, _, rfl, hg, h1, h2, h3⟩
end Go.Proofs.Ytenpbcpdecnhmaa.M

/- Part: TaMap. -/
namespace Go.Proofs.Ytenpbcpdecnhmaa.M
open Go.RowKit Go.Maps

theorem lawInt : Keyed Try.prog 3 := int_keyed Try.underlying3

theorem key_int {q : Int} (h : -9223372036854775808 ≤ q ∧ q ≤ 9223372036854775807) : keyOf Try.prog 3 (.int .i64 q) = some (.int .i64 q) :=
  keyOf_int_mk Try.underlying3 (WalkArith.wf_i64 (by omega))

theorem lit_ne {j k : Int} (h : j ≠ k) : (Lit.int .i64 j) ≠ (Lit.int .i64 k) := fun e => h (Lit.int.inj e).2

theorem zeroInt (w : World) : (zeroValue 3).run Try.prog w = .ok (.int .i64 0) w := by kernel_rfl

noncomputable def rI : Value → Option (DataW Nat × List MemPlace) := plainElem Try.prog 3

theorem ownsMap_same {R : Value → Option (DataW Nat × List MemPlace)} {w w' : World} {gm n : Nat} {M : DataW Nat} (h : w.ownsMap Try.prog 3 R gm n M) (hg : w'.heap[gm]? = w.heap[gm]?) : w'.ownsMap Try.prog 3 R gm n M := by
  obtain ⟨es, clock, hb, F, hs, hD⟩ := h
  exact ⟨es, clock, hg.trans hb, F, hs, hD⟩

/-- Block gm is a map of at most n entries, from ints to ints; what isn't there reads as 0. -/
def IM (w : World) (gm n : Nat) (f : Int → Int) : Prop :=
  ∃ M : DataW Nat, w.ownsMap Try.prog 3 rI gm n M ∧ ∀ k, M.atKey (.int .i64 k) (.lit (.int .i64 0)) = .lit (.int .i64 (f k))

theorem IM.made (w : World) : IM (w.alloc (.map #[] 0)) w.heap.size 0 (fun _ => 0) := ⟨_, World.ownsMap_made _ _ _ _, fun _ => rfl⟩

section
variable {w : World} {gm n : Nat} {f : Int → Int}

theorem IM.lt (h : IM w gm n f) : gm < w.heap.size := by obtain ⟨M, h, _⟩ := h; exact h.lt

theorem IM.same (h : IM w gm n f) {w' : World} (hg : w'.heap[gm]? = w.heap[gm]?) : IM w' gm n f := by
  obtain ⟨M, h, h2⟩ := h
  exact ⟨M, ownsMap_same h hg, h2⟩

theorem IM.next (h : IM w gm n f) {w' : World} (hb : Below w.heap.size w w') : IM w' gm n f := h.same (hb.block gm h.lt)

theorem IM.look (h : IM w gm n f) {q : Int} (hq : -9223372036854775808 ≤ q ∧ q ≤ 9223372036854775807) :
    (Instr.lookup 60 (.map (some gm)) (.int .i64 q) false).run Try.prog w = .ok (.int .i64 (f q)) w := by
  obtain ⟨M, h, h2⟩ := h
  obtain ⟨c, hrun, hat, -⟩ := h.lookup_int lawInt Try.underlying60 Try.underlying3 (zeroInt w) (key_int hq)
  rw [h2] at hat
  have e : f q = c := by simpa using hat
  rw [hrun, e]

/-- A store. -/
theorem IM.store (h : IM w gm n f) (hn : n ≤ 1000000) {q v : Int} (hq : -9223372036854775808 ≤ q ∧ q ≤ 9223372036854775807) (hv : -9223372036854775808 ≤ v ∧ v ≤ 9223372036854775807) :
    ∃ w', (Instr.mapUpdate 60 (.map (some gm)) (.int .i64 q) (.int .i64 v)).run Try.prog w = .ok () w' ∧ IM w' gm (n + 1) (fun k => if k = q then v else f k) ∧ w.grownBy w' (some gm) ∧ w'.heap.size = w.heap.size := by
  obtain ⟨M, h, h2⟩ := h
  obtain ⟨w', hrun, hown, hturn⟩ := h.store lawInt Try.underlying60 (by unfold maxLen; omega) (key_int hq) (plainElem_int Try.underlying3 (WalkArith.wf_i64 (by omega)))
  refine ⟨w', hrun, ⟨_, hown, fun k => ?_⟩, hturn.grown, ?_⟩
  · by_cases e : k = q
    · subst e
      rw [atKey_put_same (h.tidy lawInt).isMap (show WideAt.IsKeyLit (.int .i64 k) from trivial)]; simp
    · rw [atKey_put_other (lit_ne e), h2]; simp only [if_neg e]
  · obtain ⟨es, c, es', c', _, rfl⟩ := hturn
    simp [Go.ChangeMaps.setBlock]

/-- What delete takes out. -/
theorem IM.drop (h : IM w gm n f) {q : Int} (hq : -9223372036854775808 ≤ q ∧ q ≤ 9223372036854775807) (ty : TypeId) :
    ∃ w', (Builtin.delete_ #[60, 3] ty #[.map (some gm), .int .i64 q]).run Try.prog w = .ok (.tuple #[]) w' ∧ IM w' gm n (fun k => if k = q then 0 else f k) ∧ w.grownBy w' (some gm) ∧ w'.heap.size = w.heap.size := by
  obtain ⟨M, h, h2⟩ := h
  obtain ⟨w', hrun, hown, hturn⟩ := h.drop lawInt Try.underlying60 (key_int hq) ty
  refine ⟨w', hrun, ⟨_, hown, fun k => ?_⟩, hturn.grown, ?_⟩
  · by_cases e : k = q
    · subst e
      rw [atKey_del_same]; simp
    · rw [atKey_del_other (lit_ne e), h2]; simp only [if_neg e]
  · obtain ⟨es, c, es', c', _, rfl⟩ := hturn
    simp [Go.ChangeMaps.setBlock]
end

/-- How far a peer is, as a map's element. -/
def rP (v : Value) : Option (DataW Nat × List MemPlace) :=
  match v with
  | .agg cs => match cs.toList with
    | [x, y] => match x, y with
      | .int k m, .int k' b => if k = .i64 ∧ k' = .i64 then some (.agg [.lit (.int .i64 m), .lit (.int .i64 b)], []) else none
      | _, _ => none
    | _ => none
  | _ => none

theorem rP_inv {v : Value} {z : DataW Nat × List MemPlace} (h : rP v = some z) : ∃ m b, v = .agg #[.int .i64 m, .int .i64 b] ∧ z = (.agg [.lit (.int .i64 m), .lit (.int .i64 b)], []) := by
  unfold rP at h
  split at h
  · rename_i cs
    split at h
    · rename_i x y hl
      split at h
      · rename_i k m k' b
        split at h
        · rename_i hk
          obtain ⟨rfl, rfl⟩ := hk
          cases h
          refine ⟨m, b, ?_, rfl⟩
          congr 1
          exact Array.toList_inj.1 hl
        · cases h
      · cases h
    · cases h
  · cases h

theorem rP_mk (m b : Int) : rP (.agg #[.int .i64 m, .int .i64 b]) = some (.agg [.lit (.int .i64 m), .lit (.int .i64 b)], []) := by
  simp [rP]

def peerV (p : Int × Int) : Value := .agg #[.int .i64 p.1, .int .i64 p.2]
def peerD (p : Int × Int) : DataW Nat := .agg [.lit (.int .i64 p.1), .lit (.int .i64 p.2)]

theorem peerD_inj {p q : Int × Int} (h : peerD p = peerD q) : p = q := by
  obtain ⟨a, b⟩ := p
  obtain ⟨c, d⟩ := q
  simpa [peerD] using h

theorem zeroPeer (w : World) : (zeroValue 71).run Try.prog w = .ok (peerV (0, 0)) w := by kernel_rfl

/-- A map of peers (nil, too): which are there, and how far. -/
def PM (w : World) (mv : Value) (n : Nat) (f : Int → Option (Int × Int)) : Prop :=
  (mv = .map none ∧ ∀ k, f k = none) ∨ ∃ gm, mv = .map (some gm) ∧ ∃ M : DataW Nat, w.ownsMap Try.prog 3 rP gm n M ∧ ∀ k z, M.atKey (.int .i64 k) z = match f k with | some p => peerD p | none => z

/-- .. that isn't nil. -/
def PMat (w : World) (gm n : Nat) (f : Int → Option (Int × Int)) : Prop :=
  ∃ M : DataW Nat, w.ownsMap Try.prog 3 rP gm n M ∧ ∀ k z, M.atKey (.int .i64 k) z = match f k with | some p => peerD p | none => z

theorem PMat.pm {w : World} {gm n : Nat} {f : Int → Option (Int × Int)} (h : PMat w gm n f) : PM w (.map (some gm)) n f := .inr ⟨gm, rfl, h⟩

theorem PMat.made (w : World) : PMat (w.alloc (.map #[] 0)) w.heap.size 0 (fun _ => none) := ⟨_, World.ownsMap_made _ _ _ _, fun _ _ => rfl⟩

theorem PMat.lt {w : World} {gm n : Nat} {f : Int → Option (Int × Int)} (h : PMat w gm n f) : gm < w.heap.size := by obtain ⟨M, h, _⟩ := h; exact h.lt

theorem PMat.same {w w' : World} {gm n : Nat} {f : Int → Option (Int × Int)} (h : PMat w gm n f) (hg : w'.heap[gm]? = w.heap[gm]?) : PMat w' gm n f := by
  obtain ⟨M, h, h2⟩ := h
  exact ⟨M, ownsMap_same h hg, h2⟩

theorem PMat.isMap {w : World} {gm n : Nat} {f : Int → Option (Int × Int)} (h : PMat w gm n f) : ∃ es c, w.heap[gm]? = some (.map es c) := by
  obtain ⟨M, ⟨es, c, hb, _⟩, _⟩ := h
  exact ⟨es, c, hb⟩

theorem PMat.has {M : DataW Nat} {f : Int → Option (Int × Int)} (h : ∀ k z, M.atKey (.int .i64 k) z = match f k with | some p => peerD p | none => z) (q : Int) : Maps.has M (.int .i64 q) = (f q).isSome := by
  cases hf : f q with
  | none => exact has_false_of_atKey fun z => by rw [h, hf]
  | some p => exact has_true_of_atKey (y := peerD p) fun z => by rw [h, hf]

/-- What a look-up answers. -/
def peerOf (f : Int → Option (Int × Int)) (q : Int) : Int × Int := (f q).getD (0, 0)

theorem PMat.look {w : World} {gm n : Nat} {f : Int → Option (Int × Int)} (h : PMat w gm n f) {q : Int} (hq : -9223372036854775808 ≤ q ∧ q ≤ 9223372036854775807) :
    (Instr.lookup 67 (.map (some gm)) (.int .i64 q) false).run Try.prog w = .ok (peerV (peerOf f q)) w ∧
    (Instr.lookup 67 (.map (some gm)) (.int .i64 q) true).run Try.prog w = .ok (.tuple #[peerV (peerOf f q), .bool (f q).isSome]) w := by
  obtain ⟨M, h, h2⟩ := h
  have hv : ∀ v ps, rP v = some (M.atKey (.int .i64 q) (peerD (0, 0)), ps) → v = peerV (peerOf f q) := fun v ps hv => by
    obtain ⟨m, b, rfl, e⟩ := rP_inv hv
    rw [h2] at e
    unfold peerOf
    have e1 := (Prod.mk.inj e).1
    cases hf : f q with
    | none =>
      rw [hf] at e1
      have := peerD_inj (p := (0, 0)) (q := (m, b)) e1
      cases this
      rfl
    | some p =>
      rw [hf] at e1
      have := peerD_inj (p := p) (q := (m, b)) e1
      subst this
      rfl
  obtain ⟨v, ps, hrun, hr⟩ := h.lookup lawInt Try.underlying67 (zeroPeer w) (zd := peerD (0, 0)) (zp := []) (rP_mk 0 0) (key_int hq)
  obtain ⟨v', ps', hrun', hr'⟩ := h.look_ok lawInt Try.underlying67 (zeroPeer w) (zd := peerD (0, 0)) (zp := []) (rP_mk 0 0) (key_int hq)
  rw [hv v ps hr] at hrun
  rw [hv v' ps' hr', PMat.has h2] at hrun'
  exact ⟨hrun, hrun'⟩

theorem PM.look {w : World} {mv : Value} {n : Nat} {f : Int → Option (Int × Int)} (h : PM w mv n f) {q : Int} (hq : -9223372036854775808 ≤ q ∧ q ≤ 9223372036854775807) :
    (Instr.lookup 67 mv (.int .i64 q) false).run Try.prog w = .ok (peerV (peerOf f q)) w ∧
    (Instr.lookup 67 mv (.int .i64 q) true).run Try.prog w = .ok (.tuple #[peerV (peerOf f q), .bool (f q).isSome]) w := by
  rcases h with ⟨rfl, h⟩ | ⟨gm, rfl, h⟩
  · have h1 := Maps.look_nil false lawInt Try.underlying67 (zeroPeer w) (key_int hq)
    have h2 := Maps.look_nil true lawInt Try.underlying67 (zeroPeer w) (key_int hq)
    unfold peerOf
    rw [h]
    exact ⟨h1, h2⟩
  · exact PMat.look h hq

theorem PM.same {w w' : World} {mv : Value} {n : Nat} {f : Int → Option (Int × Int)} (h : PM w mv n f) (hg : ∀ k, mv = .map (some k) → w'.heap[k]? = w.heap[k]?) : PM w' mv n f := by
  rcases h with h | ⟨gm, rfl, h⟩
  · exact .inl h
  · exact .inr ⟨gm, rfl, PMat.same h (hg gm rfl)⟩

theorem PMat.store {w : World} {gm n : Nat} {f : Int → Option (Int × Int)} (h : PMat w gm n f) (hn : n ≤ 1000000) {q : Int} (hq : -9223372036854775808 ≤ q ∧ q ≤ 9223372036854775807) (p : Int × Int) :
    ∃ w', (Instr.mapUpdate 67 (.map (some gm)) (.int .i64 q) (peerV p)).run Try.prog w = .ok () w' ∧ PMat w' gm (n + 1) (fun k => if k = q then some p else f k) ∧ w.grownBy w' (some gm) ∧ w'.heap.size = w.heap.size := by
  obtain ⟨M, h, h2⟩ := h
  obtain ⟨w', hrun, hown, hturn⟩ := h.store lawInt Try.underlying67 (by unfold maxLen; omega) (key_int hq) (val := peerV p) (d := peerD p) (ps := []) (rP_mk p.1 p.2)
  refine ⟨w', hrun, ⟨_, hown, fun k z => ?_⟩, hturn.grown, ?_⟩
  · by_cases e : k = q
    · subst e
      rw [atKey_put_same (h.tidy lawInt).isMap (show WideAt.IsKeyLit (.int .i64 k) from trivial)]; simp
    · rw [atKey_put_other (lit_ne e), h2]; simp only [if_neg e]
  · obtain ⟨es, c, es', c', _, rfl⟩ := hturn
    simp [Go.ChangeMaps.setBlock]

/-- .. at a key that is there: no more entries. -/
theorem PMat.keepN {w : World} {gm n : Nat} {f : Int → Option (Int × Int)} (h : PMat w gm n f) {m : Nat} (hm : n ≤ m) : PMat w gm m f := by
  obtain ⟨M, h, h2⟩ := h
  exact ⟨M, h.mono hm, h2⟩
end Go.Proofs.Ytenpbcpdecnhmaa.M
