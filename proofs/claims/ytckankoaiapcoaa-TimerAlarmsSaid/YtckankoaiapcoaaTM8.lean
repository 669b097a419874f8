/- Maps of ints by ints, as a function of what is there; an entry that is written in two steps. Package timer: alarms in memory; does one come ahead of the other? Package timer: two alarms change places. container/heap over alarms: up. container/heap over alarms: down. -/
import Derived.Test.YtckankoaiapcoaaTM6
import Derived.Test.YtckankoaiapcoaaTM7
import Derived.Maps.OwnOps
import Derived.Maps.OwnSet
import Derived.WideKeyEntry
import Derived.BigRegion
import Derived.Deep.QuietTactic
import Derived.Deep.LoopGhost
import Derived.Lib.Hide
/- Part: TmMap. -/
namespace Go.Proofs.Ytckankoaiapcoaa.M
open Go.RowKit Go.Maps Go.ChangeMaps Go.MapKept
open Go.WideElems (Fit rd rg pl)

theorem setBlock_self {w : World} {b : Nat} {o : Obj} (h : w.heap[b]? = some o) : setBlock w b o = w := by
  unfold setBlock
  have : w.heap.setIfInBounds b o = w.heap := by
    apply Array.ext_getElem?
    intro i
    rw [Array.getElem?_setIfInBounds]
    by_cases e : b = i
    · subst e
      obtain ⟨hlt, hv⟩ := Array.getElem?_eq_some_iff.1 h
      rw [if_pos rfl, if_pos hlt, h]
    · rw [if_neg e]
  rw [this]

section
variable {H : Type} {P : Program} {w : World} {t k e : TypeId} {R : Value → Option (DataW H × List MemPlace)} {b : Nat} {es : Array MapEntry} {clock : Nat}

/-- An entry that is there, taken and then written. -/
theorem entry_there (K : Keyed P k) (ht : P.underlying t = some (.map k e)) (hb : w.heap[b]? = some (.map es clock)) (F : Fit P k R es clock) {key : Value} {kl : Lit} (hkey : keyOf P k key = some kl) (hex : ∃ x ∈ es.toList, x.key = key) :
    ∃ (v0 : Value) (st : Nat), (Instr.mapEntry t (.map (some b)) key).run P w = .ok (.tuple #[v0, goInt st]) w ∧
      ∀ val, ∃ es', (Instr.entryStore t (.map (some b)) (goInt st) val).run P w = .ok () (setBlock w b (.map es' clock)) ∧ (Instr.mapUpdate t (.map (some b)) key val).run P w = .ok () (setBlock w b (.map es' clock)) := by
  obtain ⟨s1, s2, _⟩ := F.stamped
  rcases K.find w hkey es.toList F.keys with ⟨_, h2⟩ | ⟨j, e0, h1, h2, h3⟩
  · obtain ⟨x, hx, e⟩ := hex
    exact absurd e (h2 x hx)
  · have hj : es[j]? = some e0 := by simpa using h2
    have hsame : es.modify j (fun e => { e with key := key }) = es := by
      apply Array.ext'
      rw [Array.toList_modify, modify_eq_set _ _ _ _ h2]
      have : ({ e0 with key := key } : MapEntry) = e0 := by rw [← h3]
      rw [this]
      exact WideElems.set_self _ _ _ h2
    refine ⟨e0.val, e0.born, ?_, fun val => ⟨es.modify j (fun e' => { e' with key := key, val := val }), ?_, ?_⟩⟩
    · have := setBlock_self hb
      unfold setBlock at this
      simp [Instr.mapEntry, run_underlying ht, MapKept.run_getObj_map hb, K.check w false hkey, h1, hj, h3, K.stays w hkey, hsame, MapKept.run_setObj_map _ hb, Result.andThen, this]
    · have hidx : es.findIdx? (fun e => ((e.born : Nat) : Int) == ((e0.born : Nat) : Int)) = some j := by
        rw [WideElems.findIdx_arr]
        exact WideElems.findIdx_born s2 h2
      have hmod : es.modify j (fun e => { e with val := val }) = es.modify j (fun e' => { e' with key := key, val := val }) := by
        apply Array.ext'
        rw [Array.toList_modify, Array.toList_modify, modify_eq_set _ _ _ _ h2, modify_eq_set _ _ _ _ h2, ← h3]
      simp [Instr.entryStore, MapKept.run_getObj_map hb, asInt, asIntOf, goInt, hidx, hmod, MapKept.run_setObj_map _ hb, Result.andThen, setBlock]
    · simp [Instr.mapUpdate, run_underlying ht, MapKept.run_getObj_map hb, K.check w false hkey, h1, hj, h3, K.stays w hkey, MapKept.run_setObj_map _ hb, Result.andThen, setBlock]
end

theorem lawInt : Keyed Try.prog 3 := int_keyed Try.underlying3

theorem key_int {q : Int} (h : -9223372036854775808 ≤ q ∧ q ≤ 9223372036854775807) : keyOf Try.prog 3 (.int .i64 q) = some (.int .i64 q) :=
  keyOf_int_mk Try.underlying3 (WalkArith.wf_i64 (by omega))

theorem lit_ne {j k : Int} (h : j ≠ k) : (Lit.int .i64 j) ≠ (Lit.int .i64 k) := fun e => h (Lit.int.inj e).2

theorem zeroInt (w : World) : (zeroValue 3).run Try.prog w = .ok (.int .i64 0) w := by kernel_rfl

noncomputable def rI : Value → Option (DataW Nat × List MemPlace) := plainElem Try.prog 3

theorem ownsMap_same {R : Value → Option (DataW Nat × List MemPlace)} {w w' : World} {gm n : Nat} {M : DataW Nat} (h : w.ownsMap Try.prog 3 R gm n M) (hg : w'.heap[gm]? = w.heap[gm]?) : w'.ownsMap Try.prog 3 R gm n M := by
  obtain ⟨es, clock, hb, F, hs, hD⟩ := h
  exact ⟨es, clock, hg.trans hb, F, hs, hD⟩

theorem ownsMap_tight {R : Value → Option (DataW Nat × List MemPlace)} {w : World} {gm n m : Nat} {M : DataW Nat} (h : w.ownsMap Try.prog 3 R gm n M) (hm : Maps.size M ≤ m) : w.ownsMap Try.prog 3 R gm m M := by
  obtain ⟨es, clock, hb, F, hs, hD⟩ := h
  refine ⟨es, clock, hb, F, ?_, hD⟩
  rw [hD] at hm
  simpa [Maps.size, length_sorted] using hm

def In1 (x : Int) : Prop := -9223372036854775808 ≤ x ∧ x ≤ 9223372036854775807

/-- Block gm is a map of at most n entries: what is there. -/
def KM (w : World) (gm n : Nat) (f : Int → Option Int) : Prop :=
  ∃ M : DataW Nat, w.ownsMap Try.prog 3 rI gm n M ∧ ∀ k z, M.atKey (.int .i64 k) z = match f k with | some p => .lit (.int .i64 p) | none => z

theorem KM.made (w : World) : KM (w.alloc (.map #[] 0)) w.heap.size 0 (fun _ => none) := ⟨_, World.ownsMap_made _ _ _ _, fun _ _ => rfl⟩

section
variable {w : World} {gm n : Nat} {f : Int → Option Int}

theorem KM.lt (h : KM w gm n f) : gm < w.heap.size := by obtain ⟨M, h, _⟩ := h; exact h.lt

theorem KM.same (h : KM w gm n f) {w' : World} (hg : w'.heap[gm]? = w.heap[gm]?) : KM w' gm n f := by
  obtain ⟨M, h, h2⟩ := h
  exact ⟨M, ownsMap_same h hg, h2⟩

theorem KM.next (h : KM w gm n f) {w' : World} (hb : Below w.heap.size w w') : KM w' gm n f := h.same (hb.block gm h.lt)

theorem KM.isMap (h : KM w gm n f) : ∃ es c, w.heap[gm]? = some (.map es c) := by
  obtain ⟨M, ⟨es, c, hb, _⟩, _⟩ := h
  exact ⟨es, c, hb⟩

theorem KM.has {M : DataW Nat} (h : ∀ k z, M.atKey (.int .i64 k) z = match f k with | some p => .lit (.int .i64 p) | none => z) (q : Int) : Maps.has M (.int .i64 q) = (f q).isSome := by
  cases hf : f q with
  | none => exact has_false_of_atKey fun z => by rw [h, hf]
  | some p => exact has_true_of_atKey (y := .lit (.int .i64 p)) fun z => by rw [h, hf]

theorem KM.look (h : KM w gm n f) {q : Int} (hq : In1 q) :
    (Instr.lookup 38 (.map (some gm)) (.int .i64 q) true).run Try.prog w = .ok (.tuple #[.int .i64 ((f q).getD 0), .bool (f q).isSome]) w := by
  obtain ⟨M, h, h2⟩ := h
  obtain ⟨v, ps, hrun, hr⟩ := h.look_ok lawInt Try.underlying38 (zeroInt w) (zd := .lit (.int .i64 0)) (zp := []) (plainElem_int Try.underlying3 (WalkArith.wf_i64 (by omega))) (key_int hq)
  rw [KM.has h2] at hrun
  obtain ⟨c, rfl, e2, _⟩ := plainElem_int_inv Try.underlying3 hr
  have e3 := (Prod.mk.inj e2).1
  rw [h2] at e3
  rw [hrun]
  cases hf : f q with
  | none => rw [hf] at e3; simp at e3; simp [e3]
  | some p => rw [hf] at e3; simp at e3; simp [e3]

theorem KM.put {M : DataW Nat} (hM : IsMap M) (h : ∀ k z, M.atKey (.int .i64 k) z = match f k with | some p => .lit (.int .i64 p) | none => z) (q v : Int) :
    ∀ k z, (M.put (.int .i64 q) (.lit (.int .i64 v))).atKey (.int .i64 k) z = match Tm.upd f q v k with | some p => .lit (.int .i64 p) | none => z := fun k z => by
  unfold Tm.upd
  by_cases e : k = q
  · subst e
    rw [atKey_put_same hM (show WideAt.IsKeyLit (.int .i64 k) from trivial)]; simp
  · rw [atKey_put_other (lit_ne e), h]; simp only [if_neg e]

/-- A store. -/
theorem KM.store (h : KM w gm n f) (hn : n ≤ 1099511627776) {q v : Int} (hq : In1 q) (hv : In1 v) :
    ∃ w', (Instr.mapUpdate 38 (.map (some gm)) (.int .i64 q) (.int .i64 v)).run Try.prog w = .ok () w' ∧ KM w' gm (if (f q).isSome then n else n + 1) (Tm.upd f q v) ∧ w.grownBy w' (some gm) ∧ w'.heap.size = w.heap.size := by
  obtain ⟨M, h, h2⟩ := h
  obtain ⟨w', hrun, hown, hturn⟩ := h.store lawInt Try.underlying38 (by unfold maxLen; omega) (key_int hq) (plainElem_int Try.underlying3 (WalkArith.wf_i64 (by unfold In1 at hv; omega)))
  refine ⟨w', hrun, ⟨_, ownsMap_tight hown ?_, KM.put (h.tidy lawInt).isMap h2 q v⟩, hturn.grown, ?_⟩
  · rw [size_put (h.tidy lawInt), KM.has h2]
    have := h.size_le
    split <;> omega
  · obtain ⟨es, c, es', c', _, rfl⟩ := hturn
    simp [Go.ChangeMaps.setBlock]

/-- A store at an entry that is there, in two steps. -/
theorem KM.entry (h : KM w gm n f) (hn : n ≤ 1099511627776) {q : Int} (hq : In1 q) (hf : (f q).isSome = true) :
    ∃ (v0 : Value) (st : Int), (Instr.mapEntry 38 (.map (some gm)) (.int .i64 q)).run Try.prog w = .ok (.tuple #[v0, .int .i64 st]) w ∧
      ∀ v, In1 v → ∃ w', (Instr.entryStore 38 (.map (some gm)) (.int .i64 st) (.int .i64 v)).run Try.prog w = .ok () w' ∧ KM w' gm n (Tm.upd f q v) ∧ w.grownBy w' (some gm) ∧ w'.heap.size = w.heap.size := by
  obtain ⟨M, h, h2⟩ := h
  obtain ⟨es, clock, hb, F, hs, hD⟩ := h
  have hown : w.ownsMap Try.prog 3 rI gm n M := ⟨es, clock, hb, F, hs, hD⟩
  have hex : ∃ x ∈ es.toList, x.key = .int .i64 q := by
    rcases Maps.fit_look true lawInt Try.underlying38 (zeroInt w) hb F (key_int hq) with ⟨_, _, hat⟩ | ⟨e0, y, h0, h1, _⟩
    · have hc := KM.has h2 q
      rw [hf, hD, Maps.has_false_of_atKey hat] at hc
      cases hc
    · exact ⟨e0, h0, h1⟩
  obtain ⟨v0, st, hrun, hst⟩ := entry_there lawInt Try.underlying38 hb F (key_int hq) hex
  refine ⟨v0, (st : Int), hrun, fun v hv => ?_⟩
  obtain ⟨es', hs2, hu⟩ := hst (.int .i64 v)
  have hroom : n < maxLen := by unfold maxLen; omega
  obtain ⟨w', hrun', hown', hturn⟩ := hown.store lawInt Try.underlying38 hroom (key_int hq) (plainElem_int Try.underlying3 (WalkArith.wf_i64 (by unfold In1 at hv; omega)))
  rw [hu] at hrun'
  cases hrun'
  refine ⟨_, hs2, ⟨_, ownsMap_tight hown' ?_, KM.put (hown.tidy lawInt).isMap h2 q v⟩, hturn.grown, by simp [Go.ChangeMaps.setBlock]⟩
  rw [size_put (hown.tidy lawInt), KM.has h2, hf]
  exact hown.size_le

/-- What delete takes out. -/
theorem KM.drop (h : KM w gm n f) {q : Int} (hq : In1 q) (hf : (f q).isSome = true) :
    ∃ w', (∀ ty, (Builtin.delete_ #[38, 3] ty #[.map (some gm), .int .i64 q]).run Try.prog w = .ok (.tuple #[]) w') ∧ KM w' gm (n - 1) (Tm.del f q) ∧ w.grownBy w' (some gm) ∧ w'.heap.size = w.heap.size := by
  obtain ⟨M, h, h2⟩ := h
  obtain ⟨w', hrun, hown, hturn⟩ := h.drop lawInt Try.underlying38 (key_int hq) 0
  refine ⟨w', fun ty => hrun, ⟨_, ownsMap_tight hown ?_, fun k z => ?_⟩, hturn.grown, ?_⟩
  · have h3 := size_del (h.tidy lawInt) (k := .int .i64 q)
    rw [KM.has h2, hf] at h3
    have := h.size_le
    simp at h3
    omega
  · unfold Tm.del
    by_cases e : k = q
    · subst e
      rw [atKey_del_same]; simp
    · rw [atKey_del_other (lit_ne e), h2]; simp only [if_neg e]
  · obtain ⟨es, c, es', c', _, rfl⟩ := hturn
    simp [Go.ChangeMaps.setBlock]
end

/-- .. nil, too. -/
def KMv (w : World) (mv : Value) (n : Nat) (f : Int → Option Int) : Prop :=
  (mv = .map none ∧ n = 0 ∧ ∀ k, f k = none) ∨ ∃ gm, mv = .map (some gm) ∧ KM w gm n f

theorem KMv.look {w : World} {mv : Value} {n : Nat} {f : Int → Option Int} (h : KMv w mv n f) {q : Int} (hq : In1 q) :
    (Instr.lookup 38 mv (.int .i64 q) true).run Try.prog w = .ok (.tuple #[.int .i64 ((f q).getD 0), .bool (f q).isSome]) w := by
  rcases h with ⟨rfl, -, h⟩ | ⟨gm, rfl, h⟩
  · have h2 := Maps.look_nil true lawInt Try.underlying38 (zeroInt w) (key_int hq)
    rw [h]
    exact h2
  · exact h.look hq
end Go.Proofs.Ytckankoaiapcoaa.M

/- Part: TmA. -/
namespace Go.Proofs.Ytckankoaiapcoaa.M
open Go.RowKit Go.Maps
open Tm (Al at' alt swL Pl)

def alV (a : Al) : List Value := [.int .i64 a.1, .int .i64 a.2]
def alCells (L : List Al) : List Value := L.flatMap alV

theorem alCells_length (L : List Al) : (alCells L).length = L.length * 2 := by
  induction L with
  | nil => rfl
  | cons p r ih => simp only [alCells, List.flatMap_cons, List.length_append, List.length_cons] at ih ⊢; rw [ih]; simp [alV]; omega

theorem alCells_get : ∀ (L : List Al) (i : Nat) (_ : i < L.length), (alCells L)[i * 2]? = some (.int .i64 (at' L i).1) ∧ (alCells L)[i * 2 + 1]? = some (.int .i64 (at' L i).2)
  | p :: r, 0, _ => ⟨rfl, rfl⟩
  | p :: r, i + 1, h => by
    have ih := alCells_get r i (by simpa using h)
    have e : ∀ j, (alCells (p :: r))[(i + 1) * 2 + j]? = (alCells r)[i * 2 + j]? := fun j => by
      simp only [alCells, List.flatMap_cons]
      rw [List.getElem?_append_right (by simp [alV]; omega)]
      congr 1
      simp [alV]; omega
    have e0 : at' (p :: r) (i + 1) = at' r i := by simp [at']
    rw [e0]
    exact ⟨(e 0).trans ih.1, (e 1).trans ih.2⟩

theorem alCells_one (L : List Al) : ∀ u ∈ alCells L, u.oneCell' = true := by
  intro u hu
  simp only [alCells, List.mem_flatMap, alV, List.mem_cons, List.not_mem_nil, or_false] at hu
  obtain ⟨a, _, rfl | rfl⟩ := hu <;> rfl

/-- Times and keys are ints. -/
def Rg (L : List Al) : Prop := ∀ x ∈ L, In1 x.1 ∧ In1 x.2

theorem Rg.at {L : List Al} (h : Rg L) {i : Nat} (hi : i < L.length) : In1 (at' L i).1 ∧ In1 (at' L i).2 := h _ (Tm.mem_at.2 ⟨i, hi, rfl⟩)

/-- Alarms, as they lie in memory: the box, the rows, the places. -/
structure AlIn (w : World) (ga gr gm c : Nat) (L : List Al) : Prop where
  box : w.heap[ga]? = some (.cells #[.slice (some ⟨gr, 0, none⟩) L.length c, .map (some gm)] 42)
  row : w.ownsRow 0 76 2 (.slice (some ⟨gr, 0, none⟩) L.length c) L.length (alCells L)
  map : ∃ p, KM w gm L.length p ∧ Pl p L
  rng : Rg L
  len : L.length ≤ 1099511627776

section
variable {w w' : World} {ga gr gm c : Nat} {L : List Al}

theorem AlIn.rowBlock (h : AlIn w ga gr gm c L) : ∃ cur, w.heap[gr]? = some (.cells cur 76 (0, 0)) ∧ L.length ≤ c ∧ c ≤ 9223372036854775807 ∧ cur.size = c * 2 ∧ cur.toList.take (L.length * 2) = alCells L := by
  rcases h.row.2 with ⟨h1, h2⟩ | ⟨g, cap, cur, hv, hg, hcur, h1, h2, h3, h4⟩
  · cases h1
  · cases hv
    exact ⟨cur, hcur, h1, by unfold maxLen at h2; omega, h3, h4⟩

theorem AlIn.ne (h : AlIn w ga gr gm c L) : ga ≠ gr ∧ ga ≠ gm ∧ gr ≠ gm := by
  obtain ⟨cur, hr, _⟩ := h.rowBlock
  obtain ⟨p, hp, _⟩ := h.map
  obtain ⟨es, ck, hm⟩ := hp.isMap
  have hb := h.box
  refine ⟨fun e => ?_, fun e => ?_, fun e => ?_⟩
  · rw [e, hr] at hb
    simp at hb
  · rw [e, hm] at hb
    simp at hb
  · rw [e, hm] at hr
    simp at hr

theorem AlIn.lt (h : AlIn w ga gr gm c L) : ga < w.heap.size ∧ gr < w.heap.size ∧ gm < w.heap.size := by
  obtain ⟨cur, hr, _⟩ := h.rowBlock
  obtain ⟨p, hp, _⟩ := h.map
  exact ⟨lt_of_heap h.box, lt_of_heap hr, hp.lt⟩

theorem ownsRow_same {w w' : World} {base e size n : Nat} {v : Value} {xs : List Value} (h : w.ownsRow base e size v n xs) (hs : ∀ k, v.ownBlock = some k → w'.heap[k]? = w.heap[k]?) : w'.ownsRow base e size v n xs := by
  obtain ⟨h1, h2 | ⟨g, cap, cur, hv, hg, hcur, h3⟩⟩ := h
  · exact ⟨h1, .inl h2⟩
  · exact ⟨h1, .inr ⟨g, cap, cur, hv, hg, (hs g (by rw [hv]; rfl)).trans hcur, h3⟩⟩

theorem AlIn.same (h : AlIn w ga gr gm c L) (h1 : w'.heap[ga]? = w.heap[ga]?) (h2 : w'.heap[gr]? = w.heap[gr]?) (h3 : w'.heap[gm]? = w.heap[gm]?) : AlIn w' ga gr gm c L :=
  ⟨h1.trans h.box, ownsRow_same h.row fun k hk => by cases hk; exact h2, by
    obtain ⟨p, hp, hl⟩ := h.map
    exact ⟨p, hp.same h3, hl⟩, h.rng, h.len⟩

theorem AlIn.next (h : AlIn w ga gr gm c L) (hb : Below w.heap.size w w') : AlIn w' ga gr gm c L :=
  h.same (hb.block _ h.lt.1) (hb.block _ h.lt.2.1) (hb.block _ h.lt.2.2)

/-- The two cells of the box. -/
theorem AlIn.cells (h : AlIn w ga gr gm c L) : w.cell? ⟨ga, 0, none⟩ = some (.slice (some ⟨gr, 0, none⟩) L.length c) ∧ w.cell? ⟨ga, 1, none⟩ = some (.map (some gm)) ∧
    w.frozen? ⟨ga, 0, none⟩ = false ∧ w.frozen? ⟨ga, 1, none⟩ = false ∧ ga < w.heap.size := block2' h.box

/-- The two cells of an alarm. -/
theorem AlIn.elem (h : AlIn w ga gr gm c L) (i : Nat) (hi : i < L.length) : w.cell? ⟨gr, i * 2, none⟩ = some (.int .i64 (at' L i).1) ∧ w.cell? ⟨gr, i * 2 + 1, none⟩ = some (.int .i64 (at' L i).2) ∧ ∀ j, w.frozen? ⟨gr, j, none⟩ = false := by
  have hl := alCells_length L
  have hg := alCells_get L i hi
  refine ⟨?_, ?_, fun j => h.row.frozenAt j⟩
  · rw [h.row.cellAt (i * 2) (by omega)]; exact hg.1
  · rw [h.row.cellAt (i * 2 + 1) (by omega)]; exact hg.2

theorem AlIn.small (h : AlIn w ga gr gm c L) : L.length ≤ c ∧ c ≤ 9223372036854775807 := by
  obtain ⟨cur, _, h1, h2, _⟩ := h.rowBlock
  exact ⟨h1, h2⟩
end


set_option maxRecDepth 20000 in
set_option maxHeartbeats 1600000 in
theorem Less_any (ga gr gm c : Nat) (L : List Al) (i j : Nat) (hi : i < L.length) (hj : j < L.length) (w : World) (h : AlIn w ga gr gm c L) :
    Calls Try.prog 146 #[.pointer (some ⟨ga, 0, none⟩), .int .i64 (i : Int), .int .i64 (j : Int)] w fun e w' => e = .returned (.bool (alt (at' L i) (at' L j))) ∧ Below w.heap.size w w' := by
  obtain ⟨b0, b1, bz0, bz1, bz⟩ := h.cells
  obtain ⟨c0, c1, cf⟩ := h.elem i hi
  obtain ⟨d0, d1, df⟩ := h.elem j hj
  have hs := h.small
  have hl := h.lt
  have hlen := h.len
  obtain ⟨a1, ha1⟩ : ∃ x, x = (at' L i).1 := ⟨_, rfl⟩
  obtain ⟨a2, ha2⟩ : ∃ x, x = (at' L i).2 := ⟨_, rfl⟩
  obtain ⟨e1, he1⟩ : ∃ x, x = (at' L j).1 := ⟨_, rfl⟩
  obtain ⟨e2, he2⟩ : ∃ x, x = (at' L j).2 := ⟨_, rfl⟩
  have HR : Hid (alt (at' L i) (at' L j) = (decide (a1 < e1) || (decide (a1 = e1) && decide (a2 < e2)))) := Lib.hid (by rw [ha1, ha2, he1, he2]; rfl)
  rw [← ha1] at c0
  rw [← ha2] at c1
  rw [← he1] at d0
  rw [← he2] at d1
  obtain ⟨n, hn⟩ : ∃ n, n = L.length := ⟨_, rfl⟩
  rw [← hn] at b0 hi hj hs hlen
  obtain ⟨res, hres⟩ : ∃ r, r = alt (at' L i) (at' L j) := ⟨_, rfl⟩
  rw [← hres] at HR ⊢
  have q0 := h.row.frozenAt 0
  clear h ha1 ha2 he1 he2 hn hres q0
  have hi2 : (i : Int) < n := by omega
  have hj2 : (j : Int) < n := by omega
  cases q1 : decide (a1 < e1) with
  | true =>
    have HR2 : Hid (res = true) := Lib.hid (by rw [HR.out, q1]; rfl)
    clear HR
    go_enter Try.func146, Try.ntmps146
    go_wp2_with fail
    go_region
    all_goals
      go_wp2_with fail
      go_ret
      exact ⟨by rw [HR2.out]; rfl, ((below_alloc _ _).alloc (by simp) _).drew⟩
  | false =>
    by_cases q0 : a1 = e1
    · have q2 : (a1 == e1) = true := by simpa using q0
      cases q3 : decide (a2 < e2) with
      | true =>
        have HR2 : Hid (res = true) := Lib.hid (by rw [HR.out, q1, q3, decide_eq_true q0]; rfl)
        clear HR q0
        go_enter Try.func146, Try.ntmps146
        go_wp2_with fail
        go_region
        all_goals
          go_wp2_with fail
          go_ret
          exact ⟨by rw [HR2.out]; rfl, ((below_alloc _ _).alloc (by simp) _).drew⟩
      | false =>
        have HR2 : Hid (res = false) := Lib.hid (by rw [HR.out, q1, q3, decide_eq_true q0]; rfl)
        clear HR q0
        go_enter Try.func146, Try.ntmps146
        go_wp2_with fail
        go_region
        all_goals
          go_wp2_with fail
          go_ret
          exact ⟨by rw [HR2.out]; rfl, ((below_alloc _ _).alloc (by simp) _).drew⟩
    · have q2 : (a1 == e1) = false := by simpa using q0
      have HR2 : Hid (res = false) := Lib.hid (by rw [HR.out, q1, decide_eq_false q0]; rfl)
      clear HR q0
      go_enter Try.func146, Try.ntmps146
      go_wp2_with fail
      go_region
      all_goals
        go_wp2_with fail
        go_ret
        exact ⟨by rw [HR2.out]; rfl, ((below_alloc _ _).alloc (by simp) _).drew⟩
end Go.Proofs.Ytckankoaiapcoaa.M

/- Part: TmB. -/
namespace Go.Proofs.Ytckankoaiapcoaa.M
open Go.RowKit Go.Maps
open Tm (Al at' alt swL Pl)

theorem alCells_set : ∀ (L : List Al) (i : Nat) (a : Al), i < L.length → alCells (L.set i a) = ((alCells L).set (i * 2) (.int .i64 a.1)).set (i * 2 + 1) (.int .i64 a.2)
  | p :: r, 0, a, _ => rfl
  | p :: r, i + 1, a, h => by
    have ih := alCells_set r i a (by simpa using h)
    show alV p ++ alCells (r.set i a) = ((alV p ++ alCells r).set ((i + 1) * 2) _).set ((i + 1) * 2 + 1) _
    rw [ih]
    have e1 : (i + 1) * 2 = i * 2 + 1 + 1 := by omega
    have e2 : (i + 1) * 2 + 1 = i * 2 + 1 + 1 + 1 := by omega
    rw [e2, e1]
    rfl

theorem row_put {w : World} {gr c : Nat} {L : List Al} (h : w.ownsRow 0 76 2 (.slice (some ⟨gr, 0, none⟩) L.length c) L.length (alCells L)) (i : Nat) (hi : i < L.length) (x y : Int) :
    ((w.setCell ⟨gr, i * 2, none⟩ (.int .i64 x)).setCell ⟨gr, i * 2 + 1, none⟩ (.int .i64 y)).ownsRow 0 76 2 (.slice (some ⟨gr, 0, none⟩) (L.set i (x, y)).length c) (L.set i (x, y)).length (alCells (L.set i (x, y))) := by
  have h1 := (h.stored (i * 2) (.int .i64 x)).1
  have h2 := (h1.stored (i * 2 + 1) (.int .i64 y)).1
  rw [List.length_set, alCells_set L i (x, y) hi]
  exact h2





set_option maxRecDepth 20000 in
set_option maxHeartbeats 3200000 in
theorem Swap_any (ga gr gm c : Nat) (L : List Al) (i j : Nat) (hi : i < L.length) (hj : j < L.length) (w : World) (h : AlIn w ga gr gm c L) :
    Calls Try.prog 149 #[.pointer (some ⟨ga, 0, none⟩), .int .i64 (i : Int), .int .i64 (j : Int)] w fun e w' => e = .returned (.tuple #[]) ∧ AlIn w' ga gr gm c (swL L i j) ∧ Only (fun k => k = gr ∨ k = gm) w w' := by
  obtain ⟨b0, b1, bz0, bz1, bz⟩ := h.cells
  obtain ⟨c0, c1, cf⟩ := h.elem i hi
  obtain ⟨d0, d1, df⟩ := h.elem j hj
  have hs := h.small
  have hl := h.lt
  have hlen := h.len
  obtain ⟨hne1, hne2, hne3⟩ := h.ne
  have H := Lib.hid h
  obtain ⟨a1, ha1⟩ : ∃ x, x = (at' L i).1 := ⟨_, rfl⟩
  obtain ⟨a2, ha2⟩ : ∃ x, x = (at' L i).2 := ⟨_, rfl⟩
  obtain ⟨e1, he1⟩ : ∃ x, x = (at' L j).1 := ⟨_, rfl⟩
  obtain ⟨e2, he2⟩ : ∃ x, x = (at' L j).2 := ⟨_, rfl⟩
  have HE : Hid (at' L i = (a1, a2) ∧ at' L j = (e1, e2)) := Lib.hid ⟨by rw [ha1, ha2], by rw [he1, he2]⟩
  rw [← ha1] at c0
  rw [← ha2] at c1
  rw [← he1] at d0
  rw [← he2] at d1
  obtain ⟨n, hn⟩ : ∃ n, n = L.length := ⟨_, rfl⟩
  have HN := Lib.hid hn
  rw [← hn] at b0 hi hj hs hlen
  clear h ha1 ha2 he1 he2 hn
  have hi2 : (i : Int) < n := by omega
  have hj2 : (j : Int) < n := by omega
  by_cases hij : i = j
  · subst hij
    go_enter Try.func149, Try.ntmps149
    go_wp2_with fail
    go_region
    go_wp2_with fail
    obtain ⟨W, hW⟩ : ∃ W, W = ((((w.setCell ⟨gr, i * 2, none⟩ (.int .i64 a1)).setCell ⟨gr, i * 2 + 1, none⟩ (.int .i64 a2)).setCell ⟨gr, i * 2, none⟩ (.int .i64 a1)).setCell ⟨gr, i * 2 + 1, none⟩ (.int .i64 a2)).drew := ⟨_, rfl⟩
    rw [← hW]
    obtain ⟨he1, he2⟩ : a1 = e1 ∧ a2 = e2 := by
      have := HE.out.1.symm.trans HE.out.2
      simpa using this
    have HW : Hid (Only (fun k => k = gr) w W ∧ W.ownsRow 0 76 2 (.slice (some ⟨gr, 0, none⟩) (swL L i i).length c) (swL L i i).length (alCells (swL L i i)) ∧ W.cell? ⟨gr, i * 2 + 1, none⟩ = some (.int .i64 e2) ∧ W.cell? ⟨gr, i * 2 + 1, none⟩ = some (.int .i64 a2)) := by
      have r1 := row_put H.out.row i (by rw [← HN.out]; exact hi) a1 a2
      have r2 := row_put r1 i (by rw [List.length_set, ← HN.out]; exact hi) a1 a2
      have e : (L.set i (a1, a2)).set i (a1, a2) = swL L i i := by
        unfold swL
        rw [HE.out.1]
      rw [e] at r2
      have hc : W.cell? ⟨gr, i * 2 + 1, none⟩ = some (.int .i64 a2) := by
        have hiL : i < L.length := by rw [← HN.out]; exact hi
        rw [hW]
        refine (r2.cellAt (i * 2 + 1) (by rw [Tm.swL_length]; omega)).trans ?_
        rw [(alCells_get _ i (by rw [Tm.swL_length]; exact hiL)).2, Tm.at_sw hiL hiL]
        unfold Tm.sw
        rw [if_pos rfl, HE.out.1]
      refine Lib.hid ⟨?_, by rw [hW]; exact r2, by rw [← he2]; exact hc, hc⟩
      rw [hW]
      exact ((((Only.refl (fun k => k = gr) w).set (.inl rfl) _).set (.inl rfl) _).set (.inl rfl) _ |>.set (.inl rfl) _).drawn
    clear hW
    subst he1
    subst he2
    obtain ⟨p, hp, hpl⟩ := H.out.map
    have hlw := H.out.lt
    have hpW := hp.same (w' := W.drew) (HW.out.1.block gm hlw.2.2 fun e => hne3 e.symm)
    have hs1 : (p a2).isSome = true := by
      have := hpl.at (k := i) (by rw [← HN.out]; exact hi)
      rw [HE.out.1] at this
      rw [this]; rfl
    have hs2 : (p a2).isSome = true := by
      have := hpl.at (k := i) (by rw [← HN.out]; exact hi)
      rw [HE.out.2] at this
      rw [this]; rfl
    have hr1 := (H.out.rng.at (i := i) (by rw [← HN.out]; exact hi)).2
    rw [HE.out.1] at hr1
    have hr2 := (H.out.rng.at (i := i) (by rw [← HN.out]; exact hi)).2
    rw [HE.out.2] at hr2
    obtain ⟨v0, st, en1, en2⟩ := hpW.entry (by rw [← HN.out]; exact hlen) hr2 hs2
    obtain ⟨W1, en3, hp1, gw1, sz1⟩ := en2 (i : Int) (by unfold In1; omega)
    obtain ⟨v1, st1, en4, en5⟩ := hp1.entry (by rw [← HN.out]; exact hlen) hr1 (by unfold Tm.upd; split <;> first | rfl | exact hs1)
    obtain ⟨W2, en6, hp2, gw2, sz2⟩ := en5 (i : Int) (by unfold In1; omega)
    have o1 : Only (fun k => k = gm) W W1 := (Only.refl (fun k => k = gm) W).drawn.then (only_of_grown gw1 fun k hk => by cases hk; rfl)
    have o2 : Only (fun k => k = gm) W W2 := o1.then (only_of_grown gw2 fun k hk => by cases hk; rfl)
    have hsz : W.heap.size = w.heap.size ∨ w.heap.size ≤ W.heap.size := .inr HW.out.1.size
    have hgaW : ga < W.heap.size := Nat.lt_of_lt_of_le hlw.1 HW.out.1.size
    have hgrW : gr < W.heap.size := Nat.lt_of_lt_of_le hlw.2.1 HW.out.1.size
    have x0 : ∀ w', Only (fun k => k = gm) W w' → w'.cell? ⟨ga, 0, none⟩ = some (.slice (some ⟨gr, 0, none⟩) n c) := fun w' h' => (cell_only h' hgaW hne2 0).trans ((cell_only HW.out.1 hlw.1 hne1 0).trans b0)
    have x1 : ∀ w', Only (fun k => k = gm) W w' → w'.cell? ⟨ga, 1, none⟩ = some (.map (some gm)) := fun w' h' => (cell_only h' hgaW hne2 1).trans ((cell_only HW.out.1 hlw.1 hne1 1).trans b1)
    have x2 : ∀ w', Only (fun k => k = gm) W w' → w'.cell? ⟨gr, i * 2 + 1, none⟩ = some (.int .i64 a2) := fun w' h' => (cell_only h' hgrW hne3 (i * 2 + 1)).trans HW.out.2.2.1
    have x3 : ∀ w', Only (fun k => k = gm) W w' → w'.cell? ⟨gr, i * 2 + 1, none⟩ = some (.int .i64 a2) := fun w' h' => (cell_only h' hgrW hne3 (i * 2 + 1)).trans HW.out.2.2.2
    have hS0 : Only (fun k => k = gm) W W.drew := (Only.refl _ W).drawn
    have HO := Lib.hid o2
    have HP2 := Lib.hid hp2
    have HPL := Lib.hid hpl
    have HO1 := Lib.hid o1
    clear hp hpW hs1 hs2 hr1 hr2 en2 en5 gw1 gw2 sz1 sz2 hp1 hp2 hpl hlw hsz b0 b1 c0 c1 d0 d1 hl
    refine wp_region_held (S := fun w' => Only (fun k => k = gm) W w') (by kernel_rfl) ?_
    have hS := hS0
    refine H_take (i := 0) (v := ?_) rfl (by as_aux_lemma => kernel_rfl) (by as_aux_lemma => kernel_rfl) (by as_aux_lemma => kernel_rfl) (fun _ _ _ h => h) (by rfl) hS ?_ ?_
    rotate_left
    · intro w' hw'; go_simp; with_reducible rfl
    go_simp
    refine H_take (i := 1) (v := ?_) rfl (by as_aux_lemma => kernel_rfl) (by as_aux_lemma => kernel_rfl) (by as_aux_lemma => kernel_rfl) (fun _ _ _ h => h) (by rfl) hS ?_ ?_
    rotate_left
    · intro w' hw'; go_simp; with_reducible rfl
    go_simp
    refine H_take (i := 2) (v := ?_) rfl (by as_aux_lemma => kernel_rfl) (by as_aux_lemma => kernel_rfl) (by as_aux_lemma => kernel_rfl) (fun _ _ _ h => h) (by rfl) hS ?_ ?_
    rotate_left
    · intro w' hw'; go_simp; with_reducible rfl
    go_simp
    refine H_take (i := 3) (v := ?_) rfl (by as_aux_lemma => kernel_rfl) (by as_aux_lemma => kernel_rfl) (by as_aux_lemma => kernel_rfl) (fun _ _ _ h => h) (by rfl) hS ?_ ?_
    rotate_left
    · intro w' hw'; go_simp; with_reducible rfl
    go_simp
    refine H_take (i := 4) (v := ?_) rfl (by as_aux_lemma => kernel_rfl) (by as_aux_lemma => kernel_rfl) (by as_aux_lemma => kernel_rfl) (fun _ _ _ h => h) (by rfl) hS ?_ ?_
    rotate_left
    · intro w' hw'; go_simp; with_reducible rfl
    go_simp
    refine H_take (i := 5) (v := ?_) rfl (by as_aux_lemma => kernel_rfl) (by as_aux_lemma => kernel_rfl) (by as_aux_lemma => kernel_rfl) (fun _ _ _ h => h) (by rfl) hS ?_ ?_
    rotate_left
    · intro w' hw'; go_simp; with_reducible rfl
    go_simp
    refine H_take (i := 6) (v := ?_) rfl (by as_aux_lemma => kernel_rfl) (by as_aux_lemma => kernel_rfl) (by as_aux_lemma => kernel_rfl) (fun _ _ _ h => h) (by rfl) hS ?_ ?_
    rotate_left
    · intro w' hw'; go_simp; with_reducible rfl
    go_simp
    refine H_take (i := 7) (v := ?_) rfl (by as_aux_lemma => kernel_rfl) (by as_aux_lemma => kernel_rfl) (by as_aux_lemma => kernel_rfl) (fun _ _ _ h => h) (by rfl) hS ?_ ?_
    rotate_left
    · intro w' hw'; go_simp; with_reducible rfl
    go_simp
    refine H_take (i := 8) (v := ?_) rfl (by as_aux_lemma => kernel_rfl) (by as_aux_lemma => kernel_rfl) (by as_aux_lemma => kernel_rfl) (fun _ _ _ h => h) (by rfl) hS ?_ ?_
    rotate_left
    · intro w' hw'; go_simp; with_reducible rfl
    go_simp
    refine H_take (i := 9) (v := ?_) rfl (by as_aux_lemma => kernel_rfl) (by as_aux_lemma => kernel_rfl) (by as_aux_lemma => kernel_rfl) (fun _ _ _ h => h) (by rfl) hS ?_ ?_
    rotate_left
    · intro w' hw'; go_simp; with_reducible rfl
    go_simp
    refine H_take (i := 10) (v := ?_) rfl (by as_aux_lemma => kernel_rfl) (by as_aux_lemma => kernel_rfl) (by as_aux_lemma => kernel_rfl) (fun _ _ _ h => h) (by rfl) hS ?_ ?_
    rotate_left
    · intro w' hw'; go_simp; with_reducible rfl
    go_simp
    refine H_take (i := 11) (v := ?_) rfl (by as_aux_lemma => kernel_rfl) (by as_aux_lemma => kernel_rfl) (by as_aux_lemma => kernel_rfl) (fun _ _ _ h => h) (by rfl) hS ?_ ?_
    rotate_left
    · intro w' hw'; go_simp; with_reducible rfl
    go_simp
    refine H_take (i := 12) (v := ?_) rfl (by as_aux_lemma => kernel_rfl) (by as_aux_lemma => kernel_rfl) (by as_aux_lemma => kernel_rfl) (fun _ _ _ h => h) (by rfl) hS ?_ ?_
    rotate_left
    · intro w' hw'; go_simp; with_reducible rfl
    go_simp
    refine H_take (i := 13) (v := ?_) rfl (by as_aux_lemma => kernel_rfl) (by as_aux_lemma => kernel_rfl) (by as_aux_lemma => kernel_rfl) (fun _ _ _ h => h) (by rfl) hS ?_ ?_
    rotate_left
    · intro w' hw'; go_simp; with_reducible rfl
    go_simp
    refine H_take (i := 14) (v := ?_) rfl (by as_aux_lemma => kernel_rfl) (by as_aux_lemma => kernel_rfl) (by as_aux_lemma => kernel_rfl) (fun _ _ _ h => h) (by rfl) hS ?_ ?_
    rotate_left
    · intro w' hw'; go_simp; with_reducible rfl
    go_simp
    refine H_take (i := 15) (v := ?_) rfl (by as_aux_lemma => kernel_rfl) (by as_aux_lemma => kernel_rfl) (by as_aux_lemma => kernel_rfl) (fun _ _ _ h => h) (by rfl) hS ?_ ?_
    rotate_left
    · intro w' hw'; go_simp; with_reducible rfl
    go_simp
    refine H_take (i := 16) (v := ?_) rfl (by as_aux_lemma => kernel_rfl) (by as_aux_lemma => kernel_rfl) (by as_aux_lemma => kernel_rfl) (fun _ _ _ h => h) (by rfl) hS ?_ ?_
    rotate_left
    · intro w' hw'; go_simp; with_reducible rfl
    go_simp
    refine H_take (i := 17) (v := ?_) rfl (by as_aux_lemma => kernel_rfl) (by as_aux_lemma => kernel_rfl) (by as_aux_lemma => kernel_rfl) (fun _ _ _ h => h) (by rfl) hS ?_ ?_
    rotate_left
    · intro w' hw'; go_simp; with_reducible rfl
    go_simp
    refine H_take (i := 18) (v := ?_) rfl (by as_aux_lemma => kernel_rfl) (by as_aux_lemma => kernel_rfl) (by as_aux_lemma => kernel_rfl) (fun _ _ _ h => h) (by rfl) hS ?_ ?_
    rotate_left
    · intro w' hw'; go_simp; with_reducible rfl
    go_simp
    refine H_take (i := 19) (v := ?_) rfl (by as_aux_lemma => kernel_rfl) (by as_aux_lemma => kernel_rfl) (by as_aux_lemma => kernel_rfl) (fun _ _ _ h => h) (by rfl) hS ?_ ?_
    rotate_left
    · intro w' hw'; go_simp; with_reducible rfl
    go_simp
    refine H_take (i := 20) (v := ?_) rfl (by as_aux_lemma => kernel_rfl) (by as_aux_lemma => kernel_rfl) (by as_aux_lemma => kernel_rfl) (fun _ _ _ h => h) (by rfl) hS ?_ ?_
    rotate_left
    · intro w' hw'; go_simp; with_reducible rfl
    go_simp
    refine H_take (i := 21) (v := ?_) rfl (by as_aux_lemma => kernel_rfl) (by as_aux_lemma => kernel_rfl) (by as_aux_lemma => kernel_rfl) (fun _ _ _ h => h) (by rfl) hS ?_ ?_
    rotate_left
    · intro w' hw'; go_simp; with_reducible rfl
    go_simp
    refine H_take (i := 22) (v := ?_) rfl (by as_aux_lemma => kernel_rfl) (by as_aux_lemma => kernel_rfl) (by as_aux_lemma => kernel_rfl) (fun _ _ _ h => h) (by rfl) hS ?_ ?_
    rotate_left
    · intro w' hw'; go_simp; with_reducible rfl
    go_simp
    refine H_take (i := 23) (v := ?_) rfl (by as_aux_lemma => kernel_rfl) (by as_aux_lemma => kernel_rfl) (by as_aux_lemma => kernel_rfl) (fun _ _ _ h => h) (by rfl) hS ?_ ?_
    rotate_left
    · intro w' hw'; go_simp; with_reducible rfl
    go_simp
    refine H_take (i := 24) (v := ?_) rfl (by as_aux_lemma => kernel_rfl) (by as_aux_lemma => kernel_rfl) (by as_aux_lemma => kernel_rfl) (fun _ _ _ h => h) (by rfl) hS ?_ ?_
    rotate_left
    · intro w' hw'; go_simp; with_reducible rfl
    go_simp
    refine H_take (i := 25) (v := ?_) rfl (by as_aux_lemma => kernel_rfl) (by as_aux_lemma => kernel_rfl) (by as_aux_lemma => kernel_rfl) (fun _ _ _ h => h) (by rfl) hS ?_ ?_
    rotate_left
    · intro w' hw'; go_simp; with_reducible rfl
    go_simp
    refine H_one (i := 26) (by as_aux_lemma => kernel_rfl) rfl (by rfl) ?_
    go_simp
    refine H_take (i := 27) (v := ?_) rfl (by as_aux_lemma => kernel_rfl) (by as_aux_lemma => kernel_rfl) (by as_aux_lemma => kernel_rfl) (fun _ _ _ h => h) (by rfl) hS ?_ ?_
    rotate_left
    · intro w' hw'; go_simp; with_reducible rfl
    go_simp
    refine H_one (i := 28) (by as_aux_lemma => kernel_rfl) rfl (by rfl) ?_
    go_simp
    refine H_one (i := 29) (by as_aux_lemma => kernel_rfl) rfl (by rfl) ?_
    go_simp
    refine H_take (i := 30) (v := ?_) rfl (by as_aux_lemma => kernel_rfl) (by as_aux_lemma => kernel_rfl) (by as_aux_lemma => kernel_rfl) (fun _ _ _ h => h) (by rfl) o1 ?_ ?_
    rotate_left
    · intro w' hw'; go_simp; with_reducible rfl
    go_simp
    refine H_one (i := 31) (by as_aux_lemma => kernel_rfl) rfl (by rfl) ?_
    go_simp
    refine wpAnyH_done (by as_aux_lemma => kernel_rfl) ?_ _
    clear x0 x1 x2 x3 hS hS0 o1 en1 en3 en4 en6
    go_wp2_with fail
    go_end0
    have hb : W2.heap[ga]? = w.heap[ga]? := (HO.out.block ga hgaW hne2).trans (HW.out.1.block ga H.out.lt.1 hne1)
    refine ⟨rfl, ⟨?_, ownsRow_same HW.out.2.1 fun k hk => by cases hk; exact HO.out.block gr hgrW hne3, ⟨Tm.upd (Tm.upd p a2 (i : Int)) a2 (i : Int), ?_, ?_⟩, ?_, ?_⟩, ?_⟩
    · rw [hb, Tm.swL_length]; exact H.out.box
    · rw [Tm.swL_length]; exact HP2.out
    · have := HPL.out.sw (i := i) (j := i) (by rw [← HN.out]; exact hi) (by rw [← HN.out]; exact hi)
      rw [HE.out.1] at this
      exact this
    · intro x hx
      exact H.out.rng x ((Tm.sw_sm (by rw [← HN.out]; exact hi) (by rw [← HN.out]; exact hi)).2 x |>.1 hx)
    · rw [Tm.swL_length]; exact H.out.len
    · exact (HW.out.1.mono fun k hk => .inl hk).then (HO.out.mono fun k hk => .inr hk)
  · have g1 : ¬ i * 2 = j * 2 := by omega
    have g2 : ¬ i * 2 + 1 = j * 2 := by omega
    have g3 : ¬ i * 2 = j * 2 + 1 := by omega
    have g4 : ¬ i * 2 + 1 = j * 2 + 1 := by omega
    have g5 : ¬ j * 2 = i * 2 := by omega
    have g6 : ¬ j * 2 + 1 = i * 2 := by omega
    have g7 : ¬ j * 2 = i * 2 + 1 := by omega
    have g8 : ¬ j * 2 + 1 = i * 2 + 1 := by omega
    go_enter Try.func149, Try.ntmps149
    go_wp2_with fail
    go_region
    go_wp2_with fail
    obtain ⟨W, hW⟩ : ∃ W, W = ((((w.setCell ⟨gr, i * 2, none⟩ (.int .i64 e1)).setCell ⟨gr, i * 2 + 1, none⟩ (.int .i64 e2)).setCell ⟨gr, j * 2, none⟩ (.int .i64 a1)).setCell ⟨gr, j * 2 + 1, none⟩ (.int .i64 a2)).drew := ⟨_, rfl⟩
    rw [← hW]
    have HW : Hid (Only (fun k => k = gr) w W ∧ W.ownsRow 0 76 2 (.slice (some ⟨gr, 0, none⟩) (swL L i j).length c) (swL L i j).length (alCells (swL L i j)) ∧ W.cell? ⟨gr, i * 2 + 1, none⟩ = some (.int .i64 e2) ∧ W.cell? ⟨gr, j * 2 + 1, none⟩ = some (.int .i64 a2)) := by
      have r1 := row_put H.out.row i (by rw [← HN.out]; exact hi) e1 e2
      have r2 := row_put r1 j (by rw [List.length_set, ← HN.out]; exact hj) a1 a2
      have e : (L.set i (e1, e2)).set j (a1, a2) = swL L i j := by
        unfold swL
        rw [HE.out.1, HE.out.2]
      rw [e] at r2
      have hcc : ∀ k, k < L.length → W.cell? ⟨gr, k * 2 + 1, none⟩ = some (.int .i64 (at' (swL L i j) k).2) := fun k hk => by
        rw [hW]
        exact (r2.cellAt (k * 2 + 1) (by rw [Tm.swL_length]; omega)).trans (alCells_get _ k (by rw [Tm.swL_length]; exact hk)).2
      have hsw := Tm.at_sw (L := L) (i := i) (j := j) (by rw [← HN.out]; exact hi) (by rw [← HN.out]; exact hj)
      refine Lib.hid ⟨?_, by rw [hW]; exact r2, ?_, ?_⟩
      · rw [hW]
        exact ((((Only.refl (fun k => k = gr) w).set (.inl rfl) _).set (.inl rfl) _).set (.inl rfl) _ |>.set (.inl rfl) _).drawn
      · rw [hcc i (by rw [← HN.out]; exact hi), hsw]
        unfold Tm.sw
        rw [if_pos rfl, HE.out.2]
      · rw [hcc j (by rw [← HN.out]; exact hj), hsw]
        unfold Tm.sw
        rw [if_neg (fun e => hij e.symm), if_pos rfl, HE.out.1]
    clear hW g1 g2 g3 g4 g5 g6 g7 g8
    obtain ⟨p, hp, hpl⟩ := H.out.map
    have hlw := H.out.lt
    have hpW := hp.same (w' := W.drew) (HW.out.1.block gm hlw.2.2 fun e => hne3 e.symm)
    have hs1 : (p a2).isSome = true := by
      have := hpl.at (k := i) (by rw [← HN.out]; exact hi)
      rw [HE.out.1] at this
      rw [this]; rfl
    have hs2 : (p e2).isSome = true := by
      have := hpl.at (k := j) (by rw [← HN.out]; exact hj)
      rw [HE.out.2] at this
      rw [this]; rfl
    have hr1 := (H.out.rng.at (i := i) (by rw [← HN.out]; exact hi)).2
    rw [HE.out.1] at hr1
    have hr2 := (H.out.rng.at (i := j) (by rw [← HN.out]; exact hj)).2
    rw [HE.out.2] at hr2
    obtain ⟨v0, st, en1, en2⟩ := hpW.entry (by rw [← HN.out]; exact hlen) hr2 hs2
    obtain ⟨W1, en3, hp1, gw1, sz1⟩ := en2 (i : Int) (by unfold In1; omega)
    obtain ⟨v1, st1, en4, en5⟩ := hp1.entry (by rw [← HN.out]; exact hlen) hr1 (by unfold Tm.upd; split <;> first | rfl | exact hs1)
    obtain ⟨W2, en6, hp2, gw2, sz2⟩ := en5 (j : Int) (by unfold In1; omega)
    have o1 : Only (fun k => k = gm) W W1 := (Only.refl (fun k => k = gm) W).drawn.then (only_of_grown gw1 fun k hk => by cases hk; rfl)
    have o2 : Only (fun k => k = gm) W W2 := o1.then (only_of_grown gw2 fun k hk => by cases hk; rfl)
    have hsz : W.heap.size = w.heap.size ∨ w.heap.size ≤ W.heap.size := .inr HW.out.1.size
    have hgaW : ga < W.heap.size := Nat.lt_of_lt_of_le hlw.1 HW.out.1.size
    have hgrW : gr < W.heap.size := Nat.lt_of_lt_of_le hlw.2.1 HW.out.1.size
    have x0 : ∀ w', Only (fun k => k = gm) W w' → w'.cell? ⟨ga, 0, none⟩ = some (.slice (some ⟨gr, 0, none⟩) n c) := fun w' h' => (cell_only h' hgaW hne2 0).trans ((cell_only HW.out.1 hlw.1 hne1 0).trans b0)
    have x1 : ∀ w', Only (fun k => k = gm) W w' → w'.cell? ⟨ga, 1, none⟩ = some (.map (some gm)) := fun w' h' => (cell_only h' hgaW hne2 1).trans ((cell_only HW.out.1 hlw.1 hne1 1).trans b1)
    have x2 : ∀ w', Only (fun k => k = gm) W w' → w'.cell? ⟨gr, i * 2 + 1, none⟩ = some (.int .i64 e2) := fun w' h' => (cell_only h' hgrW hne3 (i * 2 + 1)).trans HW.out.2.2.1
    have x3 : ∀ w', Only (fun k => k = gm) W w' → w'.cell? ⟨gr, j * 2 + 1, none⟩ = some (.int .i64 a2) := fun w' h' => (cell_only h' hgrW hne3 (j * 2 + 1)).trans HW.out.2.2.2
    have hS0 : Only (fun k => k = gm) W W.drew := (Only.refl _ W).drawn
    have HO := Lib.hid o2
    have HP2 := Lib.hid hp2
    have HPL := Lib.hid hpl
    have HO1 := Lib.hid o1
    clear hp hpW hs1 hs2 hr1 hr2 en2 en5 gw1 gw2 sz1 sz2 hp1 hp2 hpl hlw hsz b0 b1 c0 c1 d0 d1 hl
    refine wp_region_held (S := fun w' => Only (fun k => k = gm) W w') (by kernel_rfl) ?_
    have hS := hS0
    refine H_take (i := 0) (v := ?_) rfl (by as_aux_lemma => kernel_rfl) (by as_aux_lemma => kernel_rfl) (by as_aux_lemma => kernel_rfl) (fun _ _ _ h => h) (by rfl) hS ?_ ?_
    rotate_left
    · intro w' hw'; go_simp; with_reducible rfl
    go_simp
    refine H_take (i := 1) (v := ?_) rfl (by as_aux_lemma => kernel_rfl) (by as_aux_lemma => kernel_rfl) (by as_aux_lemma => kernel_rfl) (fun _ _ _ h => h) (by rfl) hS ?_ ?_
    rotate_left
    · intro w' hw'; go_simp; with_reducible rfl
    go_simp
    refine H_take (i := 2) (v := ?_) rfl (by as_aux_lemma => kernel_rfl) (by as_aux_lemma => kernel_rfl) (by as_aux_lemma => kernel_rfl) (fun _ _ _ h => h) (by rfl) hS ?_ ?_
    rotate_left
    · intro w' hw'; go_simp; with_reducible rfl
    go_simp
    refine H_take (i := 3) (v := ?_) rfl (by as_aux_lemma => kernel_rfl) (by as_aux_lemma => kernel_rfl) (by as_aux_lemma => kernel_rfl) (fun _ _ _ h => h) (by rfl) hS ?_ ?_
    rotate_left
    · intro w' hw'; go_simp; with_reducible rfl
    go_simp
    refine H_take (i := 4) (v := ?_) rfl (by as_aux_lemma => kernel_rfl) (by as_aux_lemma => kernel_rfl) (by as_aux_lemma => kernel_rfl) (fun _ _ _ h => h) (by rfl) hS ?_ ?_
    rotate_left
    · intro w' hw'; go_simp; with_reducible rfl
    go_simp
    refine H_take (i := 5) (v := ?_) rfl (by as_aux_lemma => kernel_rfl) (by as_aux_lemma => kernel_rfl) (by as_aux_lemma => kernel_rfl) (fun _ _ _ h => h) (by rfl) hS ?_ ?_
    rotate_left
    · intro w' hw'; go_simp; with_reducible rfl
    go_simp
    refine H_take (i := 6) (v := ?_) rfl (by as_aux_lemma => kernel_rfl) (by as_aux_lemma => kernel_rfl) (by as_aux_lemma => kernel_rfl) (fun _ _ _ h => h) (by rfl) hS ?_ ?_
    rotate_left
    · intro w' hw'; go_simp; with_reducible rfl
    go_simp
    refine H_take (i := 7) (v := ?_) rfl (by as_aux_lemma => kernel_rfl) (by as_aux_lemma => kernel_rfl) (by as_aux_lemma => kernel_rfl) (fun _ _ _ h => h) (by rfl) hS ?_ ?_
    rotate_left
    · intro w' hw'; go_simp; with_reducible rfl
    go_simp
    refine H_take (i := 8) (v := ?_) rfl (by as_aux_lemma => kernel_rfl) (by as_aux_lemma => kernel_rfl) (by as_aux_lemma => kernel_rfl) (fun _ _ _ h => h) (by rfl) hS ?_ ?_
    rotate_left
    · intro w' hw'; go_simp; with_reducible rfl
    go_simp
    refine H_take (i := 9) (v := ?_) rfl (by as_aux_lemma => kernel_rfl) (by as_aux_lemma => kernel_rfl) (by as_aux_lemma => kernel_rfl) (fun _ _ _ h => h) (by rfl) hS ?_ ?_
    rotate_left
    · intro w' hw'; go_simp; with_reducible rfl
    go_simp
    refine H_take (i := 10) (v := ?_) rfl (by as_aux_lemma => kernel_rfl) (by as_aux_lemma => kernel_rfl) (by as_aux_lemma => kernel_rfl) (fun _ _ _ h => h) (by rfl) hS ?_ ?_
    rotate_left
    · intro w' hw'; go_simp; with_reducible rfl
    go_simp
    refine H_take (i := 11) (v := ?_) rfl (by as_aux_lemma => kernel_rfl) (by as_aux_lemma => kernel_rfl) (by as_aux_lemma => kernel_rfl) (fun _ _ _ h => h) (by rfl) hS ?_ ?_
    rotate_left
    · intro w' hw'; go_simp; with_reducible rfl
    go_simp
    refine H_take (i := 12) (v := ?_) rfl (by as_aux_lemma => kernel_rfl) (by as_aux_lemma => kernel_rfl) (by as_aux_lemma => kernel_rfl) (fun _ _ _ h => h) (by rfl) hS ?_ ?_
    rotate_left
    · intro w' hw'; go_simp; with_reducible rfl
    go_simp
    refine H_take (i := 13) (v := ?_) rfl (by as_aux_lemma => kernel_rfl) (by as_aux_lemma => kernel_rfl) (by as_aux_lemma => kernel_rfl) (fun _ _ _ h => h) (by rfl) hS ?_ ?_
    rotate_left
    · intro w' hw'; go_simp; with_reducible rfl
    go_simp
    refine H_take (i := 14) (v := ?_) rfl (by as_aux_lemma => kernel_rfl) (by as_aux_lemma => kernel_rfl) (by as_aux_lemma => kernel_rfl) (fun _ _ _ h => h) (by rfl) hS ?_ ?_
    rotate_left
    · intro w' hw'; go_simp; with_reducible rfl
    go_simp
    refine H_take (i := 15) (v := ?_) rfl (by as_aux_lemma => kernel_rfl) (by as_aux_lemma => kernel_rfl) (by as_aux_lemma => kernel_rfl) (fun _ _ _ h => h) (by rfl) hS ?_ ?_
    rotate_left
    · intro w' hw'; go_simp; with_reducible rfl
    go_simp
    refine H_take (i := 16) (v := ?_) rfl (by as_aux_lemma => kernel_rfl) (by as_aux_lemma => kernel_rfl) (by as_aux_lemma => kernel_rfl) (fun _ _ _ h => h) (by rfl) hS ?_ ?_
    rotate_left
    · intro w' hw'; go_simp; with_reducible rfl
    go_simp
    refine H_take (i := 17) (v := ?_) rfl (by as_aux_lemma => kernel_rfl) (by as_aux_lemma => kernel_rfl) (by as_aux_lemma => kernel_rfl) (fun _ _ _ h => h) (by rfl) hS ?_ ?_
    rotate_left
    · intro w' hw'; go_simp; with_reducible rfl
    go_simp
    refine H_take (i := 18) (v := ?_) rfl (by as_aux_lemma => kernel_rfl) (by as_aux_lemma => kernel_rfl) (by as_aux_lemma => kernel_rfl) (fun _ _ _ h => h) (by rfl) hS ?_ ?_
    rotate_left
    · intro w' hw'; go_simp; with_reducible rfl
    go_simp
    refine H_take (i := 19) (v := ?_) rfl (by as_aux_lemma => kernel_rfl) (by as_aux_lemma => kernel_rfl) (by as_aux_lemma => kernel_rfl) (fun _ _ _ h => h) (by rfl) hS ?_ ?_
    rotate_left
    · intro w' hw'; go_simp; with_reducible rfl
    go_simp
    refine H_take (i := 20) (v := ?_) rfl (by as_aux_lemma => kernel_rfl) (by as_aux_lemma => kernel_rfl) (by as_aux_lemma => kernel_rfl) (fun _ _ _ h => h) (by rfl) hS ?_ ?_
    rotate_left
    · intro w' hw'; go_simp; with_reducible rfl
    go_simp
    refine H_take (i := 21) (v := ?_) rfl (by as_aux_lemma => kernel_rfl) (by as_aux_lemma => kernel_rfl) (by as_aux_lemma => kernel_rfl) (fun _ _ _ h => h) (by rfl) hS ?_ ?_
    rotate_left
    · intro w' hw'; go_simp; with_reducible rfl
    go_simp
    refine H_take (i := 22) (v := ?_) rfl (by as_aux_lemma => kernel_rfl) (by as_aux_lemma => kernel_rfl) (by as_aux_lemma => kernel_rfl) (fun _ _ _ h => h) (by rfl) hS ?_ ?_
    rotate_left
    · intro w' hw'; go_simp; with_reducible rfl
    go_simp
    refine H_take (i := 23) (v := ?_) rfl (by as_aux_lemma => kernel_rfl) (by as_aux_lemma => kernel_rfl) (by as_aux_lemma => kernel_rfl) (fun _ _ _ h => h) (by rfl) hS ?_ ?_
    rotate_left
    · intro w' hw'; go_simp; with_reducible rfl
    go_simp
    refine H_take (i := 24) (v := ?_) rfl (by as_aux_lemma => kernel_rfl) (by as_aux_lemma => kernel_rfl) (by as_aux_lemma => kernel_rfl) (fun _ _ _ h => h) (by rfl) hS ?_ ?_
    rotate_left
    · intro w' hw'; go_simp; with_reducible rfl
    go_simp
    refine H_take (i := 25) (v := ?_) rfl (by as_aux_lemma => kernel_rfl) (by as_aux_lemma => kernel_rfl) (by as_aux_lemma => kernel_rfl) (fun _ _ _ h => h) (by rfl) hS ?_ ?_
    rotate_left
    · intro w' hw'; go_simp; with_reducible rfl
    go_simp
    refine H_one (i := 26) (by as_aux_lemma => kernel_rfl) rfl (by rfl) ?_
    go_simp
    refine H_take (i := 27) (v := ?_) rfl (by as_aux_lemma => kernel_rfl) (by as_aux_lemma => kernel_rfl) (by as_aux_lemma => kernel_rfl) (fun _ _ _ h => h) (by rfl) hS ?_ ?_
    rotate_left
    · intro w' hw'; go_simp; with_reducible rfl
    go_simp
    refine H_one (i := 28) (by as_aux_lemma => kernel_rfl) rfl (by rfl) ?_
    go_simp
    refine H_one (i := 29) (by as_aux_lemma => kernel_rfl) rfl (by rfl) ?_
    go_simp
    refine H_take (i := 30) (v := ?_) rfl (by as_aux_lemma => kernel_rfl) (by as_aux_lemma => kernel_rfl) (by as_aux_lemma => kernel_rfl) (fun _ _ _ h => h) (by rfl) o1 ?_ ?_
    rotate_left
    · intro w' hw'; go_simp; with_reducible rfl
    go_simp
    refine H_one (i := 31) (by as_aux_lemma => kernel_rfl) rfl (by rfl) ?_
    go_simp
    refine wpAnyH_done (by as_aux_lemma => kernel_rfl) ?_ _
    clear x0 x1 x2 x3 hS hS0 o1 en1 en3 en4 en6
    go_wp2_with fail
    go_end0
    have hb : W2.heap[ga]? = w.heap[ga]? := (HO.out.block ga hgaW hne2).trans (HW.out.1.block ga H.out.lt.1 hne1)
    refine ⟨rfl, ⟨?_, ownsRow_same HW.out.2.1 fun k hk => by cases hk; exact HO.out.block gr hgrW hne3, ⟨Tm.upd (Tm.upd p e2 (i : Int)) a2 (j : Int), ?_, ?_⟩, ?_, ?_⟩, ?_⟩
    · rw [hb, Tm.swL_length]; exact H.out.box
    · rw [Tm.swL_length]; exact HP2.out
    · have := HPL.out.sw (i := i) (j := j) (by rw [← HN.out]; exact hi) (by rw [← HN.out]; exact hj)
      rw [HE.out.1, HE.out.2] at this
      exact this
    · intro x hx
      exact H.out.rng x ((Tm.sw_sm (by rw [← HN.out]; exact hi) (by rw [← HN.out]; exact hj)).2 x |>.1 hx)
    · rw [Tm.swL_length]; exact H.out.len
    · exact (HW.out.1.mono fun k hk => .inl hk).then (HO.out.mono fun k hk => .inr hk)
end Go.Proofs.Ytckankoaiapcoaa.M

/- Part: TmC. -/
namespace Go.Proofs.Ytckankoaiapcoaa.M
open Go.RowKit Go.Maps
open Tm (Al at' alt swL Pl HpF UpI DnI Sm)

/-- A heap as an interface value. -/
def hV (ga : Nat) : Value := .iface 78 (.pointer (some ⟨ga, 0, none⟩))

theorem m_less (ga : Nat) (w : World) : (method 297 78 (.pointer (some ⟨ga, 0, none⟩)) "Less").run Try.prog w = .ok (146, .pointer (some ⟨ga, 0, none⟩)) w := by kernel_rfl
theorem m_swap (ga : Nat) (w : World) : (method 297 78 (.pointer (some ⟨ga, 0, none⟩)) "Swap").run Try.prog w = .ok (149, .pointer (some ⟨ga, 0, none⟩)) w := by kernel_rfl
theorem m_len (ga : Nat) (w : World) : (method 297 78 (.pointer (some ⟨ga, 0, none⟩)) "Len").run Try.prog w = .ok (40, .pointer (some ⟨ga, 0, none⟩)) w := by kernel_rfl
theorem m_push (ga : Nat) (w : World) : (method 297 78 (.pointer (some ⟨ga, 0, none⟩)) "Push").run Try.prog w = .ok (148, .pointer (some ⟨ga, 0, none⟩)) w := by kernel_rfl
theorem m_pop (ga : Nat) (w : World) : (method 297 78 (.pointer (some ⟨ga, 0, none⟩)) "Pop").run Try.prog w = .ok (147, .pointer (some ⟨ga, 0, none⟩)) w := by kernel_rfl

/-- What a sift leaves: the same alarms, nothing from n on changed, and the heap's order ahead of it. -/
def Sift (ga gr gm c n : Nat) (L : List Al) (w : World) (w' : World) : Prop :=
  ∃ L', Sm L' L ∧ (∀ k, n ≤ k → at' L' k = at' L k) ∧ HpF (at' L') n ∧ AlIn w' ga gr gm c L' ∧ Only (fun k => k = gr ∨ k = gm) w w'

set_option maxRecDepth 20000 in
set_option maxHeartbeats 3200000 in
theorem up_any (ga gr gm c n : Nat) (L : List Al) (j : Nat) (hn : n ≤ L.length) (hj : j < n) (w : World) (h : AlIn w ga gr gm c L) (hU : UpI (at' L) n j) :
    Calls Try.prog 56 #[hV ga, .int .i64 (j : Int)] w fun e w' => e = .returned (.tuple #[]) ∧ Sift ga gr gm c n L w w' := by
  have HL := Lib.hid h.len
  have H := Lib.hid h
  have HU := Lib.hid hU
  have HN := Lib.hid hn
  unfold hV
  have hm1 := m_less ga
  have hm2 := m_swap ga
  clear h hU hn
  go_enter Try.func56, Try.ntmps56
  go_wp2_with fail
  go_loopg [1, 4] j (fun gk jv _ wr => ∃ (k : Nat) (Lk : List Al), jv = .int .i64 (k : Int) ∧ k ≤ gk ∧ k < n ∧ Hid (Sm Lk L ∧ (∀ q, n ≤ q → at' Lk q = at' L q) ∧ UpI (at' Lk) n k ∧ AlIn wr ga gr gm c Lk ∧ Only (fun q => q = gr ∨ q = gm) w wr))
  case atStart => exact ⟨j, L, rfl, Nat.le_refl _, hj, Lib.hid ⟨Sm.refl _, fun _ _ => rfl, HU.out, H.out, Only.refl _ _⟩⟩
  case round =>
    obtain ⟨k, Lk, rfl, hkg, hkn, HI⟩ := hrel
    by_cases hk0 : k = 0
    · subst hk0
      go_wp2_with fail
      go_end0
      obtain ⟨h1, h2, h3, h4, h5⟩ := HI.out
      exact ⟨rfl, Lk, h1, h2, h3.done fun h => absurd h (by omega), h4, h5⟩
    · obtain ⟨m, hm⟩ : ∃ m, k = m + 1 := ⟨k - 1, by omega⟩
      obtain ⟨p, hp⟩ : ∃ p, p = m / 2 := ⟨_, rfl⟩
      have hlk : Lk.length = L.length := HI.out.1.1
      have hkL : k < Lk.length := by rw [hlk]; have := HN.out; omega
      have hpL : p < Lk.length := by omega
      have HPK : Hid ((k - 1) / 2 = p) := Lib.hid (by rw [hm, hp]; simp)
      have z1 : (k : Int) - 1 = (m : Int) := by omega
      have z2 : (m : Int).tdiv 2 = (p : Int) := by rw [hp]; rfl
      have hne : ¬ p = k := by omega
      have z3 : ((p : Int) == (k : Int)) = false := by simp; omega
      have HLE := Lib.hid (Less_any ga gr gm c Lk k p hkL hpL wr HI.out.2.2.2.1)
      have hpk : p < k := by omega
      have hlim : (k : Int) ≤ 1099511627776 := by have := HL.out; have := HN.out; omega
      cases hls : alt (at' Lk k) (at' Lk p) with
      | false =>
        have HLS := Lib.hid hls
        rw [hls] at HLE
        clear hm hp hlk hkL hpL hls
        go_wp2_with fail
        refine HLE.out.mono ?_
        rintro e w1 ⟨rfl, hb1⟩
        have HB1 := Lib.hid hb1
        clear hb1
        go_wp2_with fail
        go_end0
        obtain ⟨h1, h2, h3, h4, h5⟩ := HI.out
        exact ⟨rfl, Lk, h1, h2, h3.done fun _ => by rw [HPK.out]; exact HLS.out, h4.next HB1.out, h5.next HB1.out⟩
      | true =>
        have HLS := Lib.hid hls
        rw [hls] at HLE
        have HK : Hid (k < Lk.length ∧ p < Lk.length) := Lib.hid ⟨hkL, hpL⟩
        clear hm hp hlk hkL hpL hls
        go_wp2_with fail
        refine HLE.out.mono ?_
        rintro e w1 ⟨rfl, hb1⟩
        have HSW := Lib.hid (Swap_any ga gr gm c Lk p k HK.out.2 HK.out.1 w1 (HI.out.2.2.2.1.next hb1))
        have HB1 := Lib.hid hb1
        clear hb1
        go_wp2_with fail
        refine HSW.out.mono ?_
        rintro e w2 ⟨rfl, h2, ho2⟩
        have HI2 : Hid (Sm (swL Lk p k) L ∧ (∀ q, n ≤ q → at' (swL Lk p k) q = at' L q) ∧ UpI (at' (swL Lk p k)) n p ∧ AlIn w2 ga gr gm c (swL Lk p k) ∧ Only (fun q => q = gr ∨ q = gm) w w2) := by
          obtain ⟨g1, g2, g3, g4, g5⟩ := HI.out
          refine Lib.hid ⟨(Tm.sw_sm HK.out.2 HK.out.1).trans g1, fun q hq => ?_, ?_, h2, (g5.next HB1.out).then ho2⟩
          · rw [Tm.at_sw HK.out.2 HK.out.1, ← g2 q hq]
            unfold Tm.sw
            rw [if_neg (by omega), if_neg (by omega)]
          · rw [Tm.at_sw HK.out.2 HK.out.1, ← HPK.out]
            exact g3.step (by omega) hkn (by rw [HPK.out]; exact HLS.out)
        clear h2 ho2
        go_wp2_with fail
        go_roundg p
        case measure => omega
        case rel => exact ⟨p, swL Lk p k, rfl, Nat.le_refl _, by omega, HI2⟩
end Go.Proofs.Ytckankoaiapcoaa.M

/- Part: TmD. -/
namespace Go.Proofs.Ytckankoaiapcoaa.M
open Go.RowKit Go.Maps
open Tm (Al at' alt swL Pl HpF UpI DnI Sm)

/-- What down leaves. -/
def Down (ga gr gm c n i0 : Nat) (L : List Al) (w : World) (e : Ending) (w' : World) : Prop :=
  ∃ b L', e = .returned (.bool b) ∧ Sm L' L ∧ (∀ k, n ≤ k → at' L' k = at' L k) ∧ AlIn w' ga gr gm c L' ∧ Only (fun k => k = gr ∨ k = gm) w w' ∧ (b = true → HpF (at' L') n) ∧ (b = false → UpI (at' L') n i0)

/-- A child that is the least one. -/
def Kid (f : Nat → Al) (n i j : Nat) : Prop := 0 < j ∧ j < n ∧ (j - 1) / 2 = i ∧ ∀ k, 0 < k → k < n → (k - 1) / 2 = i → alt (f k) (f j) = false


set_option maxRecDepth 20000 in
set_option maxHeartbeats 3200000 in
theorem down_any (ga gr gm c n : Nat) (L : List Al) (i0 : Nat) (hn : n ≤ L.length) (hi0 : i0 ≤ 1099511627776) (w : World) (h : AlIn w ga gr gm c L) (hD : DnI (at' L) n i0 i0) :
    Calls Try.prog 55 #[hV ga, .int .i64 (i0 : Int), .int .i64 (n : Int)] w (Down ga gr gm c n i0 L w) := by
  have HL := Lib.hid h.len
  have hnl : (n : Int) ≤ 1099511627776 := by have := h.len; omega
  have H := Lib.hid h
  have HD := Lib.hid hD
  have HN := Lib.hid hn
  unfold hV
  have hm1 := m_less ga
  have hm2 := m_swap ga
  clear h hD hn
  go_enter Try.func55, Try.ntmps55
  go_wp2_with fail
  go_loopg [7, 8, 9, 10] (n - i0) (fun gk iv _ _ _ wr => ∃ (k : Nat) (Lk : List Al), iv = .int .i64 (k : Int) ∧ n - k ≤ gk ∧ Hid (i0 ≤ k) ∧ (k : Int) ≤ 1099511627776 ∧ Hid (Sm Lk L ∧ (∀ q, n ≤ q → at' Lk q = at' L q) ∧ DnI (at' Lk) n i0 k ∧ AlIn wr ga gr gm c Lk ∧ Only (fun q => q = gr ∨ q = gm) w wr))
  case atStart => exact ⟨i0, L, rfl, Nat.le_refl _, Lib.hid (Nat.le_refl _), by omega, Lib.hid ⟨Sm.refl _, fun _ _ => rfl, HD.out, H.out, Only.refl _ _⟩⟩
  case round =>
    obtain ⟨i, Lk, rfl, hkg, HII, hil, HI⟩ := hrel
    obtain ⟨d, hd⟩ : ∃ d, d = 2 * i := ⟨_, rfl⟩
    obtain ⟨a, ha⟩ : ∃ a, a = d + 1 := ⟨_, rfl⟩
    obtain ⟨b, hb⟩ : ∃ b, b = a + 1 := ⟨_, rfl⟩
    have z1 : 2 * (i : Int) = (d : Int) := by omega
    have z2 : (d : Int) + 1 = (a : Int) := by omega
    have z3 : (a : Int) + 1 = (b : Int) := by omega
    have zl : (d : Int) ≤ 2199023255552 := by omega
    have za : (a : Int) ≤ 2199023255553 := by omega
    have HA : Hid (a = 2 * i + 1 ∧ b = 2 * i + 2) := Lib.hid ⟨by omega, by omega⟩
    clear hd ha hb
    by_cases han : a < n
    · have han2 : ¬ (n : Int) ≤ (a : Int) := by omega
      have han3 : (a : Int) < (n : Int) := by omega
      by_cases hbn : b < n
      · have hbn2 : (b : Int) < (n : Int) := by omega
        have haL : a < Lk.length := by rw [HI.out.1.1]; have := HN.out; omega
        have hbL : b < Lk.length := by rw [HI.out.1.1]; have := HN.out; omega
        have HLE := Lib.hid (Less_any ga gr gm c Lk b a hbL haL wr HI.out.2.2.2.1)
        cases hc : alt (at' Lk b) (at' Lk a) with
        | false =>
          rw [hc] at HLE
          obtain ⟨jj, hjj⟩ : ∃ jj, jj = a := ⟨_, rfl⟩
          have HJ : Hid (Kid (at' Lk) n i jj) := Lib.hid ⟨by have := HA.out; omega, by omega, by have := HA.out; omega, fun k h1 h2 h3 => by
            have hA := HA.out
            have : k = a ∨ k = b := by omega
            rcases this with rfl | rfl
            · rw [hjj]; exact Tm.alt_irr _
            · rw [hjj]; exact hc⟩
          clear hc haL hbL
          subst hjj
          go_wp2_with fail
          refine HLE.out.mono ?_
          rintro e wq ⟨rfl, hbq⟩
          have HQ : Hid (Sm Lk L ∧ (∀ q, n ≤ q → at' Lk q = at' L q) ∧ DnI (at' Lk) n i0 i ∧ AlIn wq ga gr gm c Lk ∧ Only (fun q => q = gr ∨ q = gm) w wq) := Lib.hid ⟨HI.out.1, HI.out.2.1, HI.out.2.2.1, HI.out.2.2.2.1.next hbq, HI.out.2.2.2.2.next hbq⟩
          clear hbq
          have hjL : jj < Lk.length := by rw [HI.out.1.1]; have := HN.out; have := HJ.out.2.1; omega
          have hiL : i < Lk.length := by have := HJ.out; omega
          have HLE2 := Lib.hid (Less_any ga gr gm c Lk jj i hjL hiL wq HQ.out.2.2.2.1)
          have HK : Hid (jj < Lk.length ∧ i < Lk.length) := Lib.hid ⟨hjL, hiL⟩
          cases hls : alt (at' Lk jj) (at' Lk i) with
          | false =>
            have HLS := Lib.hid hls
            rw [hls] at HLE2
            have hkids : ∀ k, 0 < k → k < n → (k - 1) / 2 = i → alt (at' Lk k) (at' Lk i) = false := fun k h1 h2 h3 => Tm.nlt_trans (HJ.out.2.2.2 k h1 h2 h3) HLS.out
            have HKI := Lib.hid hkids
            by_cases hii : i0 < i
            · have hii2 : (i0 : Int) < (i : Int) := by omega
              clear hls hjL hiL hkids
              go_wp2_with fail
              refine HLE2.out.mono ?_
              rintro e w9 ⟨rfl, hb9⟩
              have HB9 := Lib.hid hb9
              clear hb9
              go_wp2_with fail
              go_ret
              obtain ⟨h1, h2, h3, h4, h5⟩ := HQ.out
              exact ⟨true, Lk, rfl, h1, h2, h4.next HB9.out, h5.next HB9.out, fun _ => h3.done HKI.out (by omega), fun h => by cases h⟩
            · have hii2 : ¬ (i0 : Int) < (i : Int) := by omega
              clear hls hjL hiL hkids
              go_wp2_with fail
              refine HLE2.out.mono ?_
              rintro e w9 ⟨rfl, hb9⟩
              have HB9 := Lib.hid hb9
              clear hb9
              go_wp2_with fail
              go_ret
              obtain ⟨h1, h2, h3, h4, h5⟩ := HQ.out
              have e : i = i0 := by have := HII.out; omega
              subst e
              exact ⟨false, Lk, rfl, h1, h2, h4.next HB9.out, h5.next HB9.out, fun h => (by cases h), fun _ => h3.up HKI.out⟩
          | true =>
            have HLS := Lib.hid hls
            rw [hls] at HLE2
            clear hls hjL hiL
            go_wp2_with fail
            refine HLE2.out.mono ?_
            rintro e w9 ⟨rfl, hb9⟩
            have HSW := Lib.hid (Swap_any ga gr gm c Lk i jj HK.out.2 HK.out.1 w9 (HQ.out.2.2.2.1.next hb9))
            have HB9 := Lib.hid hb9
            clear hb9
            go_wp2_with fail
            refine HSW.out.mono ?_
            rintro e w2 ⟨rfl, h2, ho2⟩
            have HI2 : Hid (Sm (swL Lk i jj) L ∧ (∀ q, n ≤ q → at' (swL Lk i jj) q = at' L q) ∧ DnI (at' (swL Lk i jj)) n i0 jj ∧ AlIn w2 ga gr gm c (swL Lk i jj) ∧ Only (fun q => q = gr ∨ q = gm) w w2) := by
              obtain ⟨g1, g2, g3, g4, g5⟩ := HQ.out
              have hJ := HJ.out
              refine Lib.hid ⟨(Tm.sw_sm HK.out.2 HK.out.1).trans g1, fun q hq => ?_, ?_, h2, (g5.next HB9.out).then ho2⟩
              · rw [Tm.at_sw HK.out.2 HK.out.1, ← g2 q hq]
                unfold Tm.sw
                rw [if_neg (by omega), if_neg (by omega)]
              · rw [Tm.at_sw HK.out.2 HK.out.1]
                exact g3.step HII.out hJ.1 hJ.2.1 hJ.2.2.1 HLS.out hJ.2.2.2
            clear h2 ho2
            go_wp2_with fail
            go_roundg (n - jj)
            case measure => have := HJ.out; omega
            case rel => exact ⟨jj, swL Lk i jj, rfl, Nat.le_refl _, Lib.hid (by have := HJ.out; have := HII.out; omega), by have := HJ.out; have := HN.out; have := HL.out; omega, HI2⟩
        | true =>
          rw [hc] at HLE
          obtain ⟨jj, hjj⟩ : ∃ jj, jj = b := ⟨_, rfl⟩
          have HJ : Hid (Kid (at' Lk) n i jj) := Lib.hid ⟨by have := HA.out; omega, by omega, by have := HA.out; omega, fun k h1 h2 h3 => by
            have hA := HA.out
            have : k = a ∨ k = b := by omega
            rcases this with rfl | rfl
            · rw [hjj]; exact Tm.alt_asymm hc
            · rw [hjj]; exact Tm.alt_irr _⟩
          clear hc haL hbL
          subst hjj
          go_wp2_with fail
          refine HLE.out.mono ?_
          rintro e wq ⟨rfl, hbq⟩
          have HQ : Hid (Sm Lk L ∧ (∀ q, n ≤ q → at' Lk q = at' L q) ∧ DnI (at' Lk) n i0 i ∧ AlIn wq ga gr gm c Lk ∧ Only (fun q => q = gr ∨ q = gm) w wq) := Lib.hid ⟨HI.out.1, HI.out.2.1, HI.out.2.2.1, HI.out.2.2.2.1.next hbq, HI.out.2.2.2.2.next hbq⟩
          clear hbq
          have hjL : jj < Lk.length := by rw [HI.out.1.1]; have := HN.out; have := HJ.out.2.1; omega
          have hiL : i < Lk.length := by have := HJ.out; omega
          have HLE2 := Lib.hid (Less_any ga gr gm c Lk jj i hjL hiL wq HQ.out.2.2.2.1)
          have HK : Hid (jj < Lk.length ∧ i < Lk.length) := Lib.hid ⟨hjL, hiL⟩
          cases hls : alt (at' Lk jj) (at' Lk i) with
          | false =>
            have HLS := Lib.hid hls
            rw [hls] at HLE2
            have hkids : ∀ k, 0 < k → k < n → (k - 1) / 2 = i → alt (at' Lk k) (at' Lk i) = false := fun k h1 h2 h3 => Tm.nlt_trans (HJ.out.2.2.2 k h1 h2 h3) HLS.out
            have HKI := Lib.hid hkids
            by_cases hii : i0 < i
            · have hii2 : (i0 : Int) < (i : Int) := by omega
              clear hls hjL hiL hkids
              go_wp2_with fail
              refine HLE2.out.mono ?_
              rintro e w9 ⟨rfl, hb9⟩
              have HB9 := Lib.hid hb9
              clear hb9
              go_wp2_with fail
              go_ret
              obtain ⟨h1, h2, h3, h4, h5⟩ := HQ.out
              exact ⟨true, Lk, rfl, h1, h2, h4.next HB9.out, h5.next HB9.out, fun _ => h3.done HKI.out (by omega), fun h => by cases h⟩
            · have hii2 : ¬ (i0 : Int) < (i : Int) := by omega
              clear hls hjL hiL hkids
              go_wp2_with fail
              refine HLE2.out.mono ?_
              rintro e w9 ⟨rfl, hb9⟩
              have HB9 := Lib.hid hb9
              clear hb9
              go_wp2_with fail
              go_ret
              obtain ⟨h1, h2, h3, h4, h5⟩ := HQ.out
              have e : i = i0 := by have := HII.out; omega
              subst e
              exact ⟨false, Lk, rfl, h1, h2, h4.next HB9.out, h5.next HB9.out, fun h => (by cases h), fun _ => h3.up HKI.out⟩
          | true =>
            have HLS := Lib.hid hls
            rw [hls] at HLE2
            clear hls hjL hiL
            go_wp2_with fail
            refine HLE2.out.mono ?_
            rintro e w9 ⟨rfl, hb9⟩
            have HSW := Lib.hid (Swap_any ga gr gm c Lk i jj HK.out.2 HK.out.1 w9 (HQ.out.2.2.2.1.next hb9))
            have HB9 := Lib.hid hb9
            clear hb9
            go_wp2_with fail
            refine HSW.out.mono ?_
            rintro e w2 ⟨rfl, h2, ho2⟩
            have HI2 : Hid (Sm (swL Lk i jj) L ∧ (∀ q, n ≤ q → at' (swL Lk i jj) q = at' L q) ∧ DnI (at' (swL Lk i jj)) n i0 jj ∧ AlIn w2 ga gr gm c (swL Lk i jj) ∧ Only (fun q => q = gr ∨ q = gm) w w2) := by
              obtain ⟨g1, g2, g3, g4, g5⟩ := HQ.out
              have hJ := HJ.out
              refine Lib.hid ⟨(Tm.sw_sm HK.out.2 HK.out.1).trans g1, fun q hq => ?_, ?_, h2, (g5.next HB9.out).then ho2⟩
              · rw [Tm.at_sw HK.out.2 HK.out.1, ← g2 q hq]
                unfold Tm.sw
                rw [if_neg (by omega), if_neg (by omega)]
              · rw [Tm.at_sw HK.out.2 HK.out.1]
                exact g3.step HII.out hJ.1 hJ.2.1 hJ.2.2.1 HLS.out hJ.2.2.2
            clear h2 ho2
            go_wp2_with fail
            go_roundg (n - jj)
            case measure => have := HJ.out; omega
            case rel => exact ⟨jj, swL Lk i jj, rfl, Nat.le_refl _, Lib.hid (by have := HJ.out; have := HII.out; omega), by have := HJ.out; have := HN.out; have := HL.out; omega, HI2⟩
      · have hbn2 : ¬ (b : Int) < (n : Int) := by omega
        obtain ⟨jj, hjj⟩ : ∃ jj, jj = a := ⟨_, rfl⟩
        obtain ⟨wq, hwq⟩ : ∃ wq, wq = wr := ⟨_, rfl⟩
        have HJ : Hid (Kid (at' Lk) n i jj) := Lib.hid ⟨by have := HA.out; omega, by omega, by have := HA.out; omega, fun k h1 h2 h3 => by
          have hA := HA.out
          have : k = a := by omega
          rw [this, hjj]; exact Tm.alt_irr _⟩
        have HQ : Hid (Sm Lk L ∧ (∀ q, n ≤ q → at' Lk q = at' L q) ∧ DnI (at' Lk) n i0 i ∧ AlIn wq ga gr gm c Lk ∧ Only (fun q => q = gr ∨ q = gm) w wq) := Lib.hid (by rw [hwq]; exact HI.out)
        subst hjj
        subst hwq
        have hjL : jj < Lk.length := by rw [HI.out.1.1]; have := HN.out; have := HJ.out.2.1; omega
        have hiL : i < Lk.length := by have := HJ.out; omega
        have HLE2 := Lib.hid (Less_any ga gr gm c Lk jj i hjL hiL wq HQ.out.2.2.2.1)
        have HK : Hid (jj < Lk.length ∧ i < Lk.length) := Lib.hid ⟨hjL, hiL⟩
        cases hls : alt (at' Lk jj) (at' Lk i) with
        | false =>
          have HLS := Lib.hid hls
          rw [hls] at HLE2
          have hkids : ∀ k, 0 < k → k < n → (k - 1) / 2 = i → alt (at' Lk k) (at' Lk i) = false := fun k h1 h2 h3 => Tm.nlt_trans (HJ.out.2.2.2 k h1 h2 h3) HLS.out
          have HKI := Lib.hid hkids
          by_cases hii : i0 < i
          · have hii2 : (i0 : Int) < (i : Int) := by omega
            clear hls hjL hiL hkids
            go_wp2_with fail
            refine HLE2.out.mono ?_
            rintro e w9 ⟨rfl, hb9⟩
            have HB9 := Lib.hid hb9
            clear hb9
            go_wp2_with fail
            go_ret
            obtain ⟨h1, h2, h3, h4, h5⟩ := HQ.out
            exact ⟨true, Lk, rfl, h1, h2, h4.next HB9.out, h5.next HB9.out, fun _ => h3.done HKI.out (by omega), fun h => by cases h⟩
          · have hii2 : ¬ (i0 : Int) < (i : Int) := by omega
            clear hls hjL hiL hkids
            go_wp2_with fail
            refine HLE2.out.mono ?_
            rintro e w9 ⟨rfl, hb9⟩
            have HB9 := Lib.hid hb9
            clear hb9
            go_wp2_with fail
            go_ret
            obtain ⟨h1, h2, h3, h4, h5⟩ := HQ.out
            have e : i = i0 := by have := HII.out; omega
            subst e
            exact ⟨false, Lk, rfl, h1, h2, h4.next HB9.out, h5.next HB9.out, fun h => (by cases h), fun _ => h3.up HKI.out⟩
        | true =>
          have HLS := Lib.hid hls
          rw [hls] at HLE2
          clear hls hjL hiL
          go_wp2_with fail
          refine HLE2.out.mono ?_
          rintro e w9 ⟨rfl, hb9⟩
          have HSW := Lib.hid (Swap_any ga gr gm c Lk i jj HK.out.2 HK.out.1 w9 (HQ.out.2.2.2.1.next hb9))
          have HB9 := Lib.hid hb9
          clear hb9
          go_wp2_with fail
          refine HSW.out.mono ?_
          rintro e w2 ⟨rfl, h2, ho2⟩
          have HI2 : Hid (Sm (swL Lk i jj) L ∧ (∀ q, n ≤ q → at' (swL Lk i jj) q = at' L q) ∧ DnI (at' (swL Lk i jj)) n i0 jj ∧ AlIn w2 ga gr gm c (swL Lk i jj) ∧ Only (fun q => q = gr ∨ q = gm) w w2) := by
            obtain ⟨g1, g2, g3, g4, g5⟩ := HQ.out
            have hJ := HJ.out
            refine Lib.hid ⟨(Tm.sw_sm HK.out.2 HK.out.1).trans g1, fun q hq => ?_, ?_, h2, (g5.next HB9.out).then ho2⟩
            · rw [Tm.at_sw HK.out.2 HK.out.1, ← g2 q hq]
              unfold Tm.sw
              rw [if_neg (by omega), if_neg (by omega)]
            · rw [Tm.at_sw HK.out.2 HK.out.1]
              exact g3.step HII.out hJ.1 hJ.2.1 hJ.2.2.1 HLS.out hJ.2.2.2
          clear h2 ho2
          go_wp2_with fail
          go_roundg (n - jj)
          case measure => have := HJ.out; omega
          case rel => exact ⟨jj, swL Lk i jj, rfl, Nat.le_refl _, Lib.hid (by have := HJ.out; have := HII.out; omega), by have := HJ.out; have := HN.out; have := HL.out; omega, HI2⟩
    · have han2 : (n : Int) ≤ (a : Int) := by omega
      have HKI : Hid (∀ k, 0 < k → k < n → (k - 1) / 2 = i → alt (at' Lk k) (at' Lk i) = false) := Lib.hid fun k h1 h2 h3 => by have := HA.out; omega
      by_cases hii : i0 < i
      · have hii2 : (i0 : Int) < (i : Int) := by omega
        go_wp2_with fail
        go_ret
        obtain ⟨h1, h2, h3, h4, h5⟩ := HI.out
        exact ⟨true, Lk, rfl, h1, h2, h4, h5, fun _ => h3.done HKI.out (by omega), fun h => by cases h⟩
      · have hii2 : ¬ (i0 : Int) < (i : Int) := by omega
        go_wp2_with fail
        go_ret
        obtain ⟨h1, h2, h3, h4, h5⟩ := HI.out
        have e : i = i0 := by have := HII.out; omega
        subst e
        exact ⟨false, Lk, rfl, h1, h2, h4, h5, fun h => (by cases h), fun _ => h3.up HKI.out⟩
end Go.Proofs.Ytckankoaiapcoaa.M
