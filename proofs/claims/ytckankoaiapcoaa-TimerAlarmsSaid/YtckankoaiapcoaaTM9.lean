/- Package timer: a queue of alarms: how many there are; one more. Package timer: a queue's last one goes. container/heap over alarms: Push, Fix, Pop, Remove. Package timer: alarms as a list by rising times; how many, the least time, a key's time. Package timer: Set. Package timer: Clear. -/
import Derived.Test.YtckankoaiapcoaaTM8
/- Part: TmE. -/
namespace Go.Proofs.Ytckankoaiapcoaa.M
open Go.RowKit Go.Maps
open Tm (Al at' alt swL Pl HpF UpI DnI Sm)

/-- Alarms in memory, their blocks in X; none at all have no rows and no places. -/
def Alm (w : World) (X : Nat → Prop) (ga : Nat) (L : List Al) : Prop :=
  (L = [] ∧ w.heap[ga]? = some (.cells #[.slice none 0 0, .map none] 42) ∧ X ga) ∨ ∃ gr gm c, L ≠ [] ∧ AlIn w ga gr gm c L ∧ X ga ∧ X gr ∧ X gm

theorem Alm.ga {w : World} {X : Nat → Prop} {ga : Nat} {L : List Al} (h : Alm w X ga L) : X ga ∧ ga < w.heap.size := by
  rcases h with ⟨_, h, hx⟩ | ⟨gr, gm, c, _, h, hx, _⟩
  · exact ⟨hx, lt_of_heap h⟩
  · exact ⟨hx, h.lt.1⟩

theorem Alm.same {w w' : World} {X Y : Nat → Prop} {ga : Nat} {L : List Al} (h : Alm w X ga L) (hX : ∀ k, X k → Y k) (hs : ∀ k, X k → k < w.heap.size → w'.heap[k]? = w.heap[k]?) : Alm w' Y ga L := by
  rcases h with ⟨h0, h, hx⟩ | ⟨gr, gm, c, h0, h, hx, hy, hz⟩
  · exact .inl ⟨h0, (hs ga hx (lt_of_heap h)).trans h, hX _ hx⟩
  · exact .inr ⟨gr, gm, c, h0, h.same (hs _ hx h.lt.1) (hs _ hy h.lt.2.1) (hs _ hz h.lt.2.2), hX _ hx, hX _ hy, hX _ hz⟩

theorem Alm.next {w w' : World} {X : Nat → Prop} {ga : Nat} {L : List Al} (h : Alm w X ga L) (hb : Below w.heap.size w w') : Alm w' X ga L := h.same (fun _ h => h) fun k _ hk => hb.block k hk

/-- The box, whatever there is. -/
theorem Alm.box {w : World} {X : Nat → Prop} {ga : Nat} {L : List Al} (h : Alm w X ga L) : ∃ a c mv, w.heap[ga]? = some (.cells #[.slice a L.length c, mv] 42) ∧ L.length ≤ 1099511627776 := by
  rcases h with ⟨rfl, h, _⟩ | ⟨gr, gm, c, _, h, _⟩
  · exact ⟨_, _, _, h, by simp⟩
  · exact ⟨_, _, _, h.box, h.len⟩

theorem len_any (ga : Nat) (L : List Al) (X : Nat → Prop) (w : World) (h : Alm w X ga L) :
    Calls Try.prog 40 #[.pointer (some ⟨ga, 0, none⟩)] w fun e w' => e = .returned (.int .i64 (L.length : Int)) ∧ w' = w := by
  obtain ⟨a, c, mv, hb, hl⟩ := h.box
  obtain ⟨b0, b1, bz0, bz1, bz⟩ := block2' hb
  obtain ⟨n, hn⟩ : ∃ n, n = L.length := ⟨_, rfl⟩
  rw [← hn] at b0 hl ⊢
  clear h hb hn
  go_enter Try.func40, Try.ntmps40
  go_wp2_with fail
  go_ret
  exact ⟨rfl, rfl⟩

theorem assert_alarm (v : Value) (w : World) : (Instr.typeAssert (.iface 76 v) 20 76 true).run Try.prog w = .ok (.tuple #[v, .bool true]) w := by kernel_rfl

theorem infoAlarm : (Try.prog.info? 76).map (fun i => (i.zero, i.size, i.bytes)) = some (some (.agg #[.int .i64 0, .int .i64 0]), 2, 16) := by kernel_rfl

theorem wp_append_run {P : Program} (w : World) {o : Oper} {a : Act} {K : Act → World → Prop} {Q : Exit → Act → World → Prop} (s y : Operand) (t : TypeId)
    (ho : o.op = .call { callee := .builtin .append, args := #[s, y], argTypes := #[t, t] }) (v x v' : Value) (w' : World) (hs : a.eval s = v) (hy : a.eval y = x)
    (hr : (Builtin.append_ #[t, t] o.type #[v, x]).run P w = .ok v' w') (h : K (a.put o.dst v') w') : o.wp P a w K Q := by
  unfold Oper.wp execOp
  simp only [ho, resolve, invoke, builtin, Sem.run_bind, Sem.run_pure, Result.andThen_ok, List.map_toArray, List.map_cons, List.map_nil, hs, hy, hr]
  exact h



set_option maxRecDepth 20000 in
set_option maxHeartbeats 3200000 in
/-- One more. -/
theorem Push_any (ga : Nat) (X : Nat → Prop) (L : List Al) (a : Al) (ha : In1 a.1 ∧ In1 a.2) (hk : ∀ x ∈ L, x.2 ≠ a.2) (hlen : L.length < 1000000000) (w : World) (h : Alm w X ga L) :
    Calls Try.prog 148 #[.pointer (some ⟨ga, 0, none⟩), .iface 76 (.agg #[.int .i64 a.1, .int .i64 a.2])] w fun e w' => e = .returned (.tuple #[]) ∧ Only X w w' ∧ ∃ gr' gm' c', AlIn w' ga gr' gm' c' (L ++ [a]) ∧ More X w w' ga ∧ More X w w' gr' ∧ More X w w' gm' := by
  obtain ⟨a1, a2⟩ := a
  obtain ⟨W, hW⟩ : ∃ W, W = w.alloc (.cells #[.int .i64 a1, .int .i64 a2] 76) := ⟨_, rfl⟩
  obtain ⟨gx, hgx⟩ : ∃ gx, gx = w.heap.size := ⟨_, rfl⟩
  have hbW : Below w.heap.size w W := by rw [hW]; exact below_alloc _ _
  have hx : W.heap[gx]? = some (.cells #[.int .i64 a1, .int .i64 a2] 76) := by rw [hW]; exact heap_new _ _ _ hgx
  have qT : ∀ (w : World) (r : Option Nat), (binOp .eql 38 (.map r) (.map none)).run Try.prog w = .ok (.bool r.isNone) w := fun w r => run_eql_map_nil w _ _ _ r Try.underlying38
  have qA := assert_alarm
  have hW' := Lib.hid hW
  have HGX := Lib.hid hgx
  have HXA : Hid (gx ≠ ga) := Lib.hid (by have := h.ga.2; omega)
  obtain ⟨n, hn⟩ : ∃ n, n = L.length := ⟨_, rfl⟩
  have HN := Lib.hid hn
  rcases h with ⟨hL, hbox, hXa⟩ | ⟨gr, gm, c, -, h, hXa, hXr, hXm⟩
  · have HGA := Lib.hid hXa
    have hn0 : n = 0 := by rw [hn, hL]; rfl
    obtain ⟨gm, hgm⟩ : ∃ gm, gm = gx + 1 := ⟨_, rfl⟩
    obtain ⟨U, hU⟩ : ∃ U, U = (w.setCell ⟨ga, 1, none⟩ (.map (some gm))).alloc (.cells #[.int .i64 a1, .int .i64 a2] 76) := ⟨_, rfl⟩
    obtain ⟨V, hV⟩ : ∃ V, V = U.alloc (.map #[] 0) := ⟨_, rfl⟩
    have hal : ga < w.heap.size := lt_of_heap hbox
    have hUs : U.heap.size = gm := by rw [hU]; simp; omega
    have hboxV : V.heap[ga]? = some (.cells #[.slice none 0 0, .map (some gm)] 42) := by rw [hV, hU]; exact old_alloc (old_alloc (heap_set2 hbox).2)
    have hoV : Only (fun k => k = ga) w V := by rw [hV, hU]; exact ((Only.set (X := fun k => k = ga) (Only.refl _ w) (.inl rfl) _).alloc _).alloc _
    have hgxa := HXA.out
    have hgma : gm ≠ ga := by omega
    have hKM : KM V gm 0 (fun _ => none) := by rw [hV, ← hUs]; exact KM.made U
    have hxV : V.heap[gx]? = some (.cells #[.int .i64 a1, .int .i64 a2] 76) := by rw [hV, hU]; exact old_alloc (heap_new _ _ _ (by simpa using hgx))
    obtain ⟨W1, hrun1, hp1, hg1, hz1⟩ := (hKM.same (w' := V.drew) rfl).store (by omega) ha.2 (v := 0) (by unfold In1; omega)
    simp only [Option.isSome_none, Bool.false_eq_true, if_false] at hp1
    obtain ⟨p, hp⟩ : ∃ p : Int → Option Int, p = fun _ => none := ⟨_, rfl⟩
    rw [← hp] at hp1
    have hp1 : KM W1 gm (n + 1) (Tm.upd p a2 (n : Int)) := by rw [hn0]; exact hp1
    have HPL : Hid (Pl p L ∧ p a2 = none) := Lib.hid (by rw [hp, hL]; exact ⟨Tm.Pl.zero, rfl⟩)
    have HRG : Hid (Rg L ∧ In1 a1 ∧ In1 a2) := Lib.hid ⟨(fun x hx => by rw [hL] at hx; simp at hx), ha⟩
    obtain ⟨b0, b1, bz0, bz1, bz⟩ := block2' hbox
    obtain ⟨x0, x1, xz0, xz1, xz⟩ := block2' hxV
    obtain ⟨y0, y1, yz0, yz1, yz⟩ := block2' hboxV
    have ho1 : Only (fun k => k = gm) V W1 := (Only.refl (fun k => k = gm) V).drawn.then (only_of_grown hg1 fun k hk => by cases hk; rfl)
    have hx1 := (ho1.block gx xz (by omega)).trans hxV
    have hB1 := (ho1.block ga yz (fun e => hgma e.symm)).trans hboxV
    have hrow1 : W1.ownsRow 0 76 2 (.slice none 0 0) n (alCells L) := by rw [hn0, hL]; exact World.ownsRow_nil _ _ _ _
    obtain ⟨rb, hrb⟩ : ∃ rb, rb = (Value.slice none 0 0).ownBlock := ⟨_, rfl⟩
    have HRV : Hid (rb = (Value.slice none 0 0).ownBlock) := Lib.hid hrb
    have HRB : Hid (∀ k, (Value.slice none 0 0).ownBlock = some k → (X k ∨ w.heap.size ≤ k) ∧ k < W1.heap.size ∧ k ≠ ga ∧ k ≠ gm ∧ k ≠ gx) := Lib.hid fun k hk => by cases hk
    have HX1 : Hid (Only X w W1) := Lib.hid (Only.thn (hoV.mono fun k hk => by rw [hk]; exact hXa) (fun k hk => .inr (by rw [hk]; omega)) ho1)
    have HGM : Hid (gm ≠ ga ∧ (X gm ∨ w.heap.size ≤ gm)) := Lib.hid ⟨hgma, .inr (by omega)⟩
    have HP1 : Hid (gm < W1.heap.size) := Lib.hid hp1.lt
    have HGM2 := Lib.hid hgm
    have HV := Lib.hid hV
    have HU := Lib.hid hU
    have hmm := @run_makeMap Try.prog
    have hlen : n < 1000000000 := by omega
    clear hn0 hL hW hgx hn hp hk ha hbW hx hXa hg1 ho1 hrb hgm hV hU hUs hboxV hoV hgxa hgma hKM hxV hal hbox
    go_enter Try.func148, Try.ntmps148
    go_wp2_with fail
    rw [← HGX.out, ← HGM2.out, ← HU.out, ← HV.out]
    go_still_tail 11, (by kernel_rfl)
    go_wp2_with fail
    clear hrun1 x0 x1 xz0 xz1 xz y0 y1 yz0 yz1 yz hz1 b0 b1 bz0 bz1 bz hmm
    obtain ⟨v0, v1, vf, -, vz⟩ := block2' hB1
    obtain ⟨u0, u1, -, -, uz⟩ := block2' hx1
    obtain ⟨ib, hib, hib0, hib1, hib2⟩ := info_parts infoAlarm
    obtain ⟨W2, hW2⟩ : ∃ W2, W2 = (W1.alloc (.cells #[.int .i64 a1, .int .i64 a2] 76)) := ⟨_, rfl⟩
    obtain ⟨g2, hg2⟩ : ∃ g, g = W1.heap.size := ⟨_, rfl⟩
    have hb2 : Below W1.heap.size W1 W2 := by rw [hW2]; exact below_alloc _ _
    have hx2 : W2.heap[g2]? = some (.cells #[.int .i64 a1, .int .i64 a2] 76) := by rw [hW2]; exact heap_new _ _ _ hg2
    have hrow2 := ownsRow_same hrow1 (w' := W2.drew) fun k hk => hb2.block k (HRB.out k hk).2.1
    obtain ⟨v', W3, hrun3, hown3, hg3, hv3⟩ := run_append_any (P := Try.prog) W2.drew 0 37 37 76 ib (.agg #[.int .i64 0, .int .i64 0]) 2 16 Try.underlying37 hib hib0 hib1 hib2 rfl (by decide) _ _ _ hrow2 (.slice (some ⟨g2, 0, none⟩) 1 1) 1 [.int .i64 a1, .int .i64 a2]
      ⟨rfl, by intro u hu; simp at hu; rcases hu with rfl | rfl <;> rfl, .inr ⟨_, _, rfl, fun j u hj => by
        obtain ⟨c0, c1, _⟩ := block2' hx2
        match j, hj with
        | 0, hj => cases hj; exact c0
        | 1, hj => cases hj; exact c1⟩⟩ (by unfold maxLen; omega) (by omega) (Nat.zero_le _)
    obtain ⟨va, vc, hvv⟩ := owned_slice hown3
    have o3 : Only (fun k => rb = some k) W2 W3 := Only.then (only_drew _ W2) (only_of_grown hg3 fun k hk => by rw [HRV.out]; exact hk)
    have hra : rb ≠ some ga := fun e => (HRB.out ga (by rw [← HRV.out]; exact e)).2.2.1 rfl
    have hrm : rb ≠ some gm := fun e => (HRB.out gm (by rw [← HRV.out]; exact e)).2.2.2.1 rfl
    have hrx : rb ≠ some gx := fun e => (HRB.out gx (by rw [← HRV.out]; exact e)).2.2.2.2 rfl
    have hblk : ∀ k, k < W1.heap.size → rb ≠ some k → W3.heap[k]? = W1.heap[k]? := fun k hk hn => (o3.block k (Nat.lt_of_lt_of_le hk hb2.size) hn).trans (hb2.block k hk)
    have t0 := (World.cell?_of_block (a := ⟨ga, 0, none⟩) (hblk ga vz hra)).trans v0
    have tf := (World.frozen?_of_block (a := ⟨ga, 0, none⟩) (hblk ga vz hra)).trans vf
    have tz : ga < W3.heap.size := Nat.lt_of_lt_of_le (Nat.lt_of_lt_of_le vz hb2.size) o3.size
    have HF : Hid (Only X w (W3.setCell ⟨ga, 0, none⟩ (.slice va (n + 1) vc)) ∧ ∃ gr' gm' c', AlIn (W3.setCell ⟨ga, 0, none⟩ (.slice va (n + 1) vc)) ga gr' gm' c' (L ++ [(a1, a2)]) ∧ More X w (W3.setCell ⟨ga, 0, none⟩ (.slice va (n + 1) vc)) ga ∧ More X w (W3.setCell ⟨ga, 0, none⟩ (.slice va (n + 1) vc)) gr' ∧ More X w (W3.setCell ⟨ga, 0, none⟩ (.slice va (n + 1) vc)) gm') := by
      refine Lib.hid ?_
      have hoX : Only X w (W3.setCell ⟨ga, 0, none⟩ (.slice va (n + 1) vc)) := by
        refine Only.set (Only.thn (HX1.out.next hb2) (fun k hk => (HRB.out k (by rw [← HRV.out]; exact hk)).1) o3) (.inl HGA.out) _
      refine ⟨hoX, ?_⟩
      subst hvv
      obtain ⟨g', hg', hgb⟩ : ∃ g', va = some ⟨g', 0, none⟩ ∧ (Value.slice va (n + 1) vc).ownBlock = some g' := by
        rcases hown3.2 with ⟨h1, h2⟩ | ⟨g, cap, cur, hv, _⟩
        · omega
        · cases hv
          exact ⟨g, rfl, rfl⟩
      subst hg'
      have hg'a : g' ≠ ga := fun e => by
        rcases hv3 with h | h
        · rw [hgb, ← HRV.out, e] at h; exact hra h.symm
        · rw [hgb] at h
          have := Option.some.inj h
          have : W2.drew.heap.size = W2.heap.size := rfl
          have := hb2.size
          omega
      have hsz3 : (W3.setCell ⟨ga, 0, none⟩ (.slice (some ⟨g', 0, none⟩) (n + 1) vc)).heap.size = W3.heap.size := by simp
      have hg'X : X g' ∨ (w.heap.size ≤ g' ∧ g' < W3.heap.size) := by
        rcases hv3 with h | h
        · rw [hgb] at h
          have h3 := HRB.out g' h.symm
          rcases h3.1 with h4 | h4
          · exact .inl h4
          · exact .inr ⟨h4, Nat.lt_of_lt_of_le (Nat.lt_of_lt_of_le h3.2.1 hb2.size) o3.size⟩
        · have h5 := (hown3.lt g' hgb).2
          rw [hgb] at h
          have h6 := Option.some.inj h
          have h7 : W2.drew.heap.size = W2.heap.size := rfl
          have := hb2.size
          have := HX1.out.size
          exact .inr ⟨by omega, h5⟩
      have hll : (L ++ [(a1, a2)]).length = n + 1 := by rw [List.length_append, ← HN.out]; rfl
      refine ⟨g', gm, vc, ⟨?_, ?_, ⟨Tm.upd p a2 (n : Int), ?_, ?_⟩, ?_, ?_⟩, .inl HGA.out, ?_, ?_⟩
      · rw [hll]
        exact (heap_set2 ((hblk ga vz hra).trans hB1)).1
      · rw [hll]
        have e : alCells (L ++ [(a1, a2)]) = alCells L ++ [.int .i64 a1, .int .i64 a2] := by unfold alCells; rw [List.flatMap_append]; rfl
        rw [e]
        refine ownsRow_same hown3 fun k hk => ?_
        cases hk
        exact Below.heap_setCell _ _ _ _ hg'a
      · rw [hll]
        refine KM.same hp1 ?_
        rw [Below.heap_setCell _ _ _ _ (by exact HGM.out.1), hblk gm HP1.out hrm]
      · have := HPL.out.1.push (a := (a1, a2)) HPL.out.2
        rw [HN.out]
        exact this
      · intro x hx
        rcases List.mem_append.1 hx with hx | hx
        · exact HRG.out.1 x hx
        · simp at hx; subst hx; exact HRG.out.2
      · rw [hll]; omega
      · show X g' ∨ _
        rw [hsz3]
        exact hg'X
      · show X gm ∨ _
        rw [hsz3]
        rcases HGM.out.2 with h | h
        · exact .inl h
        · exact .inr ⟨h, Nat.lt_of_lt_of_le (Nat.lt_of_lt_of_le HP1.out hb2.size) o3.size⟩
    rw [hW2, hg2] at hrun3
    subst hvv
    have hS0 : Only (fun k => rb = some k ∨ k = ga) W1 W1.drew := (Only.refl _ W1).drawn
    have hS1 : Only (fun k => rb = some k ∨ k = ga) W1 (W1.alloc (.cells #[.int .i64 a1, .int .i64 a2] 76)).drew := ((Only.refl _ W1).alloc _).drawn
    have hS3 : Only (fun k => rb = some k ∨ k = ga) W1 W3 := (Only.of_below hb2).then (o3.mono fun k hk => .inl hk)
    have hS4 : Only (fun k => rb = some k ∨ k = ga) W1 (W3.setCell ⟨ga, 0, none⟩ (.slice va (n + 1) vc)) := hS3.set (.inl (.inr rfl)) _
    have hxa : gx ≠ ga := HXA.out
    have r0 : ∀ w', Only (fun k => rb = some k ∨ k = ga) W1 w' → w'.cell? ⟨gx, 0, none⟩ = some (.int .i64 a1) := fun w' h' => (cell_only h' uz (fun h => h.elim hrx hxa) 0).trans u0
    have r1 : ∀ w', Only (fun k => rb = some k ∨ k = ga) W1 w' → w'.cell? ⟨gx, 1, none⟩ = some (.int .i64 a2) := fun w' h' => (cell_only h' uz (fun h => h.elim hrx hxa) 1).trans u1
    clear hrow1 hib hib0 hib1 hib2 hx2 hrow2 hW2 hg2 qT qA u0 u1 hB1 hx1 hblk hg3 hv3 hown3 hp1 hb2 o3 hra hrm hrx hxa
    refine wp_region_held (S := fun w' => Only (fun k => rb = some k ∨ k = ga) W1 w') (by kernel_rfl) ?_
    have hS := hS0
    refine H_take (i := 0) (v := ?_) rfl (by as_aux_lemma => kernel_rfl) (by as_aux_lemma => kernel_rfl) (by as_aux_lemma => kernel_rfl) (fun _ _ _ h => h) (by rfl) hS ?_ ?_
    rotate_left
    · intro w' hw'; go_simp; with_reducible rfl
    go_simp
    refine H_take (i := 1) (v := ?_) rfl (by as_aux_lemma => kernel_rfl) (by as_aux_lemma => kernel_rfl) (by as_aux_lemma => kernel_rfl) (fun _ _ _ h => h) (by rfl) hS ?_ ?_
    rotate_left
    · intro w' hw'; go_simp; with_reducible rfl
    go_simp
    refine H_take (i := 2) (v := ?_) rfl (by as_aux_lemma => kernel_rfl) (by as_aux_lemma => kernel_rfl) (by as_aux_lemma => kernel_rfl) (fun _ _ _ h => h) (by rfl) hS ?_ ?_
    rotate_left
    · intro w' hw'; go_simp; with_reducible rfl
    go_simp
    refine H_take (i := 3) (v := ?_) rfl (by as_aux_lemma => kernel_rfl) (by as_aux_lemma => kernel_rfl) (by as_aux_lemma => kernel_rfl) (fun _ _ _ h => h) (by rfl) hS ?_ ?_
    rotate_left
    · intro w' hw'; go_simp; with_reducible rfl
    go_simp
    refine H_take (i := 5) (v := ?_) rfl (by as_aux_lemma => kernel_rfl) (by as_aux_lemma => kernel_rfl) (by as_aux_lemma => kernel_rfl) (fun _ _ _ h => h) (by rfl) hS ?_ ?_
    rotate_left
    · intro w' hw'; go_simp; with_reducible rfl
    go_simp
    refine H_both (i := 4) (j := 6) (by as_aux_lemma => kernel_rfl) rfl rfl (by rfl) (by rfl) ?_ ?_
    · go_simp
      refine H_one (i := 6) (by as_aux_lemma => kernel_rfl) rfl (by rfl) ?_
      go_simp
      refine H_one (i := 7) (by as_aux_lemma => kernel_rfl) rfl (by rfl) ?_
      refine wp_append_run _ _ _ 37 rfl _ _ _ _ rfl rfl hrun3 ?_
      refine ⟨hS3, ?_⟩
      go_simp
      refine H_take (i := 8) (v := ?_) rfl (by as_aux_lemma => kernel_rfl) (by as_aux_lemma => kernel_rfl) (by as_aux_lemma => kernel_rfl) (fun _ _ _ h => h) (by rfl) hS3 ?_ ?_
      rotate_left
      · intro w' hw'; go_simp; with_reducible rfl
      go_simp
      refine H_take (i := 9) (v := ?_) rfl (by as_aux_lemma => kernel_rfl) (by as_aux_lemma => kernel_rfl) (by as_aux_lemma => kernel_rfl) (fun _ _ _ h => h) (by rfl) hS3 ?_ ?_
      rotate_left
      · intro w' hw'; go_simp; with_reducible rfl
      go_simp
      refine H_one (i := 10) (by as_aux_lemma => kernel_rfl) rfl (by rfl) ?_
      go_simp
      refine wpAnyH_done (by as_aux_lemma => kernel_rfl) ?_ _
      clear hrun3 hS0 hS1 hS3 hS4
      go_wp2_with fail
      go_end0
      exact ⟨rfl, HF.out⟩
    · go_simp
      refine H_one (i := 4) (by as_aux_lemma => kernel_rfl) rfl (by rfl) ?_
      go_simp
      refine H_one (i := 7) (by as_aux_lemma => kernel_rfl) rfl (by rfl) ?_
      refine wp_append_run _ _ _ 37 rfl _ _ _ _ rfl rfl hrun3 ?_
      refine ⟨hS3, ?_⟩
      go_simp
      refine H_take (i := 8) (v := ?_) rfl (by as_aux_lemma => kernel_rfl) (by as_aux_lemma => kernel_rfl) (by as_aux_lemma => kernel_rfl) (fun _ _ _ h => h) (by rfl) hS3 ?_ ?_
      rotate_left
      · intro w' hw'; go_simp; with_reducible rfl
      go_simp
      refine H_take (i := 9) (v := ?_) rfl (by as_aux_lemma => kernel_rfl) (by as_aux_lemma => kernel_rfl) (by as_aux_lemma => kernel_rfl) (fun _ _ _ h => h) (by rfl) hS3 ?_ ?_
      rotate_left
      · intro w' hw'; go_simp; with_reducible rfl
      go_simp
      refine H_one (i := 10) (by as_aux_lemma => kernel_rfl) rfl (by rfl) ?_
      go_simp
      refine wpAnyH_done (by as_aux_lemma => kernel_rfl) ?_ _
      clear hrun3 hS0 hS1 hS3 hS4
      go_wp2_with fail
      go_end0
      exact ⟨rfl, HF.out⟩
  · have HGA := Lib.hid hXa
    have hs := h.small
    obtain ⟨b0, b1, bz0, bz1, bz⟩ := h.cells
    rw [← hn] at b0
    obtain ⟨hne1, hne2, hne3⟩ := h.ne
    obtain ⟨p, hp, hpl⟩ := h.map
    have hpn : p a2 = none := by
      cases e : p a2 with
      | none => rfl
      | some i =>
        obtain ⟨k, hk1, _, hk2⟩ := (hpl _ _).1 e
        exact absurd hk2 (hk _ (Tm.mem_at.2 ⟨k, hk1, rfl⟩))
    have HPL : Hid (Pl p L ∧ p a2 = none) := Lib.hid ⟨hpl, hpn⟩
    have HRG : Hid (Rg L ∧ In1 a1 ∧ In1 a2) := Lib.hid ⟨h.rng, ha⟩
    rw [← hn] at hlen hp
    obtain ⟨W1, hrun1, hp1, hg1, hz1⟩ := (hp.next (w' := W.drew) hbW.drew).store (by omega) ha.2 (v := (n : Int)) (by unfold In1; omega)
    rw [hpn] at hp1
    simp only [Option.isSome_none, Bool.false_eq_true, if_false] at hp1
    obtain ⟨x0, x1, xz0, xz1, xz⟩ := block2' hx
    obtain ⟨y0, y1, yz0, yz1, yz⟩ := block2' ((hbW.block ga h.lt.1).trans h.box)
    rw [← hn] at y0
    have ho1 : Only (fun k => k = gm) W W1 := (Only.refl (fun k => k = gm) W).drawn.then (only_of_grown hg1 fun k hk => by cases hk; rfl)
    have hxm : gx ≠ gm := by have := h.lt.2.2; omega
    have hx1 := (ho1.block gx xz hxm).trans hx
    have hB1 := (ho1.block ga yz hne2).trans ((hbW.block ga h.lt.1).trans h.box)
    have hrW : gr < W.heap.size := Nat.lt_of_lt_of_le h.lt.2.1 hbW.size
    have hrow1 := ownsRow_same h.row (w' := W1) fun k hk => by cases hk; exact (ho1.block gr hrW hne3).trans (hbW.block gr h.lt.2.1)
    rw [← hn] at hB1 hrow1
    obtain ⟨rb, hrb⟩ : ∃ rb, rb = (Value.slice (some ⟨gr, 0, none⟩) n c).ownBlock := ⟨_, rfl⟩
    have HRV : Hid (rb = (Value.slice (some ⟨gr, 0, none⟩) n c).ownBlock) := Lib.hid hrb
    have HRB : Hid (∀ k, (Value.slice (some ⟨gr, 0, none⟩) n c).ownBlock = some k → (X k ∨ w.heap.size ≤ k) ∧ k < W1.heap.size ∧ k ≠ ga ∧ k ≠ gm ∧ k ≠ gx) := Lib.hid fun k hk => by
      cases hk
      exact ⟨.inl hXr, Nat.lt_of_lt_of_le hrW ho1.size, hne1.symm, hne3, fun e => by have h7 := h.lt.2.1; have e' : gr = gx := e; omega⟩
    have HX1 : Hid (Only X w W1) := Lib.hid ((Only.of_below hbW).then (ho1.mono fun k hk => by rw [hk]; exact hXm))
    have HGM : Hid (gm ≠ ga ∧ (X gm ∨ w.heap.size ≤ gm)) := Lib.hid ⟨hne2.symm, .inl hXm⟩
    have HP1 : Hid (gm < W1.heap.size) := Lib.hid hp1.lt
    clear h hW hgx hn hp hpl hpn hk ha hbW hx hXa hXr hXm hg1 ho1 hxm hrb hne1 hne2 hne3 hrW
    go_enter Try.func148, Try.ntmps148
    go_wp2_with fail
    rw [← HGX.out, ← hW'.out]
    go_still_tail 11, (by kernel_rfl)
    go_wp2_with fail
    clear hrun1 x0 x1 xz0 xz1 xz y0 y1 yz0 yz1 yz hz1 b0 b1 bz0 bz1 bz
    obtain ⟨v0, v1, vf, -, vz⟩ := block2' hB1
    obtain ⟨u0, u1, -, -, uz⟩ := block2' hx1
    obtain ⟨ib, hib, hib0, hib1, hib2⟩ := info_parts infoAlarm
    obtain ⟨W2, hW2⟩ : ∃ W2, W2 = (W1.alloc (.cells #[.int .i64 a1, .int .i64 a2] 76)) := ⟨_, rfl⟩
    obtain ⟨g2, hg2⟩ : ∃ g, g = W1.heap.size := ⟨_, rfl⟩
    have hb2 : Below W1.heap.size W1 W2 := by rw [hW2]; exact below_alloc _ _
    have hx2 : W2.heap[g2]? = some (.cells #[.int .i64 a1, .int .i64 a2] 76) := by rw [hW2]; exact heap_new _ _ _ hg2
    have hrow2 := ownsRow_same hrow1 (w' := W2.drew) fun k hk => hb2.block k (HRB.out k hk).2.1
    obtain ⟨v', W3, hrun3, hown3, hg3, hv3⟩ := run_append_any (P := Try.prog) W2.drew 0 37 37 76 ib (.agg #[.int .i64 0, .int .i64 0]) 2 16 Try.underlying37 hib hib0 hib1 hib2 rfl (by decide) _ _ _ hrow2 (.slice (some ⟨g2, 0, none⟩) 1 1) 1 [.int .i64 a1, .int .i64 a2]
      ⟨rfl, by intro u hu; simp at hu; rcases hu with rfl | rfl <;> rfl, .inr ⟨_, _, rfl, fun j u hj => by
        obtain ⟨c0, c1, _⟩ := block2' hx2
        match j, hj with
        | 0, hj => cases hj; exact c0
        | 1, hj => cases hj; exact c1⟩⟩ (by unfold maxLen; omega) (by omega) (Nat.zero_le _)
    obtain ⟨va, vc, hvv⟩ := owned_slice hown3
    have o3 : Only (fun k => rb = some k) W2 W3 := Only.then (only_drew _ W2) (only_of_grown hg3 fun k hk => by rw [HRV.out]; exact hk)
    have hra : rb ≠ some ga := fun e => (HRB.out ga (by rw [← HRV.out]; exact e)).2.2.1 rfl
    have hrm : rb ≠ some gm := fun e => (HRB.out gm (by rw [← HRV.out]; exact e)).2.2.2.1 rfl
    have hrx : rb ≠ some gx := fun e => (HRB.out gx (by rw [← HRV.out]; exact e)).2.2.2.2 rfl
    have hblk : ∀ k, k < W1.heap.size → rb ≠ some k → W3.heap[k]? = W1.heap[k]? := fun k hk hn => (o3.block k (Nat.lt_of_lt_of_le hk hb2.size) hn).trans (hb2.block k hk)
    have t0 := (World.cell?_of_block (a := ⟨ga, 0, none⟩) (hblk ga vz hra)).trans v0
    have tf := (World.frozen?_of_block (a := ⟨ga, 0, none⟩) (hblk ga vz hra)).trans vf
    have tz : ga < W3.heap.size := Nat.lt_of_lt_of_le (Nat.lt_of_lt_of_le vz hb2.size) o3.size
    have HF : Hid (Only X w (W3.setCell ⟨ga, 0, none⟩ (.slice va (n + 1) vc)) ∧ ∃ gr' gm' c', AlIn (W3.setCell ⟨ga, 0, none⟩ (.slice va (n + 1) vc)) ga gr' gm' c' (L ++ [(a1, a2)]) ∧ More X w (W3.setCell ⟨ga, 0, none⟩ (.slice va (n + 1) vc)) ga ∧ More X w (W3.setCell ⟨ga, 0, none⟩ (.slice va (n + 1) vc)) gr' ∧ More X w (W3.setCell ⟨ga, 0, none⟩ (.slice va (n + 1) vc)) gm') := by
      refine Lib.hid ?_
      have hoX : Only X w (W3.setCell ⟨ga, 0, none⟩ (.slice va (n + 1) vc)) := by
        refine Only.set (Only.thn (HX1.out.next hb2) (fun k hk => (HRB.out k (by rw [← HRV.out]; exact hk)).1) o3) (.inl HGA.out) _
      refine ⟨hoX, ?_⟩
      subst hvv
      obtain ⟨g', hg', hgb⟩ : ∃ g', va = some ⟨g', 0, none⟩ ∧ (Value.slice va (n + 1) vc).ownBlock = some g' := by
        rcases hown3.2 with ⟨h1, h2⟩ | ⟨g, cap, cur, hv, _⟩
        · omega
        · cases hv
          exact ⟨g, rfl, rfl⟩
      subst hg'
      have hg'a : g' ≠ ga := fun e => by
        rcases hv3 with h | h
        · rw [hgb, ← HRV.out, e] at h; exact hra h.symm
        · rw [hgb] at h
          have := Option.some.inj h
          have : W2.drew.heap.size = W2.heap.size := rfl
          have := hb2.size
          omega
      have hsz3 : (W3.setCell ⟨ga, 0, none⟩ (.slice (some ⟨g', 0, none⟩) (n + 1) vc)).heap.size = W3.heap.size := by simp
      have hg'X : X g' ∨ (w.heap.size ≤ g' ∧ g' < W3.heap.size) := by
        rcases hv3 with h | h
        · rw [hgb] at h
          have h3 := HRB.out g' h.symm
          rcases h3.1 with h4 | h4
          · exact .inl h4
          · exact .inr ⟨h4, Nat.lt_of_lt_of_le (Nat.lt_of_lt_of_le h3.2.1 hb2.size) o3.size⟩
        · have h5 := (hown3.lt g' hgb).2
          rw [hgb] at h
          have h6 := Option.some.inj h
          have h7 : W2.drew.heap.size = W2.heap.size := rfl
          have := hb2.size
          have := HX1.out.size
          exact .inr ⟨by omega, h5⟩
      have hll : (L ++ [(a1, a2)]).length = n + 1 := by rw [List.length_append, ← HN.out]; rfl
      refine ⟨g', gm, vc, ⟨?_, ?_, ⟨Tm.upd p a2 (n : Int), ?_, ?_⟩, ?_, ?_⟩, .inl HGA.out, ?_, ?_⟩
      · rw [hll]
        exact (heap_set2 ((hblk ga vz hra).trans hB1)).1
      · rw [hll]
        have e : alCells (L ++ [(a1, a2)]) = alCells L ++ [.int .i64 a1, .int .i64 a2] := by unfold alCells; rw [List.flatMap_append]; rfl
        rw [e]
        refine ownsRow_same hown3 fun k hk => ?_
        cases hk
        exact Below.heap_setCell _ _ _ _ hg'a
      · rw [hll]
        refine KM.same hp1 ?_
        rw [Below.heap_setCell _ _ _ _ (by exact HGM.out.1), hblk gm HP1.out hrm]
      · have := HPL.out.1.push (a := (a1, a2)) HPL.out.2
        rw [HN.out]
        exact this
      · intro x hx
        rcases List.mem_append.1 hx with hx | hx
        · exact HRG.out.1 x hx
        · simp at hx; subst hx; exact HRG.out.2
      · rw [hll]; omega
      · show X g' ∨ _
        rw [hsz3]
        exact hg'X
      · show X gm ∨ _
        rw [hsz3]
        rcases HGM.out.2 with h | h
        · exact .inl h
        · exact .inr ⟨h, Nat.lt_of_lt_of_le (Nat.lt_of_lt_of_le HP1.out hb2.size) o3.size⟩
    rw [hW2, hg2] at hrun3
    subst hvv
    have hS0 : Only (fun k => rb = some k ∨ k = ga) W1 W1.drew := (Only.refl _ W1).drawn
    have hS1 : Only (fun k => rb = some k ∨ k = ga) W1 (W1.alloc (.cells #[.int .i64 a1, .int .i64 a2] 76)).drew := ((Only.refl _ W1).alloc _).drawn
    have hS3 : Only (fun k => rb = some k ∨ k = ga) W1 W3 := (Only.of_below hb2).then (o3.mono fun k hk => .inl hk)
    have hS4 : Only (fun k => rb = some k ∨ k = ga) W1 (W3.setCell ⟨ga, 0, none⟩ (.slice va (n + 1) vc)) := hS3.set (.inl (.inr rfl)) _
    have hxa : gx ≠ ga := HXA.out
    have r0 : ∀ w', Only (fun k => rb = some k ∨ k = ga) W1 w' → w'.cell? ⟨gx, 0, none⟩ = some (.int .i64 a1) := fun w' h' => (cell_only h' uz (fun h => h.elim hrx hxa) 0).trans u0
    have r1 : ∀ w', Only (fun k => rb = some k ∨ k = ga) W1 w' → w'.cell? ⟨gx, 1, none⟩ = some (.int .i64 a2) := fun w' h' => (cell_only h' uz (fun h => h.elim hrx hxa) 1).trans u1
    clear hrow1 hib hib0 hib1 hib2 hx2 hrow2 hW2 hg2 qT qA u0 u1 hB1 hx1 hblk hg3 hv3 hown3 hp1 hb2 o3 hra hrm hrx hxa
    refine wp_region_held (S := fun w' => Only (fun k => rb = some k ∨ k = ga) W1 w') (by kernel_rfl) ?_
    have hS := hS0
    refine H_take (i := 0) (v := ?_) rfl (by as_aux_lemma => kernel_rfl) (by as_aux_lemma => kernel_rfl) (by as_aux_lemma => kernel_rfl) (fun _ _ _ h => h) (by rfl) hS ?_ ?_
    rotate_left
    · intro w' hw'; go_simp; with_reducible rfl
    go_simp
    refine H_take (i := 1) (v := ?_) rfl (by as_aux_lemma => kernel_rfl) (by as_aux_lemma => kernel_rfl) (by as_aux_lemma => kernel_rfl) (fun _ _ _ h => h) (by rfl) hS ?_ ?_
    rotate_left
    · intro w' hw'; go_simp; with_reducible rfl
    go_simp
    refine H_take (i := 2) (v := ?_) rfl (by as_aux_lemma => kernel_rfl) (by as_aux_lemma => kernel_rfl) (by as_aux_lemma => kernel_rfl) (fun _ _ _ h => h) (by rfl) hS ?_ ?_
    rotate_left
    · intro w' hw'; go_simp; with_reducible rfl
    go_simp
    refine H_take (i := 3) (v := ?_) rfl (by as_aux_lemma => kernel_rfl) (by as_aux_lemma => kernel_rfl) (by as_aux_lemma => kernel_rfl) (fun _ _ _ h => h) (by rfl) hS ?_ ?_
    rotate_left
    · intro w' hw'; go_simp; with_reducible rfl
    go_simp
    refine H_take (i := 5) (v := ?_) rfl (by as_aux_lemma => kernel_rfl) (by as_aux_lemma => kernel_rfl) (by as_aux_lemma => kernel_rfl) (fun _ _ _ h => h) (by rfl) hS ?_ ?_
    rotate_left
    · intro w' hw'; go_simp; with_reducible rfl
    go_simp
    refine H_both (i := 4) (j := 6) (by as_aux_lemma => kernel_rfl) rfl rfl (by rfl) (by rfl) ?_ ?_
    · go_simp
      refine H_one (i := 6) (by as_aux_lemma => kernel_rfl) rfl (by rfl) ?_
      go_simp
      refine H_one (i := 7) (by as_aux_lemma => kernel_rfl) rfl (by rfl) ?_
      refine wp_append_run _ _ _ 37 rfl _ _ _ _ rfl rfl hrun3 ?_
      refine ⟨hS3, ?_⟩
      go_simp
      refine H_take (i := 8) (v := ?_) rfl (by as_aux_lemma => kernel_rfl) (by as_aux_lemma => kernel_rfl) (by as_aux_lemma => kernel_rfl) (fun _ _ _ h => h) (by rfl) hS3 ?_ ?_
      rotate_left
      · intro w' hw'; go_simp; with_reducible rfl
      go_simp
      refine H_take (i := 9) (v := ?_) rfl (by as_aux_lemma => kernel_rfl) (by as_aux_lemma => kernel_rfl) (by as_aux_lemma => kernel_rfl) (fun _ _ _ h => h) (by rfl) hS3 ?_ ?_
      rotate_left
      · intro w' hw'; go_simp; with_reducible rfl
      go_simp
      refine H_one (i := 10) (by as_aux_lemma => kernel_rfl) rfl (by rfl) ?_
      go_simp
      refine wpAnyH_done (by as_aux_lemma => kernel_rfl) ?_ _
      clear hrun3 hS0 hS1 hS3 hS4
      go_wp2_with fail
      go_end0
      exact ⟨rfl, HF.out⟩
    · go_simp
      refine H_one (i := 4) (by as_aux_lemma => kernel_rfl) rfl (by rfl) ?_
      go_simp
      refine H_one (i := 7) (by as_aux_lemma => kernel_rfl) rfl (by rfl) ?_
      refine wp_append_run _ _ _ 37 rfl _ _ _ _ rfl rfl hrun3 ?_
      refine ⟨hS3, ?_⟩
      go_simp
      refine H_take (i := 8) (v := ?_) rfl (by as_aux_lemma => kernel_rfl) (by as_aux_lemma => kernel_rfl) (by as_aux_lemma => kernel_rfl) (fun _ _ _ h => h) (by rfl) hS3 ?_ ?_
      rotate_left
      · intro w' hw'; go_simp; with_reducible rfl
      go_simp
      refine H_take (i := 9) (v := ?_) rfl (by as_aux_lemma => kernel_rfl) (by as_aux_lemma => kernel_rfl) (by as_aux_lemma => kernel_rfl) (fun _ _ _ h => h) (by rfl) hS3 ?_ ?_
      rotate_left
      · intro w' hw'; go_simp; with_reducible rfl
      go_simp
      refine H_one (i := 10) (by as_aux_lemma => kernel_rfl) rfl (by rfl) ?_
      go_simp
      refine wpAnyH_done (by as_aux_lemma => kernel_rfl) ?_ _
      clear hrun3 hS0 hS1 hS3 hS4
      go_wp2_with fail
      go_end0
      exact ⟨rfl, HF.out⟩
end Go.Proofs.Ytckankoaiapcoaa.M

/- Part: TmF. -/
namespace Go.Proofs.Ytckankoaiapcoaa.M
open Go.RowKit Go.Maps
open Tm (Al at' alt swL Pl HpF UpI DnI Sm)

def alA (a : Al) : Value := .iface 76 (.agg #[.int .i64 a.1, .int .i64 a.2])

theorem build_queue (w : World) : (Instr.build 40 #[]).run Try.prog w = .ok (.agg #[.slice none 0 0, .map none]) w := by kernel_rfl

theorem wp_delete_run {P : Program} {o : Oper} {a : Act} {w : World} {K : Act → World → Prop} {Q : Exit → Act → World → Prop} (m x : Operand) (t k : TypeId)
    (hop : o.op = Op.call { callee := Callee.builtin Builtin.delete, args := #[m, x], argTypes := #[t, k] }) {vm vx : Value} {w' : World} (hm : a.eval m = vm) (hx : a.eval x = vx)
    (hrun : (Builtin.delete_ #[t, k] o.type #[vm, vx]).run P w = .ok (.tuple #[]) w') (hK : K (a.put o.dst (.tuple #[])) w') : o.wp P a w K Q := by
  unfold Oper.wp
  simp [execOp, hop, resolve, invoke, builtin, hm, hx, hrun, Result.andThen]
  exact hK

theorem alCells_take : ∀ (L : List Al) (n : Nat), alCells (L.take n) = (alCells L).take (n * 2)
  | [], n => by simp [alCells]
  | p :: r, 0 => by simp [alCells]
  | p :: r, n + 1 => by
    have ih := alCells_take r n
    show alV p ++ alCells (r.take n) = (alV p ++ alCells r).take ((n + 1) * 2)
    rw [ih, show (n + 1) * 2 = n * 2 + 1 + 1 by omega]
    rfl

theorem row_take {w : World} {gr c n : Nat} {L : List Al} (h : w.ownsRow 0 76 2 (.slice (some ⟨gr, 0, none⟩) L.length c) L.length (alCells L)) (hn : n ≤ L.length) :
    w.ownsRow 0 76 2 (.slice (some ⟨gr, 0, none⟩) n c) n (alCells (L.take n)) := by
  rcases h.2 with ⟨h1, h2⟩ | ⟨g, cap, cur, hv, hg, hcur, h1, h2, h3, h4⟩
  · cases h1
  · cases hv
    refine ⟨?_, .inr ⟨gr, c, cur, rfl, hg, hcur, by omega, h2, h3, ?_⟩⟩
    · rw [alCells_length, List.length_take]; omega
    · rw [alCells_take, ← h4, List.take_take]; congr 1; omega

/-- What is left behind the last one. -/
def Left (w : World) (ga gr gm c : Nat) (L : List Al) : Prop :=
  (L = [] ∧ w.heap[ga]? = some (.cells #[.slice none 0 0, .map none] 42)) ∨ (L ≠ [] ∧ AlIn w ga gr gm c L)


set_option maxRecDepth 20000 in
set_option maxHeartbeats 3200000 in
theorem Pop_any (ga gr gm c n : Nat) (L : List Al) (hn : L.length = n + 1) (w : World) (h : AlIn w ga gr gm c L) :
    Calls Try.prog 147 #[.pointer (some ⟨ga, 0, none⟩)] w fun e w' => e = .returned (alA (at' L n)) ∧ Only (fun k => k = ga ∨ k = gm) w w' ∧ Left w' ga gr gm c (L.take n) := by
  obtain ⟨b0, b1, bz0, bz1, bz⟩ := h.cells
  have hs := h.small
  have hlen := h.len
  obtain ⟨hne1, hne2, hne3⟩ := h.ne
  obtain ⟨p, hp, hpl⟩ := h.map
  obtain ⟨a1, ha1⟩ : ∃ x, x = (at' L n).1 := ⟨_, rfl⟩
  obtain ⟨a2, ha2⟩ : ∃ x, x = (at' L n).2 := ⟨_, rfl⟩
  have HAT : Hid (at' L n = (a1, a2)) := Lib.hid (by rw [ha1, ha2])
  obtain ⟨c0, c1, cf⟩ := h.elem n (by omega)
  have hr := (h.rng.at (i := n) (by omega)).2
  rw [← ha1] at c0
  rw [← ha2] at c1 hr
  have hps : (p a2).isSome = true := by
    rw [ha2, hpl.at (k := n) (by omega)]; rfl
  rw [hn] at b0 hs hlen hp
  obtain ⟨U, hU⟩ : ∃ U, U = (w.setCell ⟨ga, 0, none⟩ (.slice (some ⟨gr, 0, none⟩) n c)).alloc (.cells #[.int .i64 a1, .int .i64 a2] 76) := ⟨_, rfl⟩
  obtain ⟨gx, hgx⟩ : ∃ gx, gx = w.heap.size := ⟨_, rfl⟩
  have hoU : Only (fun k => k = ga) w U := by rw [hU]; exact (Only.set (X := fun k => k = ga) (Only.refl _ w) (.inl rfl) _).alloc _
  have hbU : U.heap[ga]? = some (.cells #[.slice (some ⟨gr, 0, none⟩) n c, .map (some gm)] 42) := by
    have hb := h.box
    rw [hn] at hb
    rw [hU]; exact old_alloc (heap_set2 hb).1
  have hxU : U.heap[gx]? = some (.cells #[.int .i64 a1, .int .i64 a2] 76) := by rw [hU]; exact heap_new _ _ _ (by simpa using hgx)
  have hpU := hp.same (w' := U.drew) (hoU.block gm h.lt.2.2 hne2.symm)
  obtain ⟨W2, hrun2, hp2, hg2, hz2⟩ := hpU.drop hr hps
  have ho2 : Only (fun k => k = gm) U W2 := (Only.refl (fun k => k = gm) U).drawn.then (only_of_grown hg2 fun k hk => by cases hk; rfl)
  obtain ⟨x0, x1, xz0, xz1, xz⟩ := block2' hxU
  obtain ⟨y0, y1, yz0, yz1, yz⟩ := block2' hbU
  have hxm : gx ≠ gm := by have := h.lt.2.2; omega
  have hx2 := (ho2.block gx xz hxm).trans hxU
  have hb2 := (ho2.block ga yz hne2).trans hbU
  obtain ⟨u0, u1, uz0, uz1, uz⟩ := block2' hx2
  obtain ⟨v0, v1, vz0, vz1, vz⟩ := block2' hb2
  have hxa1 : ¬ gx = ga := by have := h.lt.1; omega
  have hxa2 : ¬ ga = gx := fun e => hxa1 e.symm
  have hS0 : Only (fun k => k = gm) U U.drew := (Only.refl _ U).drawn
  have r0 : ∀ w', Only (fun k => k = gm) U w' → w'.cell? ⟨ga, 1, none⟩ = some (.map (some gm)) := fun w' h' => (cell_only h' yz hne2 1).trans y1
  have r1 : ∀ w', Only (fun k => k = gm) U w' → w'.cell? ⟨gx, 1, none⟩ = some (.int .i64 a2) := fun w' h' => (cell_only h' xz hxm 1).trans x1
  have hS2 := ho2
  have qB := build_queue
  have H := Lib.hid h
  have HP2 := Lib.hid hp2
  have HPL := Lib.hid hpl
  have HB2 := Lib.hid hb2
  have HO : Hid (Only (fun k => k = ga) w U ∧ Only (fun k => k = gm) U W2) := Lib.hid ⟨hoU, ho2⟩
  have HNE : Hid (L.length = n + 1 ∧ ga ≠ gr ∧ ga ≠ gm ∧ gr ≠ gm ∧ gr < U.heap.size) := Lib.hid ⟨hn, hne1, hne2, hne3, Nat.lt_of_lt_of_le h.lt.2.1 hoU.size⟩
  have HGX := Lib.hid hgx
  have HU := Lib.hid hU
  have hsum : ((n + 1 : Nat) : Int) - 1 = (n : Int) := by omega
  have hsum2 : (n : Int) + 1 - 1 = (n : Int) := by omega
  clear h hp hpl ha1 ha2 hr hps hn hU hgx hoU hbU hxU hpU hp2 hg2 ho2 hx2 hb2 hxm hz2
  by_cases h0 : n = 0
  · have h0' : ((n : Int) == 0) = true := by simp; omega
    have H0 := Lib.hid h0
    clear h0
    go_enter Try.func147, Try.ntmps147
    go_wp2_with fail
    rw [← HGX.out, ← HU.out]
    refine wp_region_held (S := fun w' => Only (fun k => k = gm) U w') (by kernel_rfl) ?_
    have hS := hS0
    refine H_take (i := 0) (v := ?_) rfl (by as_aux_lemma => kernel_rfl) (by as_aux_lemma => kernel_rfl) (by as_aux_lemma => kernel_rfl) (fun _ _ _ h => h) (by rfl) hS ?_ ?_
    rotate_left
    · intro w' hw'; go_simp; with_reducible rfl
    go_simp
    refine H_take (i := 1) (v := ?_) rfl (by as_aux_lemma => kernel_rfl) (by as_aux_lemma => kernel_rfl) (by as_aux_lemma => kernel_rfl) (fun _ _ _ h => h) (by rfl) hS ?_ ?_
    rotate_left
    · intro w' hw'; go_simp; with_reducible rfl
    go_simp
    refine H_take (i := 2) (v := ?_) rfl (by as_aux_lemma => kernel_rfl) (by as_aux_lemma => kernel_rfl) (by as_aux_lemma => kernel_rfl) (fun _ _ _ h => h) (by rfl) hS ?_ ?_
    rotate_left
    · intro w' hw'; go_simp; with_reducible rfl
    go_simp
    refine H_take (i := 3) (v := ?_) rfl (by as_aux_lemma => kernel_rfl) (by as_aux_lemma => kernel_rfl) (by as_aux_lemma => kernel_rfl) (fun _ _ _ h => h) (by rfl) hS ?_ ?_
    rotate_left
    · intro w' hw'; go_simp; with_reducible rfl
    go_simp
    refine H_take (i := 4) (v := ?_) rfl (by as_aux_lemma => kernel_rfl) (by as_aux_lemma => kernel_rfl) (by as_aux_lemma => kernel_rfl) (fun _ _ _ h => h) (by rfl) hS ?_ ?_
    rotate_left
    · intro w' hw'; go_simp; with_reducible rfl
    go_simp
    refine H_take (i := 5) (v := ?_) rfl (by as_aux_lemma => kernel_rfl) (by as_aux_lemma => kernel_rfl) (by as_aux_lemma => kernel_rfl) (fun _ _ _ h => h) (by rfl) hS ?_ ?_
    rotate_left
    · intro w' hw'; go_simp; with_reducible rfl
    go_simp
    refine H_one (i := 6) (by as_aux_lemma => kernel_rfl) rfl (by rfl) ?_
    refine wp_delete_run _ _ _ _ rfl rfl rfl (hrun2 _) ?_
    refine ⟨hS2, ?_⟩
    go_simp
    refine wpAnyH_done (by as_aux_lemma => kernel_rfl) ?_ _
    clear hrun2 hS0 hS2 hS r0 r1 x0 x1 xz0 xz1 xz y0 y1 yz0 yz1 yz b0 b1 bz0 bz1 bz c0 c1 cf
    go_wp2_with fail
    go_ret
    have h3 : L.take n = [] := by rw [H0.out]; rfl
    refine ⟨by unfold alA; rw [HAT.out]; rfl, ?_, ?_⟩
    · exact Only.set (Only.set ((HO.out.1.mono fun k hk => .inl hk).then (HO.out.2.mono fun k hk => .inr hk)) (.inl (.inl rfl)) _) (.inl (.inl rfl)) _
    · exact .inl ⟨h3, heap_set22 HB2.out⟩
  · have h0' : ((n : Int) == 0) = false := by simp; omega
    have H0 := Lib.hid h0
    clear h0
    go_enter Try.func147, Try.ntmps147
    go_wp2_with fail
    rw [← HGX.out, ← HU.out]
    refine wp_region_held (S := fun w' => Only (fun k => k = gm) U w') (by kernel_rfl) ?_
    have hS := hS0
    refine H_take (i := 0) (v := ?_) rfl (by as_aux_lemma => kernel_rfl) (by as_aux_lemma => kernel_rfl) (by as_aux_lemma => kernel_rfl) (fun _ _ _ h => h) (by rfl) hS ?_ ?_
    rotate_left
    · intro w' hw'; go_simp; with_reducible rfl
    go_simp
    refine H_take (i := 1) (v := ?_) rfl (by as_aux_lemma => kernel_rfl) (by as_aux_lemma => kernel_rfl) (by as_aux_lemma => kernel_rfl) (fun _ _ _ h => h) (by rfl) hS ?_ ?_
    rotate_left
    · intro w' hw'; go_simp; with_reducible rfl
    go_simp
    refine H_take (i := 2) (v := ?_) rfl (by as_aux_lemma => kernel_rfl) (by as_aux_lemma => kernel_rfl) (by as_aux_lemma => kernel_rfl) (fun _ _ _ h => h) (by rfl) hS ?_ ?_
    rotate_left
    · intro w' hw'; go_simp; with_reducible rfl
    go_simp
    refine H_take (i := 3) (v := ?_) rfl (by as_aux_lemma => kernel_rfl) (by as_aux_lemma => kernel_rfl) (by as_aux_lemma => kernel_rfl) (fun _ _ _ h => h) (by rfl) hS ?_ ?_
    rotate_left
    · intro w' hw'; go_simp; with_reducible rfl
    go_simp
    refine H_take (i := 4) (v := ?_) rfl (by as_aux_lemma => kernel_rfl) (by as_aux_lemma => kernel_rfl) (by as_aux_lemma => kernel_rfl) (fun _ _ _ h => h) (by rfl) hS ?_ ?_
    rotate_left
    · intro w' hw'; go_simp; with_reducible rfl
    go_simp
    refine H_take (i := 5) (v := ?_) rfl (by as_aux_lemma => kernel_rfl) (by as_aux_lemma => kernel_rfl) (by as_aux_lemma => kernel_rfl) (fun _ _ _ h => h) (by rfl) hS ?_ ?_
    rotate_left
    · intro w' hw'; go_simp; with_reducible rfl
    go_simp
    refine H_one (i := 6) (by as_aux_lemma => kernel_rfl) rfl (by rfl) ?_
    refine wp_delete_run _ _ _ _ rfl rfl rfl (hrun2 _) ?_
    refine ⟨hS2, ?_⟩
    go_simp
    refine wpAnyH_done (by as_aux_lemma => kernel_rfl) ?_ _
    clear hrun2 hS0 hS2 hS r0 r1 x0 x1 xz0 xz1 xz y0 y1 yz0 yz1 yz b0 b1 bz0 bz1 bz c0 c1 cf
    go_wp2_with fail
    go_ret
    have hl : (L.take n).length = n := by rw [List.length_take, HNE.out.1]; omega
    refine ⟨by unfold alA; rw [HAT.out]; rfl, (HO.out.1.mono fun k hk => .inl hk).then (HO.out.2.mono fun k hk => .inr hk), .inr ⟨fun e => H0.out (by rw [← hl, e]; rfl), ?_, ?_, ⟨Tm.del p a2, ?_, ?_⟩, ?_, ?_⟩⟩
    · rw [hl]; exact HB2.out
    · rw [hl]
      refine row_take (ownsRow_same H.out.row fun k hk => ?_) (by rw [HNE.out.1]; omega)
      cases hk
      exact (HO.out.2.block gr HNE.out.2.2.2.2 HNE.out.2.2.2.1).trans (HO.out.1.block gr H.out.lt.2.1 HNE.out.2.1.symm)
    · rw [hl]; exact HP2.out
    · have := HPL.out.pop HNE.out.1
      rw [HAT.out] at this
      exact this
    · exact fun x hx => H.out.rng x (List.mem_of_mem_take hx)
    · rw [hl]; have := H.out.len; have := HNE.out.1; omega
end Go.Proofs.Ytckankoaiapcoaa.M

/- Part: TmG. -/
namespace Go.Proofs.Ytckankoaiapcoaa.M
open Go.RowKit Go.Maps
open Tm (Al at' alt swL Pl HpF UpI DnI Sm srt setS clrS)

theorem AlIn.ne0 {w : World} {ga gr gm c : Nat} {L : List Al} (h : AlIn w ga gr gm c L) (X : Nat → Prop) (hX : X ga ∧ X gr ∧ X gm) (h0 : L ≠ []) : Alm w X ga L := .inr ⟨gr, gm, c, h0, h, hX⟩

theorem hp_push {L : List Al} (a : Al) (h : HpF (at' L) L.length) : UpI (at' (L ++ [a])) (L.length + 1) L.length := by
  refine ⟨fun k hk hkn hne => ?_, fun h0 k hk hkn hkp => by omega⟩
  rw [Tm.at_app, if_pos (by omega), Tm.at_app, if_pos (by omega)]
  exact h k hk (by omega)

theorem hp_take {L : List Al} {n : Nat} (h : HpF (at' L) n) : HpF (at' (L.take n)) n := fun k hk hkn => by
  rw [Tm.at_take hkn, Tm.at_take (by omega)]
  exact h k hk hkn

set_option maxRecDepth 20000 in
set_option maxHeartbeats 1600000 in
/-- One more. -/
theorem hpush_any (ga : Nat) (X : Nat → Prop) (L : List Al) (a : Al) (ha : In1 a.1 ∧ In1 a.2) (hk : ∀ x ∈ L, x.2 ≠ a.2) (hlen : L.length < 1000000000) (w : World) (h : Alm w X ga L) (hh : HpF (at' L) L.length) :
    Calls Try.prog 36 #[hV ga, alA a] w fun e w' => e = .returned (.tuple #[]) ∧ Only X w w' ∧ ∃ L', Sm L' (L ++ [a]) ∧ HpF (at' L') L'.length ∧ Alm w' (More X w w') ga L' := by
  have HP := Lib.hid (Push_any ga X L a ha hk hlen w h)
  have HU := Lib.hid (hp_push a hh)
  obtain ⟨a1, a2⟩ := a
  unfold hV alA
  simp only at HP
  have hm1 := m_push ga
  have hm2 := m_len ga
  obtain ⟨n, hn⟩ : ∃ n, n = L.length := ⟨_, rfl⟩
  have HN := Lib.hid hn
  rw [← hn] at hlen
  clear h hh hk ha hn
  go_enter Try.func36, Try.ntmps36
  go_wp2_with fail
  refine HP.out.mono ?_
  rintro e w1 ⟨rfl, ho1, gr, gm, c, h1, hx1, hx2, hx3⟩
  have hll : (L ++ [(a1, a2)]).length = n + 1 := by rw [List.length_append, ← HN.out]; rfl
  have HLEN := len_any ga (L ++ [(a1, a2)]) (More X w w1) w1 (h1.ne0 _ ⟨hx1, hx2, hx3⟩ (by simp))
  rw [hll] at HLEN
  have HUP := up_any ga gr gm c (n + 1) (L ++ [(a1, a2)]) n (by omega) (by omega) w1 h1 (by rw [HN.out]; exact HU.out)
  have HLEN := Lib.hid HLEN
  have HUP := Lib.hid HUP
  unfold hV at HUP
  have HO1 := Lib.hid ho1
  have HX := Lib.hid (And.intro hx1 (And.intro hx2 hx3))
  have HLL := Lib.hid hll
  have hs : ((n + 1 : Nat) : Int) - 1 = (n : Int) := by omega
  have hs2 : (n : Int) + 1 - 1 = (n : Int) := by omega
  clear h1 hx1 hx2 hx3 ho1 hll
  go_wp2_with fail
  refine HLEN.out.mono ?_
  rintro e w2 ⟨rfl, rfl⟩
  go_wp2_with fail
  refine HUP.out.mono ?_
  rintro e w3 ⟨rfl, L', g1, g2, g3, g4, g5⟩
  have hl' : L'.length = n + 1 := g1.1.trans HLL.out
  have ho : Only X w w3 := Only.thn HO1.out (fun k hk => by
    rcases hk with rfl | rfl
    · rcases HX.out.2.1 with h | h
      · exact .inl h
      · exact .inr h.1
    · rcases HX.out.2.2 with h | h
      · exact .inl h
      · exact .inr h.1) g5
  have hmore : ∀ k, More X w w2 k → More X w w3 k := fun k hk => hk.imp id fun h => ⟨h.1, Nat.lt_of_lt_of_le h.2 g5.size⟩
  have HF : Hid (Only X w w3 ∧ ∃ L', Sm L' (L ++ [(a1, a2)]) ∧ HpF (at' L') L'.length ∧ Alm w3 (More X w w3) ga L') := Lib.hid ⟨ho, L', g1, by rw [hl']; exact g3, g4.ne0 _ ⟨hmore _ HX.out.1, hmore _ HX.out.2.1, hmore _ HX.out.2.2⟩ (fun e => by rw [e] at hl'; simp at hl')⟩
  clear g1 g2 g3 g4 g5 ho hmore hl'
  go_wp2_with fail
  go_end0
  exact ⟨rfl, HF.out⟩

set_option maxRecDepth 20000 in
set_option maxHeartbeats 1600000 in
/-- One has turned: the order anew. -/
theorem hfix_any (ga gr gm c i : Nat) (L : List Al) (hi : i < L.length) (w : World) (h : AlIn w ga gr gm c L) (hD : DnI (at' L) L.length i i) :
    Calls Try.prog 35 #[hV ga, .int .i64 (i : Int)] w fun e w' => e = .returned (.tuple #[]) ∧ Sift ga gr gm c L.length L w w' := by
  have HLEN := Lib.hid (len_any ga L (fun _ => True) w (h.ne0 _ ⟨trivial, trivial, trivial⟩ (fun e => by rw [e] at hi; simp at hi)))
  have HDN := Lib.hid (down_any ga gr gm c L.length L i (Nat.le_refl _) (by have := h.len; omega) w h hD)
  obtain ⟨n, hn⟩ : ∃ n, n = L.length := ⟨_, rfl⟩
  have HN := Lib.hid hn
  have HI := Lib.hid hi
  have hil : (n : Int) ≤ 1099511627776 := by have := h.len; omega
  rw [← hn] at HLEN HDN ⊢
  unfold hV at HDN ⊢
  have hm2 := m_len ga
  clear h hD hn hi
  go_enter Try.func35, Try.ntmps35
  go_wp2_with fail
  refine HLEN.out.mono ?_
  rintro e w2 ⟨rfl, rfl⟩
  go_wp2_with fail
  refine HDN.out.mono ?_
  rintro e w3 ⟨b, L', rfl, g1, g2, g3, g4, g5, g6⟩
  have HG := Lib.hid (And.intro g1 (And.intro g2 (And.intro g3 g4)))
  cases b with
  | true =>
    have HG5 := Lib.hid (g5 rfl)
    clear g1 g2 g3 g4 g5 g6
    go_wp2_with fail
    go_end0
    exact ⟨rfl, L', HG.out.1, HG.out.2.1, HG5.out, HG.out.2.2.1, HG.out.2.2.2⟩
  | false =>
    have HUP := Lib.hid (up_any ga gr gm c n L' i (by rw [g1.1, ← HN.out]; exact Nat.le_refl _) (by rw [HN.out]; exact HI.out) w3 g3 (g6 rfl))
    unfold hV at HUP
    clear g1 g2 g3 g4 g5 g6
    go_wp2_with fail
    refine HUP.out.mono ?_
    rintro e w4 ⟨rfl, L4, f1, f2, f3, f4, f5⟩
    have HF : Hid (Sift ga gr gm c n L w2 w4) := Lib.hid ⟨L4, f1.trans HG.out.1, fun k hk => (f2 k hk).trans (HG.out.2.1 k hk), f3, f4, HG.out.2.2.2.then f5⟩
    clear f1 f2 f3 f4 f5
    go_wp2_with fail
    go_end0
    exact ⟨rfl, HF.out⟩

/-- What a heap is behind one's going. -/
def Gone (ga gr gm c n : Nat) (x : Al) (L : List Al) (w w' : World) : Prop :=
  ∃ L1, Sm L1 L ∧ (∃ p, Pl p L1) ∧ at' L1 n = x ∧ HpF (at' L1) n ∧ Left w' ga gr gm c (L1.take n) ∧ Only (fun k => k = ga ∨ k = gr ∨ k = gm) w w'

theorem turn_sw {L : List Al} {n i : Nat} (hn : L.length = n + 1) (hi : i < n + 1) (h : HpF (at' L) L.length) : DnI (at' (swL L i n)) n i i := by
  refine h.turn (n := L.length) (by omega) (by omega) fun k hk hne => ?_
  rw [Tm.at_sw (by omega) (by omega)]
  unfold Tm.sw
  rw [if_neg hne, if_neg (by omega)]

theorem last_sw {L : List Al} {n i : Nat} (hn : L.length = n + 1) (hi : i < n + 1) : at' (swL L i n) n = at' L i := by
  rw [Tm.at_sw (by omega) (by omega)]
  unfold Tm.sw
  by_cases e : n = i
  · rw [if_pos e, e]
  · rw [if_neg e, if_pos rfl]

set_option maxRecDepth 20000 in
set_option maxHeartbeats 1600000 in
/-- The least one goes. -/
theorem hpop_any (ga gr gm c n : Nat) (L : List Al) (hn : L.length = n + 1) (w : World) (h : AlIn w ga gr gm c L) (hh : HpF (at' L) L.length) :
    Calls Try.prog 59 #[hV ga] w fun e w' => e = .returned (alA (at' L 0)) ∧ Gone ga gr gm c n (at' L 0) L w w' := by
  have HLEN := len_any ga L (fun _ => True) w (h.ne0 _ ⟨trivial, trivial, trivial⟩ (fun e => by rw [e] at hn; simp at hn))
  rw [hn] at HLEN
  have HLEN := Lib.hid HLEN
  have HSW := Swap_any ga gr gm c L 0 n (by omega) (by omega) w h
  have HSW : Hid (Calls Try.prog 149 #[.pointer (some ⟨ga, 0, none⟩), .int .i64 0, .int .i64 (n : Int)] w fun e w' => e = .returned (.tuple #[]) ∧ AlIn w' ga gr gm c (swL L 0 n) ∧ Only (fun k => k = gr ∨ k = gm) w w') := Lib.hid HSW
  have HD := Lib.hid (turn_sw (i := 0) hn (by omega) hh)
  have HLS := Lib.hid (last_sw (i := 0) hn (by omega))
  have HNL := Lib.hid hn
  have hil : (n : Int) ≤ 1099511627776 := by have := h.len; omega
  have HSM := Lib.hid (Tm.sw_sm (L := L) (i := 0) (j := n) (by omega) (by omega))
  obtain ⟨x, hx⟩ : ∃ x, x = at' L 0 := ⟨_, rfl⟩
  rw [← hx] at HLS ⊢
  clear hx
  unfold hV
  have hm1 := m_pop ga
  have hm2 := m_len ga
  have hm3 := m_swap ga
  have hs : ((n + 1 : Nat) : Int) - 1 = (n : Int) := by omega
  have hs2 : (n : Int) + 1 - 1 = (n : Int) := by omega
  clear h hh hn
  go_enter Try.func59, Try.ntmps59
  go_wp2_with fail
  refine HLEN.out.mono ?_
  rintro e w2 ⟨rfl, rfl⟩
  go_wp2_with fail
  refine HSW.out.mono ?_
  rintro e w3 ⟨rfl, h3, ho3⟩
  have HDN := down_any ga gr gm c n (swL L 0 n) 0 (by rw [Tm.swL_length, HNL.out]; omega) (by omega) w3 h3 HD.out
  have HDN : Hid (Calls Try.prog 55 #[.iface 78 (.pointer (some ⟨ga, 0, none⟩)), .int .i64 0, .int .i64 (n : Int)] w3 (Down ga gr gm c n 0 (swL L 0 n) w3)) := Lib.hid HDN
  have HO3 := Lib.hid ho3
  clear h3 ho3
  go_wp2_with fail
  refine HDN.out.mono ?_
  rintro e w4 ⟨b, L', rfl, g1, g2, g3, g4, g5, g6⟩
  have hhp : HpF (at' L') n := by
    cases b with
    | true => exact g5 rfl
    | false => exact (g6 rfl).done fun h => absurd h (by omega)
  have hl' : L'.length = n + 1 := by rw [g1.1, Tm.swL_length, HNL.out]
  have hlast : at' L' n = x := (g2 n (Nat.le_refl _)).trans HLS.out
  have HPP := Pop_any ga gr gm c n L' hl' w4 g3
  rw [hlast] at HPP
  have HPP := Lib.hid HPP
  have hpl : ∃ p, Pl p L' := by
    obtain ⟨p, _, hp⟩ := g3.map
    exact ⟨p, hp⟩
  have HG : Hid (Sm L' L ∧ (∃ p, Pl p L') ∧ at' L' n = x ∧ HpF (at' L') n ∧ Only (fun k => k = gr ∨ k = gm) w2 w4) := Lib.hid ⟨g1.trans HSM.out, hpl, hlast, hhp, HO3.out.then g4⟩
  clear g1 g2 g3 g4 g5 g6 hhp hl' hlast hpl
  go_wp2_with fail
  refine HPP.out.mono ?_
  rintro e w5 ⟨rfl, ho5, hl5⟩
  have HF : Hid (Gone ga gr gm c n x L w2 w5) := Lib.hid ⟨L', HG.out.1, HG.out.2.1, HG.out.2.2.1, HG.out.2.2.2.1, hl5, (HG.out.2.2.2.2.mono fun k hk => .inr hk).then (ho5.mono fun k hk => hk.elim .inl fun h => .inr (.inr h))⟩
  clear ho5 hl5
  go_wp2_with fail
  go_ret
  exact ⟨rfl, HF.out⟩

set_option maxRecDepth 20000 in
set_option maxHeartbeats 3200000 in
/-- Any one goes. -/
theorem hremove_any (ga gr gm c n i : Nat) (L : List Al) (hn : L.length = n + 1) (hi : i < n + 1) (w : World) (h : AlIn w ga gr gm c L) (hh : HpF (at' L) L.length) :
    Calls Try.prog 37 #[hV ga, .int .i64 (i : Int)] w fun e w' => e = .returned (alA (at' L i)) ∧ Gone ga gr gm c n (at' L i) L w w' := by
  have HLEN := len_any ga L (fun _ => True) w (h.ne0 _ ⟨trivial, trivial, trivial⟩ (fun e => by rw [e] at hn; simp at hn))
  rw [hn] at HLEN
  have HLEN := Lib.hid HLEN
  have HSW := Lib.hid (Swap_any ga gr gm c L i n (by omega) (by omega) w h)
  have HD := Lib.hid (turn_sw (i := i) hn (by omega) hh)
  have HLS := Lib.hid (last_sw (i := i) hn (by omega))
  have HNL := Lib.hid hn
  have hil : (n : Int) ≤ 1099511627776 := by have := h.len; omega
  have HSM := Lib.hid (Tm.sw_sm (L := L) (i := i) (j := n) (by omega) (by omega))
  obtain ⟨x, hx⟩ : ∃ x, x = at' L i := ⟨_, rfl⟩
  rw [← hx] at HLS ⊢
  have HX := Lib.hid hx
  clear hx
  have H := Lib.hid h
  have HH := Lib.hid hh
  unfold hV
  have hm1 := m_pop ga
  have hm2 := m_len ga
  have hm3 := m_swap ga
  have hs : ((n + 1 : Nat) : Int) - 1 = (n : Int) := by omega
  have hs2 : (n : Int) + 1 - 1 = (n : Int) := by omega
  clear h hh hn
  go_enter Try.func37, Try.ntmps37
  go_wp2_with fail
  refine HLEN.out.mono ?_
  rintro e w2 ⟨rfl, rfl⟩
  by_cases hni : n = i
  · have q0 : ((n : Int) != (i : Int)) = false := by simp [hni]
    have q1 : (n : Int) = (i : Int) := by omega
    have HNI := Lib.hid hni
    clear hni
    go_wp2_with fail
    have hl5 : L.length = n + 1 := HNL.out
    have h5 : AlIn w2 ga gr gm c L := H.out
    have hlast5 : at' L n = x := by rw [HX.out, HNI.out]
    have hsm5 : Sm L L := Sm.refl _
    have hhp5 : HpF (at' L) n := fun k h1 h2 => HH.out k h1 (by rw [HNL.out]; omega)
    have ho5 : Only (fun k => k = gr ∨ k = gm) w2 w2 := Only.refl _ _
    have HPP := Pop_any ga gr gm c n L hl5 w2 h5
    rw [hlast5] at HPP
    have HPP := Lib.hid HPP
    have hpl : ∃ p, Pl p L := by
      obtain ⟨p, _, hp⟩ := h5.map
      exact ⟨p, hp⟩
    have HG : Hid (Sm L L ∧ (∃ p, Pl p L) ∧ at' L n = x ∧ HpF (at' L) n ∧ Only (fun k => k = gr ∨ k = gm) w2 w2) := Lib.hid ⟨hsm5, hpl, hlast5, hhp5, ho5⟩
    clear hl5 h5 hlast5 hpl hsm5 hhp5 ho5
    go_wp2_with fail
    refine HPP.out.mono ?_
    rintro e w7 ⟨rfl, ho7, hl7⟩
    have HF : Hid (Gone ga gr gm c n x L w2 w7) := Lib.hid ⟨L, HG.out.1, HG.out.2.1, HG.out.2.2.1, HG.out.2.2.2.1, hl7, (HG.out.2.2.2.2.mono fun k hk => .inr hk).then (ho7.mono fun k hk => hk.elim .inl fun h => .inr (.inr h))⟩
    clear ho7 hl7
    go_wp2_with fail
    go_ret
    exact ⟨rfl, HF.out⟩
  · have q0 : ((n : Int) != (i : Int)) = true := by simp; omega
    have q1 : ¬ (n : Int) = (i : Int) := by omega
    have hin : i < n := by omega
    have HIN := Lib.hid hin
    clear hni hin
    go_wp2_with fail
    refine HSW.out.mono ?_
    rintro e w3 ⟨rfl, h3, ho3⟩
    have HDN := Lib.hid (down_any ga gr gm c n (swL L i n) i (by rw [Tm.swL_length, HNL.out]; omega) (by omega) w3 h3 HD.out)
    have HO3 := Lib.hid ho3
    unfold hV at HDN
    clear h3 ho3
    go_wp2_with fail
    refine HDN.out.mono ?_
    rintro e w4 ⟨b, L', rfl, g1, g2, g3, g4, g5, g6⟩
    have HGG := Lib.hid (And.intro g1 (And.intro g2 (And.intro g3 g4)))
    have hl' : L'.length = n + 1 := by rw [g1.1, Tm.swL_length, HNL.out]
    cases b with
    | true =>
      have HG5 := Lib.hid (g5 rfl)
      have HL' := Lib.hid hl'
      clear g1 g2 g3 g4 g5 g6 hl'
      go_wp2_with fail
      have hl5 : L'.length = n + 1 := HL'.out
      have h5 : AlIn w4 ga gr gm c L' := HGG.out.2.2.1
      have hlast5 : at' L' n = x := by rw [HGG.out.2.1 n (Nat.le_refl _)]; exact HLS.out
      have hsm5 : Sm L' L := HGG.out.1.trans HSM.out
      have hhp5 : HpF (at' L') n := HG5.out
      have ho5 : Only (fun k => k = gr ∨ k = gm) w2 w4 := HO3.out.then HGG.out.2.2.2
      have HPP := Pop_any ga gr gm c n L' hl5 w4 h5
      rw [hlast5] at HPP
      have HPP := Lib.hid HPP
      have hpl : ∃ p, Pl p L' := by
        obtain ⟨p, _, hp⟩ := h5.map
        exact ⟨p, hp⟩
      have HG : Hid (Sm L' L ∧ (∃ p, Pl p L') ∧ at' L' n = x ∧ HpF (at' L') n ∧ Only (fun k => k = gr ∨ k = gm) w2 w4) := Lib.hid ⟨hsm5, hpl, hlast5, hhp5, ho5⟩
      clear hl5 h5 hlast5 hpl hsm5 hhp5 ho5
      go_wp2_with fail
      refine HPP.out.mono ?_
      rintro e w7 ⟨rfl, ho7, hl7⟩
      have HF : Hid (Gone ga gr gm c n x L w2 w7) := Lib.hid ⟨L', HG.out.1, HG.out.2.1, HG.out.2.2.1, HG.out.2.2.2.1, hl7, (HG.out.2.2.2.2.mono fun k hk => .inr hk).then (ho7.mono fun k hk => hk.elim .inl fun h => .inr (.inr h))⟩
      clear ho7 hl7
      go_wp2_with fail
      go_ret
      exact ⟨rfl, HF.out⟩
    | false =>
      have HUP := Lib.hid (up_any ga gr gm c n L' i (by omega) HIN.out w4 g3 (g6 rfl))
      unfold hV at HUP
      have HL' := Lib.hid hl'
      clear g1 g2 g3 g4 g5 g6 hl'
      go_wp2_with fail
      refine HUP.out.mono ?_
      rintro e w6 ⟨rfl, L6, f1, f2, f3, f4, f5⟩
      have hl5 : L6.length = n + 1 := by rw [f1.1]; exact HL'.out
      have h5 : AlIn w6 ga gr gm c L6 := f4
      have hlast5 : at' L6 n = x := by rw [f2 n (Nat.le_refl _), HGG.out.2.1 n (Nat.le_refl _)]; exact HLS.out
      have hsm5 : Sm L6 L := f1.trans (HGG.out.1.trans HSM.out)
      have hhp5 : HpF (at' L6) n := f3
      have ho5 : Only (fun k => k = gr ∨ k = gm) w2 w6 := (HO3.out.then HGG.out.2.2.2).then f5
      clear f1 f2 f3 f4 f5
      have HPP := Pop_any ga gr gm c n L6 hl5 w6 h5
      rw [hlast5] at HPP
      have HPP := Lib.hid HPP
      have hpl : ∃ p, Pl p L6 := by
        obtain ⟨p, _, hp⟩ := h5.map
        exact ⟨p, hp⟩
      have HG : Hid (Sm L6 L ∧ (∃ p, Pl p L6) ∧ at' L6 n = x ∧ HpF (at' L6) n ∧ Only (fun k => k = gr ∨ k = gm) w2 w6) := Lib.hid ⟨hsm5, hpl, hlast5, hhp5, ho5⟩
      clear hl5 h5 hlast5 hpl hsm5 hhp5 ho5
      go_wp2_with fail
      refine HPP.out.mono ?_
      rintro e w7 ⟨rfl, ho7, hl7⟩
      have HF : Hid (Gone ga gr gm c n x L w2 w7) := Lib.hid ⟨L6, HG.out.1, HG.out.2.1, HG.out.2.2.1, HG.out.2.2.2.1, hl7, (HG.out.2.2.2.2.mono fun k hk => .inr hk).then (ho7.mono fun k hk => hk.elim .inl fun h => .inr (.inr h))⟩
      clear ho7 hl7
      go_wp2_with fail
      go_ret
      exact ⟨rfl, HF.out⟩
end Go.Proofs.Ytckankoaiapcoaa.M

/- Part: TmH. -/
namespace Go.Proofs.Ytckankoaiapcoaa.M
open Go.RowKit Go.Maps
open Tm (Al at' alt swL Pl HpF UpI DnI Sm srt setS clrS Uq)

/-- Alarms in memory that are this list. -/
def AlS (w : World) (X : Nat → Prop) (ga : Nat) (l : List Al) : Prop := ∃ L, Alm w X ga L ∧ Sm L l ∧ HpF (at' L) L.length ∧ srt l

theorem AlS.same {w w' : World} {X Y : Nat → Prop} {ga : Nat} {l : List Al} (h : AlS w X ga l) (hX : ∀ k, X k → Y k) (hs : ∀ k, X k → k < w.heap.size → w'.heap[k]? = w.heap[k]?) : AlS w' Y ga l := by
  obtain ⟨L, h1, h2⟩ := h
  exact ⟨L, h1.same hX hs, h2⟩

theorem AlS.next {w w' : World} {X : Nat → Prop} {ga : Nat} {l : List Al} (h : AlS w X ga l) (hb : Below w.heap.size w w') : AlS w' X ga l := h.same (fun _ h => h) fun k _ hk => hb.block k hk

/-- What a call leaves. -/
def MPost (X : Nat → Prop) (ga : Nat) (l : List Al) (w w' : World) : Prop := Only X w w' ∧ AlS w' (More X w w') ga l

theorem MPost.trans {X : Nat → Prop} {ga : Nat} {l1 l2 : List Al} {w w1 w2 : World} (h : MPost X ga l1 w w1) (g : MPost (More X w w1) ga l2 w1 w2) : MPost X ga l2 w w2 :=
  ⟨h.1.trans g.1, g.2.same (fun _ hk => More.trans h.1.size g.1.size hk) fun _ _ _ => rfl⟩

theorem MPost.refl {X : Nat → Prop} {ga : Nat} {l : List Al} {w : World} (h : AlS w X ga l) : MPost X ga l w w := ⟨Only.refl _ _, h.same (fun _ h => .inl h) fun _ _ _ => rfl⟩

theorem MPost.next {X : Nat → Prop} {ga : Nat} {l : List Al} {w w1 w2 : World} (h : MPost X ga l w w1) (hb : Below w1.heap.size w1 w2) : MPost X ga l w w2 :=
  ⟨h.1.next hb, h.2.same (fun _ hk => hk.imp id fun h => ⟨h.1, Nat.lt_of_lt_of_le h.2 hb.size⟩) fun k _ hk => hb.block k hk⟩

theorem sm_nil {l : List Al} (h : Sm [] l) : l = [] := List.eq_nil_of_length_eq_zero h.1.symm

/-- A key's place, looked up. -/
theorem AlS.look {w : World} {X : Nat → Prop} {ga : Nat} {l : List Al} (h : AlS w X ga l) {key : Int} (hk : In1 key) :
    ∃ L p rv mv, w.heap[ga]? = some (.cells #[rv, mv] 42) ∧ (Instr.lookup 38 mv (.int .i64 key) true).run Try.prog w = .ok (.tuple #[.int .i64 ((p key).getD 0), .bool (p key).isSome]) w ∧
      Pl p L ∧ Alm w X ga L ∧ Sm L l ∧ HpF (at' L) L.length ∧ srt l := by
  obtain ⟨L, h1, h2, h3, h4⟩ := h
  have h1' := h1
  rcases h1 with ⟨rfl, hb, _⟩ | ⟨gr, gm, c, _, hi, _⟩
  · exact ⟨[], fun _ => none, _, _, hb, KMv.look (.inl ⟨rfl, rfl, fun _ => rfl⟩) hk, Tm.Pl.zero, h1', h2, h3, h4⟩
  · obtain ⟨p, hp, hpl⟩ := hi.map
    exact ⟨L, p, _, _, hi.box, hp.look hk, hpl, h1', h2, h3, h4⟩

/-- A key's time. -/
def timeOf (l : List Al) (key : Int) : Option Int := (l.find? fun x => x.2 == key).map (·.1)

theorem timeOf_none {l : List Al} {key : Int} (h : ∀ x ∈ l, x.2 ≠ key) : timeOf l key = none := by
  unfold timeOf
  rw [List.find?_eq_none.2 fun x hx => by simpa using h x hx]
  rfl

theorem timeOf_some {l : List Al} {x : Al} (hu : Uq l) (hx : x ∈ l) : timeOf l x.2 = some x.1 := by
  unfold timeOf
  cases h : l.find? (fun y => y.2 == x.2) with
  | none => exact absurd (List.find?_eq_none.1 h x hx) (by simp)
  | some y =>
    have h1 := List.mem_of_find?_eq_some h
    have h2 := List.find?_some h
    rw [hu y h1 x hx (by simpa using h2)]
    rfl

theorem timeOf_pl {l L : List Al} {p : Int → Option Int} (hs : Sm L l) (hp : Pl p L) {key : Int} :
    (p key = none → timeOf l key = none) ∧ ∀ k : Nat, p key = some (k : Int) → k < L.length ∧ (at' L k).2 = key ∧ timeOf l key = some (at' L k).1 := by
  refine ⟨fun h => timeOf_none fun x hx => hp.none h x ((hs.2 x).2 hx), fun k h => ?_⟩
  obtain ⟨k', hk, e, e2⟩ := (hp _ _).1 h
  obtain rfl : k = k' := by omega
  refine ⟨hk, e2, ?_⟩
  have := timeOf_some (hs.uq hp) ((hs.2 _).1 (Tm.mem_at.2 ⟨k, hk, rfl⟩))
  rwa [e2] at this

set_option maxRecDepth 20000 in
/-- How many there are. -/
theorem Len_any (ga : Nat) (X : Nat → Prop) (l : List Al) (w : World) (h : AlS w X ga l) :
    Calls Try.prog 22 #[.pointer (some ⟨ga, 0, none⟩)] w fun e w' => e = .returned (.int .i64 (l.length : Int)) ∧ w' = w := by
  obtain ⟨L, h1, h2, _⟩ := h
  have HC := len_any ga L X w h1
  rw [h2.1] at HC
  have hz := h1.ga.2
  have HC := Lib.hid HC
  obtain ⟨n, hn⟩ : ∃ n, n = l.length := ⟨_, rfl⟩
  rw [← hn] at HC ⊢
  clear h1 h2 hn
  go_enter Try.func22, Try.ntmps22
  go_wp2_with fail
  refine HC.out.mono ?_
  rintro e w2 ⟨rfl, rfl⟩
  go_wp2_with fail
  go_ret
  exact ⟨rfl, rfl⟩

/-- What Next answers. -/
def nextV (l : List Al) : Value := match l with | [] => .tuple #[.int .i64 0, .bool false] | h :: _ => .tuple #[.int .i64 h.1, .bool true]

set_option maxRecDepth 20000 in
theorem Next_any (ga : Nat) (X : Nat → Prop) (l : List Al) (w : World) (h : AlS w X ga l) :
    Calls Try.prog 21 #[.pointer (some ⟨ga, 0, none⟩)] w fun e w' => e = .returned (nextV l) ∧ w' = w := by
  have HC := Len_any ga X l w h
  obtain ⟨L, h1, h2, h3, h4⟩ := h
  cases hl : l with
  | nil =>
    rw [hl] at HC
    have HC : Hid (Calls Try.prog 22 #[.pointer (some ⟨ga, 0, none⟩)] w fun e w' => e = .returned (.int .i64 0) ∧ w' = w) := Lib.hid HC
    have hz := h1.ga.2
    clear h1 h2 h3 h4 hl
    go_enter Try.func21, Try.ntmps21
    go_wp2_with fail
    refine HC.out.mono ?_
    rintro e w2 ⟨rfl, rfl⟩
    go_wp2_with fail
    go_ret2
    exact ⟨rfl, rfl⟩
  | cons x r =>
    have h0 : L.length = r.length + 1 := by rw [h2.1, hl]; rfl
    have hroot := Tm.root_eq h4 h2 h3 hl
    rcases h1 with ⟨rfl, _⟩ | ⟨gr, gm, c, _, hi, _⟩
    · simp at h0
    · obtain ⟨b0, b1, bz0, bz1, bz⟩ := hi.cells
      obtain ⟨c0, c1, cf⟩ := hi.elem 0 (by omega)
      have hsm := hi.small
      obtain ⟨t, ht⟩ : ∃ t, t = x.1 := ⟨_, rfl⟩
      rw [hroot, ← ht] at c0
      rw [h0] at b0
      have hR : nextV (x :: r) = .tuple #[.int .i64 t, .bool true] := by rw [ht]; rfl
      rw [hR]
      rw [hl] at HC
      obtain ⟨m, hm⟩ : ∃ m, m = r.length := ⟨_, rfl⟩
      have hrl : ((x :: r).length : Int) = (m : Int) + 1 := by rw [List.length_cons, hm]; omega
      rw [hrl] at HC
      rw [← hm] at b0
      have HC := Lib.hid HC
      have q0 : ((m : Int) + 1 == 0) = false := by simp; omega
      have q1 : (0 : Int) < (m : Int) + 1 := by omega
      clear h2 h3 h4 hl hi c1 hroot h0 ht hR hm hrl hsm
      go_enter Try.func21, Try.ntmps21
      go_wp2_with fail
      refine HC.out.mono ?_
      rintro e w2 ⟨rfl, rfl⟩
      go_wp2_with fail
      go_ret2
      exact ⟨rfl, rfl⟩

/-- What At answers. -/
def timeV (o : Option Int) : Value := match o with | none => .tuple #[.int .i64 0, .bool false] | some t => .tuple #[.int .i64 t, .bool true]

set_option maxRecDepth 20000 in
theorem At_any (ga : Nat) (X : Nat → Prop) (l : List Al) (key : Int) (hk : In1 key) (w : World) (h : AlS w X ga l) :
    Calls Try.prog 23 #[.pointer (some ⟨ga, 0, none⟩), .int .i64 key] w fun e w' => e = .returned (timeV (timeOf l key)) ∧ w' = w := by
  obtain ⟨L, p, rv, mv, hb, hlk, hpl, h1, h2, -, -⟩ := h.look hk
  have ht := timeOf_pl h2 hpl (key := key)
  obtain ⟨b0, b1, bz0, bz1, bz⟩ := block2' hb
  cases hp : p key with
  | none =>
    rw [ht.1 hp]
    rw [hp] at hlk
    simp only [Option.getD_none, Option.isSome_none] at hlk
    clear h hb hpl h1 h2 ht hp
    go_enter Try.func23, Try.ntmps23
    go_wp2_with fail
    go_ret2
    exact ⟨rfl, rfl⟩
  | some i =>
    obtain ⟨k, hkl, rfl, -⟩ := (hpl _ _).1 hp
    obtain ⟨-, -, ht2⟩ := ht.2 k hp
    rw [ht2]
    rw [hp] at hlk
    simp only [Option.getD_some, Option.isSome_some] at hlk
    rcases h1 with ⟨rfl, _⟩ | ⟨gr, gm, c, _, hi, _⟩
    · simp at hkl
    · obtain ⟨c0, c1, cf⟩ := hi.elem k hkl
      have hbx := hi.box
      rw [hb] at hbx
      simp at hbx
      obtain ⟨hrv, hmv⟩ := hbx
      rw [hrv] at b0
      obtain ⟨t, hte⟩ : ∃ t, t = (at' L k).1 := ⟨_, rfl⟩
      obtain ⟨n, hn⟩ : ∃ n, n = L.length := ⟨_, rfl⟩
      have hkn : (k : Int) < (n : Int) := by omega
      have hlen : n ≤ 1099511627776 := by rw [hn]; exact hi.len
      rw [← hn] at b0
      rw [← hte] at c0 ⊢
      clear h hb hpl h2 ht hp hi hrv hmv hte c1 ht2 hn hkl
      go_enter Try.func23, Try.ntmps23
      go_wp2_with fail
      go_ret2
      exact ⟨rfl, rfl⟩
end Go.Proofs.Ytckankoaiapcoaa.M

/- Part: TmI. -/
namespace Go.Proofs.Ytckankoaiapcoaa.M
open Go.RowKit Go.Maps
open Tm (Al at' alt swL Pl HpF UpI DnI Sm srt setS clrS Uq)

def setsS (l : List Al) (t : Int) (ks : List Int) : List Al := ks.foldl (fun l k => setS l t k) l

theorem setsS_take {l : List Al} {t : Int} {ks : List Int} {k : Nat} (hk : k < ks.length) : setsS l t (ks.take (k + 1)) = setS (setsS l t (ks.take k)) t ks[k] := by
  unfold setsS
  rw [List.take_succ_eq_append_getElem hk, List.foldl_append]
  rfl

theorem set_length_le (l : List Al) (t key : Int) : (setS l t key).length ≤ l.length + 1 := by
  unfold setS
  rw [Tm.ins_length]
  have := List.length_filter_le (fun x : Al => x.2 != key) l
  unfold clrS
  omega

theorem setsS_length (t : Int) : ∀ (ks : List Int) (l : List Al), (setsS l t ks).length ≤ l.length + ks.length
  | [], l => by simp [setsS]
  | k :: r, l => by
    have h := setsS_length t r (setS l t k)
    have := set_length_le l t k
    show (setsS (setS l t k) t r).length ≤ _
    simp only [List.length_cons]
    omega

theorem row_at {w : World} {gr c : Nat} {L : List Al} (h : w.ownsRow 0 76 2 (.slice (some ⟨gr, 0, none⟩) L.length c) L.length (alCells L)) (i : Nat) (hi : i < L.length) (x : Int) :
    (w.setCell ⟨gr, i * 2, none⟩ (.int .i64 x)).ownsRow 0 76 2 (.slice (some ⟨gr, 0, none⟩) (L.set i (x, (at' L i).2)).length c) (L.set i (x, (at' L i).2)).length (alCells (L.set i (x, (at' L i).2))) := by
  have h1 := (h.stored (i * 2) (.int .i64 x)).1
  have hl := alCells_length L
  have e : ((alCells L).set (i * 2) (.int .i64 x)).set (i * 2 + 1) (.int .i64 (at' L i).2) = (alCells L).set (i * 2) (.int .i64 x) := by
    apply List.ext_getElem?
    intro j
    rw [List.getElem?_set]
    by_cases e : i * 2 + 1 = j
    · rw [if_pos e, if_pos (by rw [List.length_set]; omega), List.getElem?_set, if_neg (by omega), ← e, (alCells_get L i hi).2]
    · rw [if_neg e]
  rw [List.length_set, alCells_set L i _ hi, e]
  exact h1

theorem more_ne {X : Nat → Prop} {w w' : World} {k : Nat} (hk : k < w.heap.size) (hX : ¬ X k) : ¬ More X w w' k := fun h => h.elim hX fun h => by omega

set_option maxRecDepth 20000 in
set_option maxHeartbeats 3200000 in
theorem Set_any (ga : Nat) (X : Nat → Prop) (l : List Al) (t : Int) (ht : In1 t) (ks : List Int) (F : Nat → Prop) (v : Value) (hlen : l.length + ks.length < 1000000000) (w : World) (h : AlS w X ga l) (hr : RepI w F ks v) (hF : ∀ k, F k → k < w.heap.size ∧ ¬ X k) :
    Calls Try.prog 16 #[.pointer (some ⟨ga, 0, none⟩), .int .i64 t, v] w fun e w' => e = .returned (.tuple #[]) ∧ MPost X ga (setsS l t ks) w w' := by
  obtain ⟨va, vc, rfl, -⟩ := hr.slice
  obtain ⟨n, hn⟩ : ∃ n, n = ks.length := ⟨_, rfl⟩
  have HN := Lib.hid hn
  have HR := Lib.hid hr
  have HFF := Lib.hid hF
  have HLEN := Lib.hid hlen
  have H := Lib.hid h
  have hnl : n < 1000000000 := by omega
  have HT := Lib.hid ht
  rw [← hn]
  clear h hr hF hlen hn ht
  go_enter Try.func16, Try.ntmps16
  go_wp2_with fail
  go_loopw [7, 8, 9, 12] (fun _ _ _ i wr => ∃ k : Nat, k ≤ n ∧ i = .int .i64 (k : Int) ∧ Hid (MPost X ga (setsS l t (ks.take k)) w wr)) (fun _ _ _ i _ => n - (intOf i).toNat)
  case atStart => exact ⟨0, Nat.zero_le _, rfl, Lib.hid (MPost.refl H.out)⟩
  case round =>
    obtain ⟨k, hk, rfl, HM⟩ := hrel
    by_cases hlt : k < n
    · have hkk : (k : Int) < (n : Int) := by omega
      have hk2 : k < ks.length := by rw [← HN.out]; exact hlt
      obtain ⟨key, hkey⟩ : ∃ key, key = ks[k] := ⟨_, rfl⟩
      obtain ⟨lk, hlk⟩ : ∃ lk, lk = setsS l t (ks.take k) := ⟨_, rfl⟩
      have HNX : Hid (setsS l t (ks.take (k + 1)) = setS lk t key) := Lib.hid (by rw [setsS_take hk2, hlk, hkey])
      have HLL : Hid (lk.length < 1000000000) := Lib.hid (by
        rw [hlk]
        have := setsS_length t (ks.take k) l
        rw [List.length_take] at this
        have := HLEN.out
        omega)
      rw [← hlk] at HM
      have hrw : RepI wr F ks (.slice va n vc) := by
        rw [HN.out]
        exact HR.out.same (fun _ h => h) fun q hq => HM.out.1.block q (HFF.out q hq).1 (HFF.out q hq).2
      obtain ⟨b, off, rfl, -, e0, hk1, hk3⟩ := hrw.elem' (m := n) HN.out k hlt
      have hin : In1 key := by rw [hkey]; exact ⟨hk1, hk3⟩
      rw [← hkey] at e0
      obtain ⟨L, p, rv, mv, hb, hlo, hpl, h1, h2, h3, h4⟩ := HM.out.2.look hin
      obtain ⟨b0, b1, bz0, bz1, bz⟩ := block2' hb
      cases hp : p key with
      | none =>
        rw [hp] at hlo
        simp only [Option.getD_none, Option.isSome_none] at hlo
        have HPU := hpush_any ga (More X w wr) L (t, key) ⟨HT.out, hin⟩ (fun x hx => hpl.none hp x hx) (by rw [h2.1]; exact HLL.out) wr h1 h3
        unfold hV alA at HPU
        simp only at HPU
        have HPU := Lib.hid HPU
        have HAL : Hid (∀ L', Sm L' (L ++ [(t, key)]) → Sm L' (setS lk t key) ∧ srt (setS lk t key)) := Lib.hid fun L' hl' => ⟨hl'.trans (Tm.sm_push h2 hpl hp), Tm.set_srt h4 t key⟩
        clear hrw hk1 hk3 hin hb hpl h1 h2 h3 h4 hp hk2 hkey hlk
        go_wp2_with fail
        refine HPU.out.mono ?_
        rintro e w1 ⟨rfl, ho, L', hl1, hl2, hl3⟩
        have HM2 : Hid (MPost X ga (setsS l t (ks.take (k + 1))) w w1) := Lib.hid (by
          rw [HNX.out]
          exact HM.out.trans ⟨ho, L', hl3, (HAL.out L' hl1).1, hl2, (HAL.out L' hl1).2⟩)
        clear ho hl1 hl2 hl3 b0 b1 bz0 bz1 bz hlo
        go_wp2_with fail
        go_roundw
        case rel => exact ⟨k + 1, by omega, by go_num, HM2⟩
        case measure => simp only [intOf]; omega
      | some i =>
        obtain ⟨j, hj, rfl, hkj⟩ := (hpl _ _).1 hp
        rw [hp] at hlo
        simp only [Option.getD_some, Option.isSome_some] at hlo
        rcases h1 with ⟨rfl, _⟩ | ⟨gr, gm, c, hne0, hi, hxa, hxr, hxm⟩
        · simp at hj
        · have hbx := hi.box
          rw [hb] at hbx
          simp at hbx
          obtain ⟨hrv, hmv⟩ := hbx
          rw [hrv] at b0
          obtain ⟨c0, c1, cf⟩ := hi.elem j hj
          have cf0 := cf (j * 2)
          have hgl := hi.lt
          obtain ⟨m, hm⟩ : ∃ m, m = L.length := ⟨_, rfl⟩
          have hjm : (j : Int) < (m : Int) := by omega
          have hml : m ≤ 1099511627776 := by rw [hm]; exact hi.len
          rw [← hm] at b0
          obtain ⟨W, hW⟩ : ∃ W, W = wr.setCell ⟨gr, j * 2, none⟩ (.int .i64 t) := ⟨_, rfl⟩
          have hoW : Only (fun q => q = gr ∨ q = gm) wr W := by rw [hW]; exact Only.set (X := fun q => q = gr ∨ q = gm) (Only.refl _ wr) (.inl (.inl rfl)) _
          have hne := hi.ne
          have hiW : AlIn W ga gr gm c (L.set j (t, key)) := by
            have hrow := row_at hi.row j hj t
            rw [← hW, hkj] at hrow
            refine ⟨?_, hrow, ?_, ?_, ?_⟩
            · rw [List.length_set]
              have : W.heap[ga]? = wr.heap[ga]? := by rw [hW]; exact Below.heap_setCell _ _ _ _ hne.1
              rw [this]; exact hi.box
            · obtain ⟨p', hp', hpl'⟩ := hi.map
              refine ⟨p', ?_, ?_⟩
              · rw [List.length_set]
                exact hp'.same (by rw [hW]; exact Below.heap_setCell _ _ _ _ (fun e => hne.2.2 e.symm))
              · have := hpl'.turn hj t
                rw [hkj] at this
                exact this
            · intro x hx
              obtain ⟨q, hq, hqe⟩ := Tm.mem_at.1 hx
              rw [List.length_set] at hq
              rw [Tm.at_set _ hj] at hqe
              by_cases e : q = j
              · rw [if_pos e] at hqe
                rw [← hqe]
                exact ⟨HT.out, hin⟩
              · rw [if_neg e] at hqe
                exact hi.rng x (Tm.mem_at.2 ⟨q, hq, hqe⟩)
            · rw [List.length_set]; exact hi.len
          have HFX := hfix_any ga gr gm c j (L.set j (t, key)) (by rw [List.length_set]; exact hj) W hiW (h3.turn (n := L.length) (by rw [List.length_set]; exact Nat.le_refl _) hj fun q hq hqe => by rw [Tm.at_set _ hj, if_neg hqe])
          unfold hV at HFX
          have HFX := Lib.hid HFX
          have HSM : Hid (Sm (L.set j (t, key)) (setS lk t key) ∧ srt (setS lk t key)) := Lib.hid (by
            have := Tm.sm_turn h4 h2 hpl hj t
            rw [hkj] at this
            exact ⟨this, Tm.set_srt h4 t key⟩)
          have HW := Lib.hid hW
          have HOW := Lib.hid hoW
          have HX := Lib.hid (And.intro hxa (And.intro hxr hxm))
          have HL0 : Hid (0 < L.length ∧ (L.set j (t, key)).length = L.length) := Lib.hid ⟨by omega, List.length_set⟩
          clear hrw hk1 hk3 hin hb hpl h2 h3 h4 hp hk2 hkey hlk hj hkj hne0 hi hxa hxr hxm hrv hmv c1 cf hW hoW hne hiW hm
          go_wp2_with fail
          rw [← HW.out]
          refine HFX.out.mono ?_
          rintro e w1 ⟨rfl, L', g1, g2, g3, g4, g5⟩
          have HM2 : Hid (MPost X ga (setsS l t (ks.take (k + 1))) w w1) := Lib.hid (by
            rw [HNX.out]
            have ho : Only (More X w wr) wr w1 := (HOW.out.then g5).mono fun q hq => by
              rcases hq with rfl | rfl
              · exact HX.out.2.1
              · exact HX.out.2.2
            refine HM.out.trans ⟨ho, L', g4.ne0 _ ⟨.inl HX.out.1, .inl HX.out.2.1, .inl HX.out.2.2⟩ (fun e => ?_), g1.trans HSM.out.1, ?_, HSM.out.2⟩
            · have h5 := g1.1
              rw [e, HL0.out.2] at h5
              have := HL0.out.1
              simp at h5
              omega
            · rw [g1.1]
              exact g3)
          clear g1 g2 g3 g4 g5 b0 b1 bz0 bz1 bz hlo c0 cf0
          go_wp2_with fail
          go_roundw
          case rel => exact ⟨k + 1, by omega, by go_num, HM2⟩
          case measure => simp only [intOf]; omega
    · obtain rfl : k = n := by omega
      have hkk : ¬ ((k : Nat) : Int) < (k : Int) := by omega
      have HD : Hid (MPost X ga (setsS l t ks) w wr) := Lib.hid (by have := HM.out; rw [HN.out, List.take_length] at this; exact this)
      clear HM
      go_wp2_with fail
      go_end0
      exact ⟨rfl, HD.out⟩
end Go.Proofs.Ytckankoaiapcoaa.M

/- Part: TmJ. -/
namespace Go.Proofs.Ytckankoaiapcoaa.M
open Go.RowKit Go.Maps
open Tm (Al at' alt swL Pl HpF UpI DnI Sm srt setS clrS Uq)

theorem Gone.post {w w' : World} {X : Nat → Prop} {ga gr gm c n : Nat} {x : Al} {L l : List Al} (h : Gone ga gr gm c n x L w w') (hs : srt l) (hsm : Sm L l) (hn : L.length = n + 1) (hX : X ga ∧ X gr ∧ X gm) : MPost X ga (clrS l x.2) w w' := by
  obtain ⟨L1, h1, ⟨p, hp⟩, h2, h3, h4, h5⟩ := h
  have hl : L1.length = n + 1 := h1.1.trans hn
  have hlt : (L1.take n).length = n := by rw [List.length_take]; omega
  refine ⟨h5.mono fun k hk => ?_, L1.take n, ?_, ?_, ?_, Tm.clr_srt hs _⟩
  · rcases hk with rfl | rfl | rfl
    · exact hX.1
    · exact hX.2.1
    · exact hX.2.2
  · rcases h4 with ⟨e, hb⟩ | ⟨hne, hi⟩
    · exact .inl ⟨e, hb, .inl hX.1⟩
    · exact .inr ⟨gr, gm, c, hne, hi, .inl hX.1, .inl hX.2.1, .inl hX.2.2⟩
  · have := Tm.sm_drop hs (h1.trans hsm) hp hl
    rwa [h2] at this
  · rw [hlt]; exact hp_take h3

def clrsS (l : List Al) (ks : List Int) : List Al := ks.foldl clrS l

theorem clrsS_take {l : List Al} {ks : List Int} {k : Nat} (hk : k < ks.length) : clrsS l (ks.take (k + 1)) = clrS (clrsS l (ks.take k)) ks[k] := by
  unfold clrsS
  rw [List.take_succ_eq_append_getElem hk, List.foldl_append]
  rfl

set_option maxRecDepth 20000 in
set_option maxHeartbeats 3200000 in
theorem Clear_any (ga : Nat) (X : Nat → Prop) (l : List Al) (ks : List Int) (F : Nat → Prop) (v : Value) (hlen : ks.length < 1000000000) (w : World) (h : AlS w X ga l) (hr : RepI w F ks v) (hF : ∀ k, F k → k < w.heap.size ∧ ¬ X k) :
    Calls Try.prog 18 #[.pointer (some ⟨ga, 0, none⟩), v] w fun e w' => e = .returned (.tuple #[]) ∧ MPost X ga (clrsS l ks) w w' := by
  obtain ⟨va, vc, rfl, -⟩ := hr.slice
  obtain ⟨n, hn⟩ : ∃ n, n = ks.length := ⟨_, rfl⟩
  have HN := Lib.hid hn
  have HR := Lib.hid hr
  have HFF := Lib.hid hF
  have H := Lib.hid h
  have hnl : n < 1000000000 := by omega
  rw [← hn]
  clear h hr hF hlen hn
  go_enter Try.func18, Try.ntmps18
  go_wp2_with fail
  go_loopw [5, 6, 7, 10] (fun _ _ _ i wr => ∃ k : Nat, k ≤ n ∧ i = .int .i64 (k : Int) ∧ Hid (MPost X ga (clrsS l (ks.take k)) w wr)) (fun _ _ _ i _ => n - (intOf i).toNat)
  case atStart => exact ⟨0, Nat.zero_le _, rfl, Lib.hid (MPost.refl H.out)⟩
  case round =>
    obtain ⟨k, hk, rfl, HM⟩ := hrel
    by_cases hlt : k < n
    · have hkk : (k : Int) < (n : Int) := by omega
      have hk2 : k < ks.length := by rw [← HN.out]; exact hlt
      obtain ⟨key, hkey⟩ : ∃ key, key = ks[k] := ⟨_, rfl⟩
      obtain ⟨lk, hlk⟩ : ∃ lk, lk = clrsS l (ks.take k) := ⟨_, rfl⟩
      have HNX : Hid (clrsS l (ks.take (k + 1)) = clrS lk key) := Lib.hid (by rw [clrsS_take hk2, hlk, hkey])
      rw [← hlk] at HM
      have hrw : RepI wr F ks (.slice va n vc) := by
        rw [HN.out]
        exact HR.out.same (fun _ h => h) fun q hq => HM.out.1.block q (HFF.out q hq).1 (HFF.out q hq).2
      obtain ⟨b, off, rfl, -, e0, hk1, hk3⟩ := hrw.elem' (m := n) HN.out k hlt
      have hin : In1 key := by rw [hkey]; exact ⟨hk1, hk3⟩
      rw [← hkey] at e0
      obtain ⟨L, p, rv, mv, hb, hlo, hpl, h1, h2, h3, h4⟩ := HM.out.2.look hin
      obtain ⟨b0, b1, bz0, bz1, bz⟩ := block2' hb
      cases hp : p key with
      | none =>
        rw [hp] at hlo
        simp only [Option.getD_none, Option.isSome_none] at hlo
        have HM2 : Hid (MPost X ga (clrsS l (ks.take (k + 1))) w wr) := Lib.hid (by
          rw [HNX.out, Tm.clr_none fun x hx => hpl.none hp x ((h2.2 x).2 hx)]
          exact HM.out)
        clear hrw hk1 hk3 hin hb hpl h1 h2 h3 h4 hp hk2 hkey hlk
        go_wp2_with fail
        clear b0 b1 bz0 bz1 bz hlo
        go_wp2_with fail
        go_roundw
        case rel => exact ⟨k + 1, by omega, by go_num, HM2⟩
        case measure => simp only [intOf]; omega
      | some i =>
        obtain ⟨j, hj, rfl, hkj⟩ := (hpl _ _).1 hp
        rw [hp] at hlo
        simp only [Option.getD_some, Option.isSome_some] at hlo
        rcases h1 with ⟨rfl, _⟩ | ⟨gr, gm, c, hne0, hi, hxa, hxr, hxm⟩
        · simp at hj
        · obtain ⟨m, hm⟩ : ∃ m, L.length = m + 1 := ⟨L.length - 1, by omega⟩
          have HRM := hremove_any ga gr gm c m j L hm (by omega) wr hi h3
          unfold hV at HRM
          have HRM := Lib.hid HRM
          have HGP : Hid (∀ w', Gone ga gr gm c m (at' L j) L wr w' → MPost (More X w wr) ga (clrS lk key) wr w') := Lib.hid fun w' hg => by
            have := hg.post h4 h2 hm ⟨hxa, hxr, hxm⟩
            rwa [hkj] at this
          clear hrw hk1 hk3 hin hb hpl h2 h3 h4 hp hk2 hkey hlk hj hkj hne0 hi hxa hxr hxm hm
          go_wp2_with fail
          refine HRM.out.mono ?_
          rintro e w1 ⟨rfl, hg⟩
          have HM2 : Hid (MPost X ga (clrsS l (ks.take (k + 1))) w w1) := Lib.hid (by
            rw [HNX.out]
            exact HM.out.trans (HGP.out w1 hg))
          clear hg b0 b1 bz0 bz1 bz hlo
          go_wp2_with fail
          go_roundw
          case rel => exact ⟨k + 1, by omega, by go_num, HM2⟩
          case measure => simp only [intOf]; omega
    · obtain rfl : k = n := by omega
      have hkk : ¬ ((k : Nat) : Int) < (k : Int) := by omega
      have HD : Hid (MPost X ga (clrsS l ks) w wr) := Lib.hid (by have := HM.out; rw [HN.out, List.take_length] at this; exact this)
      clear HM
      go_wp2_with fail
      go_end0
      exact ⟨rfl, HD.out⟩
end Go.Proofs.Ytckankoaiapcoaa.M
