/- Package segment: forget. -/
import Derived.Test.YtamgjlegcegmeaaGreatDoorSD35
import Derived.BigRegion
namespace Go.Proofs.YtamgjlegcegmeaaGreatDoor.M
open Go.RowKit Go.Maps
open D (Fl Dk)

section
variable {P : Program} {md : Region.Mode} {ops : Array Oper} {Q : Exit → Act → World → Prop} {S : World → Prop} {fuel : Nat} {listed : Array Bool} {a : Act} {w : World} {i j k : Nat} {oi oj ok : Oper}

/-- One of three operations comes up next, whichever. -/
theorem H_three (hr : Region.ready md ops listed = [i, j, k]) (hi : ops[i]? = some oi) (hj : ops[j]? = some oj) (hk : ops[k]? = some ok) (hwi : Region.wanted oi (yielded ops a.tmps) = true) (hwj : Region.wanted oj (yielded ops a.tmps) = true) (hwk : Region.wanted ok (yielded ops a.tmps) = true)
    (h1 : oi.wp P a w (fun a' w' => S w' ∧ wpAnyH P md ops Q S fuel (listed.setIfInBounds i true) a' w') Q)
    (h2 : oj.wp P a w (fun a' w' => S w' ∧ wpAnyH P md ops Q S fuel (listed.setIfInBounds j true) a' w') Q)
    (h3 : ok.wp P a w (fun a' w' => S w' ∧ wpAnyH P md ops Q S fuel (listed.setIfInBounds k true) a' w') Q) : wpAnyH P md ops Q S (fuel + 1) listed a w :=
  wpAnyH_ready hr (by simp) (AllReadyH.cons hi (fun K' hK => by rw [if_pos hwi]; exact Oper.wp_mono (fun a w h => hK.out a w h.1 fun _ => h.2) h1)
    (AllReadyH.cons hj (fun K' hK => by rw [if_pos hwj]; exact Oper.wp_mono (fun a w h => hK.out a w h.1 fun _ => h.2) h2)
    (AllReadyH.cons hk (fun K' hK => by rw [if_pos hwk]; exact Oper.wp_mono (fun a w h => hK.out a w h.1 fun _ => h.2) h3) AllReadyH.nil)))
end

/-- The entries from an index on go. -/
def forgetE (h : Hd) (ix : Int) : Hd := { h with rows := h.rows.take (max (ix - h.mi - 1) 0).toNat, synced := min h.synced (h.mi + max (ix - h.mi - 1) 0) }

theorem LS.setRows {K : Nat → Obj → Prop} {w wr w1 w' : World} {X Xd : Nat → Prop} {g gd : Nat} {least : Int} {h : Hd} {d : Dk} (l : LS K w X Xd g gd least h d wr) (sy : Int) {vr vf u : Value} {rv : List (Rw × Value)} {i : Nat} (hi : i ≤ rv.length) (la : LgAt wr X g gd least h vr vf rv)
    (ho1 : Only (fun k => vr.ownBlock = some k) wr w1) (hr : w1.ownsRow 0 77 5 u i (rwCells (rv.take i))) (hu : u.ownBlock = vr.ownBlock) (ho2 : Only (fun k => k = g) w1 w')
    (hbox : w'.heap[g]? = some (.cells #[.int .i64 h.mi, .int .i64 h.mt, u, vf, .int .i64 sy, .pointer (some ⟨gd, 0, none⟩), .int .i64 least] 63)) : LS K w X Xd g gd least { h with rows := h.rows.take i, synced := sy } d w' ∧ Only X wr w' := by
  have lz := l.lg.2
  have oX : Only X wr w' := (ho1.mono fun k hk => (la.fr k hk).1).then (ho2.mono fun k hk => by rw [hk]; exact la.fg)
  have bl : ∀ q, q < wr.heap.size → q ≠ g → vr.ownBlock ≠ some q → w'.heap[q]? = wr.heap[q]? := fun q hq h1 h2 => (ho2.block q (Nat.lt_of_lt_of_le hq ho1.size) h1).trans (ho1.block q hq h2)
  have hlen : (rv.take i).length = i := by rw [List.length_take]; omega
  refine ⟨l.self oX (fun q hq => .inl hq) ⟨⟨u, vf, rv.take i, hbox, ?_, ?_,
    ownsRow_same la.frow fun q hq => bl q (lz q (la.ff q hq).1) (la.ff q hq).2 fun e => (la.fr q e).2.2 hq, fun p hp => ?_, la.fg, fun k hk => la.fr k (hu ▸ hk), la.ff⟩, fun q hq => Nat.lt_of_lt_of_le (lz q hq) oX.size⟩, oX⟩
  · show _ = h.rows.take _
    rw [← la.rows, List.map_take]
  · rw [hlen]
    exact ownsRow_same hr fun q hq => ho2.block q (Nat.lt_of_lt_of_le (lz q (la.fr q (hu ▸ hq)).1) ho1.size) (la.fr q (hu ▸ hq)).2.1
  · obtain ⟨B, b1, b2⟩ := la.bod p (List.mem_of_mem_take hp)
    exact ⟨B, b1.same (fun _ h => h) fun q hq => bl q (lz q (b2 q hq).1) (b2 q hq).2.1 (b2 q hq).2.2.1, fun q hq => ⟨(b2 q hq).1, (b2 q hq).2.1, by rw [hu]; exact (b2 q hq).2.2.1, (b2 q hq).2.2.2⟩⟩

set_option maxRecDepth 20000 in
set_option maxHeartbeats 6400000 in
theorem forget_any (K : Nat → Obj → Prop) (w wa : World) (X Xd : Nat → Prop) (g gd : Nat) (least : Int) (h : Hd) (d : Dk) (l : LS K w X Xd g gd least h d wa) (hrl : h.rows.length ≤ 1000000) (hm : 0 ≤ h.mi ∧ h.mi < 10000000000) (ix : Int) (hx : 0 ≤ ix ∧ ix ≤ 10000000000) :
    Calls Tryz.prog 41 #[.pointer (some ⟨g, 0, none⟩), .int .i64 ix] wa fun e w' => e = .returned (.tuple #[]) ∧ LS K w X Xd g gd least (forgetE h ix) d w' ∧ Only X wa w' ∧ w'.cell? ⟨g, 3, none⟩ = wa.cell? ⟨g, 3, none⟩ := by
  obtain ⟨mi, mt, rows, files, sy⟩ := h
  obtain ⟨⟨vr, vf, rv, la⟩, lz⟩ := l.lg
  simp only at hrl hm
  have hrv : rv.length = rows.length := by rw [← List.length_map (f := (·.1)), la.rows]
  obtain ⟨st, hst⟩ : ∃ st : Nat, max (ix - mi - 1) 0 = (st : Int) := ⟨(max (ix - mi - 1) 0).toNat, by omega⟩
  obtain ⟨i, hi⟩ : ∃ i, i = min st rv.length := ⟨_, rfl⟩
  have HE : Hid (forgetE ⟨mi, mt, rows, files, sy⟩ ix = { (⟨mi, mt, rows, files, sy⟩ : Hd) with rows := rows.take i, synced := min sy (mi + (st : Int)) }) := Lib.hid (by
    unfold forgetE
    simp only
    rw [hst, Int.toNat_natCast, hi, hrv]
    congr 1
    rcases Nat.le_total st rows.length with hle | hle
    · rw [Nat.min_eq_left hle]
    · rw [Nat.min_eq_right hle, List.take_length, List.take_of_length_le hle])
  have HI : Hid (i ≤ rv.length) := Lib.hid (by omega)
  have HDL := Lib.hid (DeleteRw_any rv vr i (by omega) wa.drew la.rrow (by omega))
  have HLA : Hid (LgAt wa.drew X g gd least ⟨mi, mt, rows, files, sy⟩ vr vf rv) := Lib.hid (la.same (fun _ h => h) fun _ _ => rfl)
  have HLS := Lib.hid (l.next (Below.refl _ wa).drew)
  obtain ⟨c0, c1, c2, c3, c4, c5, c6, cz⟩ := seven_cells HLA.out.box
  have HCZ := Lib.hid cz
  have hcm : wa.cell? ⟨g, 0, none⟩ = some (.int .i64 mi) := c0
  have hcz : g < wa.heap.size := cz
  obtain ⟨ra, rc, rfl, hrl2, hrm⟩ := row5_slice la.rrow
  obtain ⟨nr, hnr⟩ : ∃ nr, nr = rv.length := ⟨_, rfl⟩
  rw [← hnr] at hi hrl2 hrv HDL HI HLA c2
  have HNR := Lib.hid hnr
  have m2 : min (st : Int) (nr : Int) = (i : Int) := by omega
  have hin : (i : Int) ≤ (nr : Int) := by omega
  have hn1 : (nr : Int) ≤ 1000000 := by omega
  have hs1 : (st : Int) ≤ 10000000000 := by omega
  obtain ⟨hm1, hm2⟩ := hm
  obtain ⟨hx1, hx2⟩ := hx
  have hS : Only (fun k => X k) wa wa.drew := (Only.refl _ _).drawn
  simp only at c0 c4
  clear l la lz c1 c3 c4 c5 c6 hi hrl hrv hrl2 hrm hnr cz c0
  go_enter Tryz.func41, Tryz.ntmps41
  go_wp2_with fail
  clear hst hcm
  refine wp_region_held (S := fun w' => Only (fun k => X k) wa w') (by kernel_rfl) ?_
  refine H_take (i := 0) (v := ?_) rfl (by as_aux_lemma => kernel_rfl) (by as_aux_lemma => kernel_rfl) (by as_aux_lemma => kernel_rfl) (fun _ _ _ h => h) (by rfl) hS ?_ ?_
  rotate_left
  · intro w' hw'; go_simp; with_reducible rfl
  go_simp
  refine H_take (i := 1) (v := ?_) rfl (by as_aux_lemma => kernel_rfl) (by as_aux_lemma => kernel_rfl) (by as_aux_lemma => kernel_rfl) (fun _ _ _ h => h) (by rfl) hS ?_ ?_
  rotate_left
  · intro w' hw'; go_simp; with_reducible rfl
  go_simp
  refine H_take (i := 2) (v := ?_) rfl (by as_aux_lemma => kernel_rfl) (by as_aux_lemma => kernel_rfl) (by as_aux_lemma => kernel_rfl) (fun _ _ _ h => h) (by rfl) hS ?_ ?_
  rotate_left
  · intro w' hw'; go_simp; with_reducible rfl
  go_simp
  refine H_take (i := 3) (v := ?_) rfl (by as_aux_lemma => kernel_rfl) (by as_aux_lemma => kernel_rfl) (by as_aux_lemma => kernel_rfl) (fun _ _ _ h => h) (by rfl) hS ?_ ?_
  rotate_left
  · intro w' hw'; go_simp; with_reducible rfl
  go_simp
  refine H_take (i := 5) (v := ?_) rfl (by as_aux_lemma => kernel_rfl) (by as_aux_lemma => kernel_rfl) (by as_aux_lemma => kernel_rfl) (fun _ _ _ h => h) (by rfl) hS ?_ ?_
  rotate_left
  · intro w' hw'; go_simp; with_reducible rfl
  go_simp
  refine H_take (i := 6) (v := ?_) rfl (by as_aux_lemma => kernel_rfl) (by as_aux_lemma => kernel_rfl) (by as_aux_lemma => kernel_rfl) (fun _ _ _ h => h) (by rfl) hS ?_ ?_
  rotate_left
  · intro w' hw'; go_simp; with_reducible rfl
  go_simp
  refine H_take (i := 7) (v := ?_) rfl (by as_aux_lemma => kernel_rfl) (by as_aux_lemma => kernel_rfl) (by as_aux_lemma => kernel_rfl) (fun _ _ _ h => h) (by rfl) hS ?_ ?_
  rotate_left
  · intro w' hw'; go_simp; with_reducible rfl
  go_simp
  refine H_take (i := 8) (v := ?_) rfl (by as_aux_lemma => kernel_rfl) (by as_aux_lemma => kernel_rfl) (by as_aux_lemma => kernel_rfl) (fun _ _ _ h => h) (by rfl) hS ?_ ?_
  rotate_left
  · intro w' hw'; go_simp; with_reducible rfl
  go_simp
  refine H_take (i := 12) (v := ?_) rfl (by as_aux_lemma => kernel_rfl) (by as_aux_lemma => kernel_rfl) (by as_aux_lemma => kernel_rfl) (fun _ _ _ h => h) (by rfl) hS ?_ ?_
  rotate_left
  · intro w' hw'; go_simp; with_reducible rfl
  go_simp
  refine H_take (i := 13) (v := ?_) rfl (by as_aux_lemma => kernel_rfl) (by as_aux_lemma => kernel_rfl) (by as_aux_lemma => kernel_rfl) (fun _ _ _ h => h) (by rfl) hS ?_ ?_
  rotate_left
  · intro w' hw'; go_simp; with_reducible rfl
  go_simp
  refine H_take (i := 14) (v := ?_) rfl (by as_aux_lemma => kernel_rfl) (by as_aux_lemma => kernel_rfl) (by as_aux_lemma => kernel_rfl) (fun _ _ _ h => h) (by rfl) hS ?_ ?_
  rotate_left
  · intro w' hw'; go_simp; with_reducible rfl
  go_simp
  refine H_three (i := 4) (j := 9) (k := 15) (by as_aux_lemma => kernel_rfl) rfl rfl rfl (by rfl) (by rfl) (by rfl) ?_ ?_ ?_
  · go_simp
    refine H_both (i := 9) (j := 15) (by as_aux_lemma => kernel_rfl) rfl rfl (by rfl) (by rfl) ?_ ?_
    · go_simp
      refine H_take (i := 10) (v := ?_) rfl (by as_aux_lemma => kernel_rfl) (by as_aux_lemma => kernel_rfl) (by as_aux_lemma => kernel_rfl) (fun _ _ _ h => h) (by rfl) hS ?_ ?_
      rotate_left
      · intro w' hw'; go_simp; with_reducible rfl
      go_simp
      refine H_take (i := 11) (v := ?_) rfl (by as_aux_lemma => kernel_rfl) (by as_aux_lemma => kernel_rfl) (by as_aux_lemma => kernel_rfl) (fun _ _ _ h => h) (by rfl) hS ?_ ?_
      rotate_left
      · intro w' hw'; go_simp; with_reducible rfl
      go_simp
      refine H_one (i := 15) (by as_aux_lemma => kernel_rfl) rfl (by rfl) ?_
      go_simp
      refine H_take (i := 16) (v := ?_) rfl (by as_aux_lemma => kernel_rfl) (by as_aux_lemma => kernel_rfl) (by as_aux_lemma => kernel_rfl) (fun _ _ _ h => h) (by rfl) hS ?_ ?_
      rotate_left
      · intro w' hw'; go_simp; with_reducible rfl
      go_simp
      refine H_one (i := 17) (by as_aux_lemma => kernel_rfl) rfl (by rfl) ?_
      go_simp
      refine HDL.out.mono ?_
      rintro e w1 ⟨u, rfl, hu, hrow, hon⟩
      obtain ⟨ua, uc, rfl, -, -⟩ := row5_slice hrow
      have hbox1 := (hon.block g HCZ.out fun e => (HLA.out.fr g e).2.1 rfl).trans HLA.out.box
      have HON := Lib.hid hon
      have HU := Lib.hid hu
      have HRW := Lib.hid hrow
      have hS1 : Only (fun k => X k) wa w1 := hS.then (hon.mono fun k hk => (HLA.out.fr k hk).1)
      have HBOX1 := Lib.hid hbox1
      have k2 := cell_of_row _ _ 2 _ _ _ hbox1
      have fz2 := frozen_of_row _ _ 2 _ _ hbox1
      have cz1 := lt_of_heap hbox1
      clear hu hrow hon hbox1
      refine ⟨hS1, ?_⟩
      go_simp
      refine H_take (i := 18) (v := ?_) rfl (by as_aux_lemma => kernel_rfl) (by as_aux_lemma => kernel_rfl) (by as_aux_lemma => kernel_rfl) (fun _ _ _ h => h) (by rfl) hS1 ?_ ?_
      rotate_left
      · intro w' hw'; go_simp; with_reducible rfl
      go_simp
      refine H_take (i := 19) (v := ?_) rfl (by as_aux_lemma => kernel_rfl) (by as_aux_lemma => kernel_rfl) (by as_aux_lemma => kernel_rfl) (fun _ _ _ h => h) (by rfl) hS1 ?_ ?_
      rotate_left
      · intro w' hw'; go_simp; with_reducible rfl
      go_simp
      refine H_one (i := 20) (by as_aux_lemma => kernel_rfl) rfl (by rfl) ?_
      go_simp
      obtain ⟨W2, hW2⟩ : ∃ W2, W2 = w1.setCell ⟨g, 2, none⟩ (.slice ua i uc) := ⟨_, rfl⟩
      have HBOX2 : Hid (W2.heap[g]? = some (.cells #[.int .i64 mi, .int .i64 mt, .slice ua i uc, vf, .int .i64 sy, .pointer (some ⟨gd, 0, none⟩), .int .i64 least] 63)) := Lib.hid (by rw [hW2]; exact heap_seven2 (y := .slice ua i uc) HBOX1.out)
      have HO2 : Hid (Only (fun k => k = g) w1 W2) := Lib.hid (by rw [hW2]; exact Only.set (g := g) (Only.refl (fun k => k = g) w1) (.inl rfl) _)
      have hS2 : Only (fun k => X k) wa W2 := hS1.then (HO2.out.mono fun k hk => by rw [hk]; exact HLA.out.fg)
      rw [← hW2]
      refine ⟨hS2, ?_⟩
      clear hW2
      refine wpAnyH_done (by as_aux_lemma => kernel_rfl) ?_ _
      clear c2 hS hS1 hS2 k2 fz2 cz1
      obtain ⟨c0, c1, c2, c3, c4, c5, c6, cz⟩ := seven_cells HBOX2.out
      have fz4 := frozen_of_row _ _ 4 _ _ HBOX2.out
      clear c1 c2 c3 c5 c6
      go_wp2_with fail
      go_region
      go_wp2_with fail
      go_end0
      rw [HE.out]
      obtain ⟨p1, p2⟩ := HLS.out.setRows (min sy (mi + (st : Int))) (by rw [← HNR.out]; exact HI.out) HLA.out HON.out HRW.out HU.out (HO2.out.then (Only.drawn (Only.set (g := g) (Only.refl (fun k => k = g) W2) (.inl rfl) _))) (heap_seven4 HBOX2.out)
      exact ⟨rfl, p1, ((Only.refl (fun k => X k) wa).drawn).then p2, (cell_of_row _ _ 3 _ _ _ (heap_seven4 HBOX2.out)).trans (cell_of_row _ _ 3 _ _ _ HLA.out.box).symm⟩
    · go_simp
      refine H_take (i := 16) (v := ?_) rfl (by as_aux_lemma => kernel_rfl) (by as_aux_lemma => kernel_rfl) (by as_aux_lemma => kernel_rfl) (fun _ _ _ h => h) (by rfl) hS ?_ ?_
      rotate_left
      · intro w' hw'; go_simp; with_reducible rfl
      go_simp
      refine H_one (i := 9) (by as_aux_lemma => kernel_rfl) rfl (by rfl) ?_
      go_simp
      refine H_take (i := 10) (v := ?_) rfl (by as_aux_lemma => kernel_rfl) (by as_aux_lemma => kernel_rfl) (by as_aux_lemma => kernel_rfl) (fun _ _ _ h => h) (by rfl) hS ?_ ?_
      rotate_left
      · intro w' hw'; go_simp; with_reducible rfl
      go_simp
      refine H_take (i := 11) (v := ?_) rfl (by as_aux_lemma => kernel_rfl) (by as_aux_lemma => kernel_rfl) (by as_aux_lemma => kernel_rfl) (fun _ _ _ h => h) (by rfl) hS ?_ ?_
      rotate_left
      · intro w' hw'; go_simp; with_reducible rfl
      go_simp
      refine H_one (i := 17) (by as_aux_lemma => kernel_rfl) rfl (by rfl) ?_
      go_simp
      refine HDL.out.mono ?_
      rintro e w1 ⟨u, rfl, hu, hrow, hon⟩
      obtain ⟨ua, uc, rfl, -, -⟩ := row5_slice hrow
      have hbox1 := (hon.block g HCZ.out fun e => (HLA.out.fr g e).2.1 rfl).trans HLA.out.box
      have HON := Lib.hid hon
      have HU := Lib.hid hu
      have HRW := Lib.hid hrow
      have hS1 : Only (fun k => X k) wa w1 := hS.then (hon.mono fun k hk => (HLA.out.fr k hk).1)
      have HBOX1 := Lib.hid hbox1
      have k2 := cell_of_row _ _ 2 _ _ _ hbox1
      have fz2 := frozen_of_row _ _ 2 _ _ hbox1
      have cz1 := lt_of_heap hbox1
      clear hu hrow hon hbox1
      refine ⟨hS1, ?_⟩
      go_simp
      refine H_take (i := 18) (v := ?_) rfl (by as_aux_lemma => kernel_rfl) (by as_aux_lemma => kernel_rfl) (by as_aux_lemma => kernel_rfl) (fun _ _ _ h => h) (by rfl) hS1 ?_ ?_
      rotate_left
      · intro w' hw'; go_simp; with_reducible rfl
      go_simp
      refine H_take (i := 19) (v := ?_) rfl (by as_aux_lemma => kernel_rfl) (by as_aux_lemma => kernel_rfl) (by as_aux_lemma => kernel_rfl) (fun _ _ _ h => h) (by rfl) hS1 ?_ ?_
      rotate_left
      · intro w' hw'; go_simp; with_reducible rfl
      go_simp
      refine H_one (i := 20) (by as_aux_lemma => kernel_rfl) rfl (by rfl) ?_
      go_simp
      obtain ⟨W2, hW2⟩ : ∃ W2, W2 = w1.setCell ⟨g, 2, none⟩ (.slice ua i uc) := ⟨_, rfl⟩
      have HBOX2 : Hid (W2.heap[g]? = some (.cells #[.int .i64 mi, .int .i64 mt, .slice ua i uc, vf, .int .i64 sy, .pointer (some ⟨gd, 0, none⟩), .int .i64 least] 63)) := Lib.hid (by rw [hW2]; exact heap_seven2 (y := .slice ua i uc) HBOX1.out)
      have HO2 : Hid (Only (fun k => k = g) w1 W2) := Lib.hid (by rw [hW2]; exact Only.set (g := g) (Only.refl (fun k => k = g) w1) (.inl rfl) _)
      have hS2 : Only (fun k => X k) wa W2 := hS1.then (HO2.out.mono fun k hk => by rw [hk]; exact HLA.out.fg)
      rw [← hW2]
      refine ⟨hS2, ?_⟩
      clear hW2
      refine wpAnyH_done (by as_aux_lemma => kernel_rfl) ?_ _
      clear c2 hS hS1 hS2 k2 fz2 cz1
      obtain ⟨c0, c1, c2, c3, c4, c5, c6, cz⟩ := seven_cells HBOX2.out
      have fz4 := frozen_of_row _ _ 4 _ _ HBOX2.out
      clear c1 c2 c3 c5 c6
      go_wp2_with fail
      go_region
      go_wp2_with fail
      go_end0
      rw [HE.out]
      obtain ⟨p1, p2⟩ := HLS.out.setRows (min sy (mi + (st : Int))) (by rw [← HNR.out]; exact HI.out) HLA.out HON.out HRW.out HU.out (HO2.out.then (Only.drawn (Only.set (g := g) (Only.refl (fun k => k = g) W2) (.inl rfl) _))) (heap_seven4 HBOX2.out)
      exact ⟨rfl, p1, ((Only.refl (fun k => X k) wa).drawn).then p2, (cell_of_row _ _ 3 _ _ _ (heap_seven4 HBOX2.out)).trans (cell_of_row _ _ 3 _ _ _ HLA.out.box).symm⟩
  · go_simp
    refine H_take (i := 10) (v := ?_) rfl (by as_aux_lemma => kernel_rfl) (by as_aux_lemma => kernel_rfl) (by as_aux_lemma => kernel_rfl) (fun _ _ _ h => h) (by rfl) hS ?_ ?_
    rotate_left
    · intro w' hw'; go_simp; with_reducible rfl
    go_simp
    refine H_take (i := 11) (v := ?_) rfl (by as_aux_lemma => kernel_rfl) (by as_aux_lemma => kernel_rfl) (by as_aux_lemma => kernel_rfl) (fun _ _ _ h => h) (by rfl) hS ?_ ?_
    rotate_left
    · intro w' hw'; go_simp; with_reducible rfl
    go_simp
    refine H_both (i := 4) (j := 15) (by as_aux_lemma => kernel_rfl) rfl rfl (by rfl) (by rfl) ?_ ?_
    · go_simp
      refine H_one (i := 15) (by as_aux_lemma => kernel_rfl) rfl (by rfl) ?_
      go_simp
      refine H_take (i := 16) (v := ?_) rfl (by as_aux_lemma => kernel_rfl) (by as_aux_lemma => kernel_rfl) (by as_aux_lemma => kernel_rfl) (fun _ _ _ h => h) (by rfl) hS ?_ ?_
      rotate_left
      · intro w' hw'; go_simp; with_reducible rfl
      go_simp
      refine H_one (i := 17) (by as_aux_lemma => kernel_rfl) rfl (by rfl) ?_
      go_simp
      refine HDL.out.mono ?_
      rintro e w1 ⟨u, rfl, hu, hrow, hon⟩
      obtain ⟨ua, uc, rfl, -, -⟩ := row5_slice hrow
      have hbox1 := (hon.block g HCZ.out fun e => (HLA.out.fr g e).2.1 rfl).trans HLA.out.box
      have HON := Lib.hid hon
      have HU := Lib.hid hu
      have HRW := Lib.hid hrow
      have hS1 : Only (fun k => X k) wa w1 := hS.then (hon.mono fun k hk => (HLA.out.fr k hk).1)
      have HBOX1 := Lib.hid hbox1
      have k2 := cell_of_row _ _ 2 _ _ _ hbox1
      have fz2 := frozen_of_row _ _ 2 _ _ hbox1
      have cz1 := lt_of_heap hbox1
      clear hu hrow hon hbox1
      refine ⟨hS1, ?_⟩
      go_simp
      refine H_take (i := 18) (v := ?_) rfl (by as_aux_lemma => kernel_rfl) (by as_aux_lemma => kernel_rfl) (by as_aux_lemma => kernel_rfl) (fun _ _ _ h => h) (by rfl) hS1 ?_ ?_
      rotate_left
      · intro w' hw'; go_simp; with_reducible rfl
      go_simp
      refine H_take (i := 19) (v := ?_) rfl (by as_aux_lemma => kernel_rfl) (by as_aux_lemma => kernel_rfl) (by as_aux_lemma => kernel_rfl) (fun _ _ _ h => h) (by rfl) hS1 ?_ ?_
      rotate_left
      · intro w' hw'; go_simp; with_reducible rfl
      go_simp
      refine H_one (i := 20) (by as_aux_lemma => kernel_rfl) rfl (by rfl) ?_
      go_simp
      obtain ⟨W2, hW2⟩ : ∃ W2, W2 = w1.setCell ⟨g, 2, none⟩ (.slice ua i uc) := ⟨_, rfl⟩
      have HBOX2 : Hid (W2.heap[g]? = some (.cells #[.int .i64 mi, .int .i64 mt, .slice ua i uc, vf, .int .i64 sy, .pointer (some ⟨gd, 0, none⟩), .int .i64 least] 63)) := Lib.hid (by rw [hW2]; exact heap_seven2 (y := .slice ua i uc) HBOX1.out)
      have HO2 : Hid (Only (fun k => k = g) w1 W2) := Lib.hid (by rw [hW2]; exact Only.set (g := g) (Only.refl (fun k => k = g) w1) (.inl rfl) _)
      have hS2 : Only (fun k => X k) wa W2 := hS1.then (HO2.out.mono fun k hk => by rw [hk]; exact HLA.out.fg)
      rw [← hW2]
      refine ⟨hS2, ?_⟩
      clear hW2
      refine wpAnyH_done (by as_aux_lemma => kernel_rfl) ?_ _
      clear c2 hS hS1 hS2 k2 fz2 cz1
      obtain ⟨c0, c1, c2, c3, c4, c5, c6, cz⟩ := seven_cells HBOX2.out
      have fz4 := frozen_of_row _ _ 4 _ _ HBOX2.out
      clear c1 c2 c3 c5 c6
      go_wp2_with fail
      go_region
      go_wp2_with fail
      go_end0
      rw [HE.out]
      obtain ⟨p1, p2⟩ := HLS.out.setRows (min sy (mi + (st : Int))) (by rw [← HNR.out]; exact HI.out) HLA.out HON.out HRW.out HU.out (HO2.out.then (Only.drawn (Only.set (g := g) (Only.refl (fun k => k = g) W2) (.inl rfl) _))) (heap_seven4 HBOX2.out)
      exact ⟨rfl, p1, ((Only.refl (fun k => X k) wa).drawn).then p2, (cell_of_row _ _ 3 _ _ _ (heap_seven4 HBOX2.out)).trans (cell_of_row _ _ 3 _ _ _ HLA.out.box).symm⟩
    · go_simp
      refine H_take (i := 16) (v := ?_) rfl (by as_aux_lemma => kernel_rfl) (by as_aux_lemma => kernel_rfl) (by as_aux_lemma => kernel_rfl) (fun _ _ _ h => h) (by rfl) hS ?_ ?_
      rotate_left
      · intro w' hw'; go_simp; with_reducible rfl
      go_simp
      refine H_one (i := 4) (by as_aux_lemma => kernel_rfl) rfl (by rfl) ?_
      go_simp
      refine H_one (i := 17) (by as_aux_lemma => kernel_rfl) rfl (by rfl) ?_
      go_simp
      refine HDL.out.mono ?_
      rintro e w1 ⟨u, rfl, hu, hrow, hon⟩
      obtain ⟨ua, uc, rfl, -, -⟩ := row5_slice hrow
      have hbox1 := (hon.block g HCZ.out fun e => (HLA.out.fr g e).2.1 rfl).trans HLA.out.box
      have HON := Lib.hid hon
      have HU := Lib.hid hu
      have HRW := Lib.hid hrow
      have hS1 : Only (fun k => X k) wa w1 := hS.then (hon.mono fun k hk => (HLA.out.fr k hk).1)
      have HBOX1 := Lib.hid hbox1
      have k2 := cell_of_row _ _ 2 _ _ _ hbox1
      have fz2 := frozen_of_row _ _ 2 _ _ hbox1
      have cz1 := lt_of_heap hbox1
      clear hu hrow hon hbox1
      refine ⟨hS1, ?_⟩
      go_simp
      refine H_take (i := 18) (v := ?_) rfl (by as_aux_lemma => kernel_rfl) (by as_aux_lemma => kernel_rfl) (by as_aux_lemma => kernel_rfl) (fun _ _ _ h => h) (by rfl) hS1 ?_ ?_
      rotate_left
      · intro w' hw'; go_simp; with_reducible rfl
      go_simp
      refine H_take (i := 19) (v := ?_) rfl (by as_aux_lemma => kernel_rfl) (by as_aux_lemma => kernel_rfl) (by as_aux_lemma => kernel_rfl) (fun _ _ _ h => h) (by rfl) hS1 ?_ ?_
      rotate_left
      · intro w' hw'; go_simp; with_reducible rfl
      go_simp
      refine H_one (i := 20) (by as_aux_lemma => kernel_rfl) rfl (by rfl) ?_
      go_simp
      obtain ⟨W2, hW2⟩ : ∃ W2, W2 = w1.setCell ⟨g, 2, none⟩ (.slice ua i uc) := ⟨_, rfl⟩
      have HBOX2 : Hid (W2.heap[g]? = some (.cells #[.int .i64 mi, .int .i64 mt, .slice ua i uc, vf, .int .i64 sy, .pointer (some ⟨gd, 0, none⟩), .int .i64 least] 63)) := Lib.hid (by rw [hW2]; exact heap_seven2 (y := .slice ua i uc) HBOX1.out)
      have HO2 : Hid (Only (fun k => k = g) w1 W2) := Lib.hid (by rw [hW2]; exact Only.set (g := g) (Only.refl (fun k => k = g) w1) (.inl rfl) _)
      have hS2 : Only (fun k => X k) wa W2 := hS1.then (HO2.out.mono fun k hk => by rw [hk]; exact HLA.out.fg)
      rw [← hW2]
      refine ⟨hS2, ?_⟩
      clear hW2
      refine wpAnyH_done (by as_aux_lemma => kernel_rfl) ?_ _
      clear c2 hS hS1 hS2 k2 fz2 cz1
      obtain ⟨c0, c1, c2, c3, c4, c5, c6, cz⟩ := seven_cells HBOX2.out
      have fz4 := frozen_of_row _ _ 4 _ _ HBOX2.out
      clear c1 c2 c3 c5 c6
      go_wp2_with fail
      go_region
      go_wp2_with fail
      go_end0
      rw [HE.out]
      obtain ⟨p1, p2⟩ := HLS.out.setRows (min sy (mi + (st : Int))) (by rw [← HNR.out]; exact HI.out) HLA.out HON.out HRW.out HU.out (HO2.out.then (Only.drawn (Only.set (g := g) (Only.refl (fun k => k = g) W2) (.inl rfl) _))) (heap_seven4 HBOX2.out)
      exact ⟨rfl, p1, ((Only.refl (fun k => X k) wa).drawn).then p2, (cell_of_row _ _ 3 _ _ _ (heap_seven4 HBOX2.out)).trans (cell_of_row _ _ 3 _ _ _ HLA.out.box).symm⟩
  · go_simp
    refine H_take (i := 16) (v := ?_) rfl (by as_aux_lemma => kernel_rfl) (by as_aux_lemma => kernel_rfl) (by as_aux_lemma => kernel_rfl) (fun _ _ _ h => h) (by rfl) hS ?_ ?_
    rotate_left
    · intro w' hw'; go_simp; with_reducible rfl
    go_simp
    refine H_both (i := 4) (j := 9) (by as_aux_lemma => kernel_rfl) rfl rfl (by rfl) (by rfl) ?_ ?_
    · go_simp
      refine H_one (i := 9) (by as_aux_lemma => kernel_rfl) rfl (by rfl) ?_
      go_simp
      refine H_take (i := 10) (v := ?_) rfl (by as_aux_lemma => kernel_rfl) (by as_aux_lemma => kernel_rfl) (by as_aux_lemma => kernel_rfl) (fun _ _ _ h => h) (by rfl) hS ?_ ?_
      rotate_left
      · intro w' hw'; go_simp; with_reducible rfl
      go_simp
      refine H_take (i := 11) (v := ?_) rfl (by as_aux_lemma => kernel_rfl) (by as_aux_lemma => kernel_rfl) (by as_aux_lemma => kernel_rfl) (fun _ _ _ h => h) (by rfl) hS ?_ ?_
      rotate_left
      · intro w' hw'; go_simp; with_reducible rfl
      go_simp
      refine H_one (i := 17) (by as_aux_lemma => kernel_rfl) rfl (by rfl) ?_
      go_simp
      refine HDL.out.mono ?_
      rintro e w1 ⟨u, rfl, hu, hrow, hon⟩
      obtain ⟨ua, uc, rfl, -, -⟩ := row5_slice hrow
      have hbox1 := (hon.block g HCZ.out fun e => (HLA.out.fr g e).2.1 rfl).trans HLA.out.box
      have HON := Lib.hid hon
      have HU := Lib.hid hu
      have HRW := Lib.hid hrow
      have hS1 : Only (fun k => X k) wa w1 := hS.then (hon.mono fun k hk => (HLA.out.fr k hk).1)
      have HBOX1 := Lib.hid hbox1
      have k2 := cell_of_row _ _ 2 _ _ _ hbox1
      have fz2 := frozen_of_row _ _ 2 _ _ hbox1
      have cz1 := lt_of_heap hbox1
      clear hu hrow hon hbox1
      refine ⟨hS1, ?_⟩
      go_simp
      refine H_take (i := 18) (v := ?_) rfl (by as_aux_lemma => kernel_rfl) (by as_aux_lemma => kernel_rfl) (by as_aux_lemma => kernel_rfl) (fun _ _ _ h => h) (by rfl) hS1 ?_ ?_
      rotate_left
      · intro w' hw'; go_simp; with_reducible rfl
      go_simp
      refine H_take (i := 19) (v := ?_) rfl (by as_aux_lemma => kernel_rfl) (by as_aux_lemma => kernel_rfl) (by as_aux_lemma => kernel_rfl) (fun _ _ _ h => h) (by rfl) hS1 ?_ ?_
      rotate_left
      · intro w' hw'; go_simp; with_reducible rfl
      go_simp
      refine H_one (i := 20) (by as_aux_lemma => kernel_rfl) rfl (by rfl) ?_
      go_simp
      obtain ⟨W2, hW2⟩ : ∃ W2, W2 = w1.setCell ⟨g, 2, none⟩ (.slice ua i uc) := ⟨_, rfl⟩
      have HBOX2 : Hid (W2.heap[g]? = some (.cells #[.int .i64 mi, .int .i64 mt, .slice ua i uc, vf, .int .i64 sy, .pointer (some ⟨gd, 0, none⟩), .int .i64 least] 63)) := Lib.hid (by rw [hW2]; exact heap_seven2 (y := .slice ua i uc) HBOX1.out)
      have HO2 : Hid (Only (fun k => k = g) w1 W2) := Lib.hid (by rw [hW2]; exact Only.set (g := g) (Only.refl (fun k => k = g) w1) (.inl rfl) _)
      have hS2 : Only (fun k => X k) wa W2 := hS1.then (HO2.out.mono fun k hk => by rw [hk]; exact HLA.out.fg)
      rw [← hW2]
      refine ⟨hS2, ?_⟩
      clear hW2
      refine wpAnyH_done (by as_aux_lemma => kernel_rfl) ?_ _
      clear c2 hS hS1 hS2 k2 fz2 cz1
      obtain ⟨c0, c1, c2, c3, c4, c5, c6, cz⟩ := seven_cells HBOX2.out
      have fz4 := frozen_of_row _ _ 4 _ _ HBOX2.out
      clear c1 c2 c3 c5 c6
      go_wp2_with fail
      go_region
      go_wp2_with fail
      go_end0
      rw [HE.out]
      obtain ⟨p1, p2⟩ := HLS.out.setRows (min sy (mi + (st : Int))) (by rw [← HNR.out]; exact HI.out) HLA.out HON.out HRW.out HU.out (HO2.out.then (Only.drawn (Only.set (g := g) (Only.refl (fun k => k = g) W2) (.inl rfl) _))) (heap_seven4 HBOX2.out)
      exact ⟨rfl, p1, ((Only.refl (fun k => X k) wa).drawn).then p2, (cell_of_row _ _ 3 _ _ _ (heap_seven4 HBOX2.out)).trans (cell_of_row _ _ 3 _ _ _ HLA.out.box).symm⟩
    · go_simp
      refine H_take (i := 10) (v := ?_) rfl (by as_aux_lemma => kernel_rfl) (by as_aux_lemma => kernel_rfl) (by as_aux_lemma => kernel_rfl) (fun _ _ _ h => h) (by rfl) hS ?_ ?_
      rotate_left
      · intro w' hw'; go_simp; with_reducible rfl
      go_simp
      refine H_take (i := 11) (v := ?_) rfl (by as_aux_lemma => kernel_rfl) (by as_aux_lemma => kernel_rfl) (by as_aux_lemma => kernel_rfl) (fun _ _ _ h => h) (by rfl) hS ?_ ?_
      rotate_left
      · intro w' hw'; go_simp; with_reducible rfl
      go_simp
      refine H_one (i := 4) (by as_aux_lemma => kernel_rfl) rfl (by rfl) ?_
      go_simp
      refine H_one (i := 17) (by as_aux_lemma => kernel_rfl) rfl (by rfl) ?_
      go_simp
      refine HDL.out.mono ?_
      rintro e w1 ⟨u, rfl, hu, hrow, hon⟩
      obtain ⟨ua, uc, rfl, -, -⟩ := row5_slice hrow
      have hbox1 := (hon.block g HCZ.out fun e => (HLA.out.fr g e).2.1 rfl).trans HLA.out.box
      have HON := Lib.hid hon
      have HU := Lib.hid hu
      have HRW := Lib.hid hrow
      have hS1 : Only (fun k => X k) wa w1 := hS.then (hon.mono fun k hk => (HLA.out.fr k hk).1)
      have HBOX1 := Lib.hid hbox1
      have k2 := cell_of_row _ _ 2 _ _ _ hbox1
      have fz2 := frozen_of_row _ _ 2 _ _ hbox1
      have cz1 := lt_of_heap hbox1
      clear hu hrow hon hbox1
      refine ⟨hS1, ?_⟩
      go_simp
      refine H_take (i := 18) (v := ?_) rfl (by as_aux_lemma => kernel_rfl) (by as_aux_lemma => kernel_rfl) (by as_aux_lemma => kernel_rfl) (fun _ _ _ h => h) (by rfl) hS1 ?_ ?_
      rotate_left
      · intro w' hw'; go_simp; with_reducible rfl
      go_simp
      refine H_take (i := 19) (v := ?_) rfl (by as_aux_lemma => kernel_rfl) (by as_aux_lemma => kernel_rfl) (by as_aux_lemma => kernel_rfl) (fun _ _ _ h => h) (by rfl) hS1 ?_ ?_
      rotate_left
      · intro w' hw'; go_simp; with_reducible rfl
      go_simp
      refine H_one (i := 20) (by as_aux_lemma => kernel_rfl) rfl (by rfl) ?_
      go_simp
      obtain ⟨W2, hW2⟩ : ∃ W2, W2 = w1.setCell ⟨g, 2, none⟩ (.slice ua i uc) := ⟨_, rfl⟩
      have HBOX2 : Hid (W2.heap[g]? = some (.cells #[.int .i64 mi, .int .i64 mt, .slice ua i uc, vf, .int .i64 sy, .pointer (some ⟨gd, 0, none⟩), .int .i64 least] 63)) := Lib.hid (by rw [hW2]; exact heap_seven2 (y := .slice ua i uc) HBOX1.out)
      have HO2 : Hid (Only (fun k => k = g) w1 W2) := Lib.hid (by rw [hW2]; exact Only.set (g := g) (Only.refl (fun k => k = g) w1) (.inl rfl) _)
      have hS2 : Only (fun k => X k) wa W2 := hS1.then (HO2.out.mono fun k hk => by rw [hk]; exact HLA.out.fg)
      rw [← hW2]
      refine ⟨hS2, ?_⟩
      clear hW2
      refine wpAnyH_done (by as_aux_lemma => kernel_rfl) ?_ _
      clear c2 hS hS1 hS2 k2 fz2 cz1
      obtain ⟨c0, c1, c2, c3, c4, c5, c6, cz⟩ := seven_cells HBOX2.out
      have fz4 := frozen_of_row _ _ 4 _ _ HBOX2.out
      clear c1 c2 c3 c5 c6
      go_wp2_with fail
      go_region
      go_wp2_with fail
      go_end0
      rw [HE.out]
      obtain ⟨p1, p2⟩ := HLS.out.setRows (min sy (mi + (st : Int))) (by rw [← HNR.out]; exact HI.out) HLA.out HON.out HRW.out HU.out (HO2.out.then (Only.drawn (Only.set (g := g) (Only.refl (fun k => k = g) W2) (.inl rfl) _))) (heap_seven4 HBOX2.out)
      exact ⟨rfl, p1, ((Only.refl (fun k => X k) wa).drawn).then p2, (cell_of_row _ _ 3 _ _ _ (heap_seven4 HBOX2.out)).trans (cell_of_row _ _ 3 _ _ _ HLA.out.box).symm⟩
end Go.Proofs.YtamgjlegcegmeaaGreatDoor.M
