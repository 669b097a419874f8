/- Package segment: slices.DeleteFunc over rows. Package segment: begin. Package segment: settle. Package segment: slices.Delete of one file. Package segment: slices.Delete of the last rows. A file removed: the disk lies where it lay. Package segment: a file removed. -/
import Derived.Test.YtamgjlegcegmeaaGreatDoorSD34
import Derived.ArgAppend
import Derived.Test.YtamgjlegcegmeaaGreatDoorSD23
/- Part: SegDlf. -/
namespace Go.Proofs.YtamgjlegcegmeaaGreatDoor.M
open Go.RowKit Go.Maps
open D (Fl Dk)

theorem zero_sgRow (w : World) : (zeroValue 77).run Tryz.prog w = .ok (.agg #[.int .i64 0, .int .i64 0, .int .i64 0, .slice none 0 0, .int .i64 0]) w := by
  obtain ⟨ib, hib, hib0, hib1, hib2⟩ := info_parts infoSgRow
  simp [zeroValue, typeInfo, hib, hib0]

theorem only_grown {w w' : World} {g : Nat} (h : w.grownBy w' (some g)) : Only (fun k => some g = some k) w w' := ⟨h.os, h.tape, h.output, h.size, fun k hk hn => h.block k hk fun e => hn e.symm⟩

set_option maxRecDepth 20000 in
set_option maxHeartbeats 3200000 in
theorem DeleteFunc_any (rv : List (Rw × Value)) (v : Value) (gm : Nat) (mi mt : Int) (w : World) (hrow : w.ownsRow 0 77 5 v rv.length (rwCells rv)) (hsl : ∀ p ∈ rv, ∃ a n c, p.2 = .slice a n c) (hm : w.heap[gm]? = some (.cells #[.int .i64 mi, .int .i64 mt] 32)) (hg : v.ownBlock ≠ some gm) (hl : rv.length ≤ 1000000) :
    Calls Tryz.prog 60 #[v, .func (.func 61) #[] #[.pointer (some ⟨gm, 0, none⟩)]] w fun e w' => ∃ u, e = .returned u ∧ u.ownBlock = v.ownBlock ∧ w'.ownsRow 0 77 5 u (rv.filter (stays mi)).length (rwCells (rv.filter (stays mi))) ∧ Only (fun k => v.ownBlock = some k) w w' := by
  have HIX := Lib.hid (IndexFunc_any rv v gm mi mt w hrow hsl hm hl)
  have HROW := Lib.hid hrow
  have HSL := Lib.hid hsl
  have HM := Lib.hid hm
  have HG := Lib.hid hg
  obtain ⟨ra, rc, rfl, hrl, hrm⟩ := row5_slice hrow
  obtain ⟨R, hR⟩ : ∃ R, R = rv.filter (stays mi) := ⟨_, rfl⟩
  rw [← hR]
  have HR := Lib.hid hR
  by_cases hA : firstAhead mi rv 0 = -1
  · have HE : Hid (R = rv) := Lib.hid (by rw [hR]; exact firstAhead_none rv 0 hA)
    rw [hA] at HIX
    obtain ⟨nr, hnr⟩ : ∃ nr, nr = rv.length := ⟨_, rfl⟩
    rw [← hnr] at hrl hl HIX ⊢
    have HNR := Lib.hid hnr
    clear hrow hsl hm hg hnr hR hA
    go_enter Tryz.func60, Tryz.ntmps60
    go_wp2_with fail
    refine HIX.out.mono ?_
    rintro e w1 ⟨rfl, hb1⟩
    have HB1 := Lib.hid hb1
    clear hb1
    go_wp2_with fail
    go_ret
    refine ⟨_, rfl, rfl, ?_, Only.of_below HB1.out⟩
    rw [HE.out, HNR.out]
    exact ownsRow_same HROW.out fun k hk => HB1.out.block k (HROW.out.lt k hk).2
  · obtain ⟨a, ea, ha, hf⟩ := firstAhead_some rv 0 hA
    rw [ea, Nat.zero_add] at HIX
    obtain ⟨g0, c0, hv0, hgz, -, -, -, -⟩ := row5_elem (f := rwV) (fun _ => rfl) hrow a ha
    have hra : ra = some ⟨g0, 0, none⟩ := by cases hv0; rfl
    subst hra
    obtain ⟨nr, hnr⟩ : ∃ nr, nr = rv.length := ⟨_, rfl⟩
    rw [← hnr] at hrl hl HIX ha HROW HG ⊢
    have HNR := Lib.hid hnr
    have HF := Lib.hid hf
    have HGZ := Lib.hid hgz
    have hne : (((a : Nat) : Int) == -1) = false := beq_eq_false_iff_ne.2 (by omega)
    have hgne : g0 ≠ gm := fun e => HG.out (by rw [e]; rfl)
    have HGNE := Lib.hid hgne
    clear hrow hsl hm hg hnr hR hA hv0 ea hf hgz hgne
    go_enter Tryz.func60, Tryz.ntmps60
    go_wp2_with fail
    refine HIX.out.mono ?_
    rintro e w1 ⟨rfl, hb1⟩
    have HSH : Hid (Shifts w1 g0 nr rc (rv.take a) (rv.drop (a + 1)) a (a + 1) (rwCells rv)) := Lib.hid ((Shifts.init HROW.out HNR.out ha).same (hb1.block g0 HGZ.out))
    have HM1 := Lib.hid (old_below HM.out hb1)
    have HO1 : Hid (Only (fun k => (Value.slice (some ⟨g0, 0, none⟩) nr rc).ownBlock = some k) w w1) := Lib.hid (Only.of_below hb1)
    clear hb1
    go_wp2_with fail
    go_loopg [5, 6, 7] nr (fun gk i j _ wr => ∃ (ii jj : Nat) (K T : List (Rw × Value)) (xs : List Value), i = .int .i64 (ii : Int) ∧ j = .int .i64 (jj : Int) ∧ jj + gk = nr + a + 1 ∧ Shifts wr g0 nr rc K T ii jj xs ∧ T = rv.drop jj ∧ R = K ++ T.filter (stays mi) ∧ Only (fun k => (Value.slice (some ⟨g0, 0, none⟩) nr rc).ownBlock = some k) w wr ∧ wr.heap[gm]? = some (.cells #[.int .i64 mi, .int .i64 mt] 32))
    case atStart =>
      refine ⟨a, a + 1, _, _, _, rfl, by go_num, by omega, HSH.out, rfl, ?_, HO1.out, HM1.out⟩
      have e : rv = rv.take (a + 1) ++ rv.drop (a + 1) := (List.take_append_drop _ _).symm
      rw [HR.out]
      conv => lhs; rw [e]
      rw [List.filter_append, HF.out]
    case round =>
      obtain ⟨ii, jj, K, T, xs, rfl, rfl, hkg, hsh, hT, hR, hon, hmw⟩ := hrel
      have HSH2 := Lib.hid hsh
      have HT := Lib.hid hT
      have HR2 := Lib.hid hR
      have HON := Lib.hid hon
      have HMW := Lib.hid hmw
      have hij := hsh.le
      have hjl := hsh.hj
      cases T with
      | nil =>
        simp only [List.length_nil, Nat.add_zero] at hjl
        subst hjl
        have hkk : ¬ (jj : Int) < (jj : Int) := by omega
        have hKR : Hid (R = K) := Lib.hid (by rw [HR2.out]; simp)
        have hi1 : (ii : Int) ≤ (jj : Int) := by omega
        have hi2 : (ii : Int) ≤ (rc : Int) := by omega
        have hlx : xs.length = jj * 5 := hsh.row.1
        obtain ⟨Z, hZ⟩ : ∃ Z, Z = (Builtin.zeroCells ([.int .i64 0, .int .i64 0, .int .i64 0, .slice none 0 0, .int .i64 0] : List Value).toArray (jj - ii)).toList := ⟨_, rfl⟩
        have hclr := run_clear_any wr 57 77 0 _ [.int .i64 0, .int .i64 0, .int .i64 0, .slice none 0 0, .int .i64 0] Tryz.underlying57 zero_sgRow rfl (by decide) g0 (ii * 5) (jj - ii) (rc - ii) (by omega)
          (fun t ht => by
            simp only [List.length_cons, List.length_nil] at ht
            rw [hsh.row.cellAt _ (by omega), List.getElem?_eq_getElem (by omega)]
            rfl) (fun t ht => hsh.row.frozenAt _)
        rw [← hZ] at hclr
        obtain ⟨h1, h2⟩ := ownsRow_many (w := wr) Z (ii * 5) xs wr hsh.row
        have h3 := ownsRow_first h1 (k := ii) (by omega)
        rw [putMany_take _ _ _ _ (Nat.le_refl _), hsh.hd] at h3
        have HON2 := Lib.hid (hon.then (only_grown h2))
        have HKL := Lib.hid hsh.hi
        obtain ⟨W2, hW2⟩ : ∃ W2, W2 = wr.setCells g0 (ii * 5) Z := ⟨_, rfl⟩
        rw [← hW2] at hclr h3 HON2
        have H3 := Lib.hid h3
        clear hsh hT hR hon hmw h1 h2 h3 hW2 hZ hlx
        go_wp2_with fail
        go_ret
        refine ⟨_, rfl, rfl, ?_, HON2.out⟩
        rw [hKR.out, HKL.out]
        exact H3.out
      | cons p T =>
        have hjn : jj < nr := by simp only [List.length_cons] at hjl; omega
        have hkk : (jj : Int) < (nr : Int) := by omega
        have e0 := hsh.cell 0 (by omega)
        have e1 := hsh.cell 1 (by omega)
        have e2 := hsh.cell 2 (by omega)
        have e3 := hsh.cell 3 (by omega)
        have e4 := hsh.cell 4 (by omega)
        simp only [rwV, List.getElem?_cons_zero, List.getElem?_cons_succ, Nat.add_zero] at e0 e1 e2 e3 e4
        have hgw := hsh.row.lt g0 rfl
        have hgz := hgw.2
        have hpm : p ∈ rv := by
          have : p ∈ rv.drop jj := by rw [← hT]; simp
          exact List.mem_of_mem_drop this
        obtain ⟨pa, pn, pc, hpv⟩ := HSL.out p hpm
        have hTT : T = rv.drop (jj + 1) := by
          rw [← List.drop_drop, ← hT]; rfl
        have HTT := Lib.hid hTT
        obtain ⟨W, hW⟩ : ∃ W, W = wr.alloc (.cells #[.int .i64 p.1.e.idx, .int .i64 p.1.e.term, .int .i64 p.1.e.kind, p.2, .int .i64 p.1.pos] 77) := ⟨_, rfl⟩
        have hbw : Below wr.heap.size wr W := by rw [hW]; exact below_alloc _ _
        have hbx : W.heap[wr.heap.size]? = some (.cells #[.int .i64 p.1.e.idx, .int .i64 p.1.e.term, .int .i64 p.1.e.kind, p.2, .int .i64 p.1.pos] 77) := by rw [hW]; exact heap_new _ _ _ rfl
        have hcall := ahead_any p pa pn pc hpv gm mi mt W (old_below hmw hbw)
        unfold rwAgg at hcall
        have HCALL := Lib.hid hcall
        have HBW := Lib.hid hbw
        have HBX := Lib.hid hbx
        have HW := Lib.hid hW
        obtain ⟨⟨⟨xi, xt, xk, xb⟩, po⟩, pv⟩ := p
        simp only at hpv e0 e1 e2 e3 e4 HCALL HBX HW
        subst hpv
        clear hcall hbw hbx hW hsh hT hR hon hmw hgw hpm hTT hjl
        go_wp2_with fail
        rw [← HW.out]
        refine HCALL.out.mono ?_
        rintro e w2 ⟨rfl, hb2⟩
        have HB2 : Hid (Below wr.heap.size wr w2) := Lib.hid (HBW.out.trans (hb2.mono HBW.out.size))
        have HX2 := Lib.hid (old_below HBX.out hb2)
        clear hb2
        by_cases hle : xi ≤ mi
        · have q : decide (xi ≤ mi) = true := decide_eq_true hle
          clear e0 e1 e2 e3 e4
          go_wp2_with fail
          go_roundg (gk - 1)
          case measure => omega
          case rel =>
            refine ⟨ii, jj + 1, K, T, xs, rfl, by go_num, by omega, HSH2.out.skip.same (HB2.out.block g0 hgz), HTT.out, ?_, HON.out.next HB2.out, old_below HMW.out HB2.out⟩
            rw [HR2.out, List.filter_cons_of_neg (by simp [stays]; omega)]
        · have q : decide (xi ≤ mi) = false := decide_eq_false hle
          have hii : (ii : Int) < (nr : Int) := by omega
          have hs2 := HSH2.out.same (HB2.out.block g0 hgz)
          have hlx : xs.length = nr * 5 := hs2.row.1
          have hcc : ∀ t, t < 5 → ∃ u, w2.cell? ⟨g0, ii * 5 + t, none⟩ = some u := fun t ht => ⟨_, (hs2.row.cellAt _ (by omega)).trans (List.getElem?_eq_getElem (by omega))⟩
          obtain ⟨u0, s0⟩ := hcc 0 (by omega)
          obtain ⟨u1, s1⟩ := hcc 1 (by omega)
          obtain ⟨u2, s2⟩ := hcc 2 (by omega)
          obtain ⟨u3, s3⟩ := hcc 3 (by omega)
          obtain ⟨u4, s4⟩ := hcc 4 (by omega)
          have fz := fun t => hs2.row.frozenAt t
          have z0 := fz (ii * 5)
          have z1 := fz (ii * 5 + 1)
          have z2 := fz (ii * 5 + 2)
          have z3 := fz (ii * 5 + 3)
          have z4 := fz (ii * 5 + 4)
          have hgz2 := Nat.lt_of_lt_of_le hgz HB2.out.size
          have HPUT := Lib.hid hs2.put
          have hgr := (ownsRow_many (w := w2) (rwV (⟨⟨⟨xi, xt, xk, xb⟩, po⟩, .slice pa pn pc⟩ : Rw × Value)) (ii * 5) xs w2 hs2.row).2
          have HON2 : Hid (Only (fun k => (Value.slice (some ⟨g0, 0, none⟩) nr rc).ownBlock = some k) w (w2.setCells g0 (ii * 5) (rwV (⟨⟨⟨xi, xt, xk, xb⟩, po⟩, .slice pa pn pc⟩ : Rw × Value)))) := Lib.hid ((HON.out.next HB2.out).then (only_grown hgr))
          have HMW2 : Hid ((w2.setCells g0 (ii * 5) (rwV (⟨⟨⟨xi, xt, xk, xb⟩, po⟩, .slice pa pn pc⟩ : Rw × Value))).heap[gm]? = some (.cells #[.int .i64 mi, .int .i64 mt] 32)) := Lib.hid (by
            rw [hgr.block gm (lt_of_heap (old_below HMW.out HB2.out)) (fun e => HGNE.out (Option.some.inj e).symm)]
            exact old_below HMW.out HB2.out)
          have x2 := HX2.out
          obtain ⟨x0, x1, x2', x3, x4, -, xz⟩ := five_cells x2
          simp only [Nat.add_zero] at s0
          clear e0 e1 e2 e3 e4 hs2 hlx hcc fz hgr x2
          go_wp2_with fail
          go_roundg (gk - 1)
          case measure => omega
          case rel =>
            refine ⟨ii + 1, jj + 1, _, T, _, by go_num, by go_num, by omega, HPUT.out, HTT.out, ?_, HON2.out, HMW2.out⟩
            rw [HR2.out, List.filter_cons_of_pos (by simp [stays]; omega), List.append_assoc]
            rfl
end Go.Proofs.YtamgjlegcegmeaaGreatDoor.M

/- Part: SegBeg. -/
namespace Go.Proofs.YtamgjlegcegmeaaGreatDoor.M
open Go.RowKit Go.Maps
open D (Fl Dk)

/-- The log begins behind a mark. -/
def begun (h : Hd) (mi mt : Int) : Hd := { h with rows := h.rows.filter (fun r => decide (mi < r.e.idx)), mi := mi, mt := mt, synced := max h.synced mi }

theorem LS.setBegin {K : Nat → Obj → Prop} {w wr w1 w' : World} {X Xd : Nat → Prop} {g gd : Nat} {least : Int} {h : Hd} {d : Dk} (l : LS K w X Xd g gd least h d wr) (mi mt : Int) {vr vf u : Value} {rv : List (Rw × Value)} (la : LgAt wr X g gd least h vr vf rv)
    (ho1 : Only (fun k => vr.ownBlock = some k) wr w1) (hr : w1.ownsRow 0 77 5 u (rv.filter (stays mi)).length (rwCells (rv.filter (stays mi)))) (hu : u.ownBlock = vr.ownBlock) (ho2 : Only (fun k => k = g) w1 w')
    (hbox : w'.heap[g]? = some (.cells #[.int .i64 mi, .int .i64 mt, u, vf, .int .i64 (max h.synced mi), .pointer (some ⟨gd, 0, none⟩), .int .i64 least] 63)) : LS K w X Xd g gd least (begun h mi mt) d w' := by
  have lz := l.lg.2
  have oX : Only X wr w' := (ho1.mono fun k hk => (la.fr k hk).1).then (ho2.mono fun k hk => by rw [hk]; exact la.fg)
  have bl : ∀ q, q < wr.heap.size → q ≠ g → vr.ownBlock ≠ some q → w'.heap[q]? = wr.heap[q]? := fun q hq h1 h2 => (ho2.block q (Nat.lt_of_lt_of_le hq ho1.size) h1).trans (ho1.block q hq h2)
  refine l.self oX (fun q hq => .inl hq) ⟨⟨u, vf, rv.filter (stays mi), hbox, ?_, ownsRow_same hr fun q hq => ho2.block q (Nat.lt_of_lt_of_le (lz q (la.fr q (hu ▸ hq)).1) ho1.size) (la.fr q (hu ▸ hq)).2.1,
    ownsRow_same la.frow fun q hq => bl q (lz q (la.ff q hq).1) (la.ff q hq).2 fun e => (la.fr q e).2.2 hq, fun p hp => ?_, la.fg, fun k hk => la.fr k (hu ▸ hk), la.ff⟩, fun q hq => Nat.lt_of_lt_of_le (lz q hq) oX.size⟩
  · show _ = h.rows.filter _
    rw [← la.rows, List.filter_map]
    rfl
  · obtain ⟨B, b1, b2⟩ := la.bod p (List.mem_filter.1 hp).1
    exact ⟨B, b1.same (fun _ h => h) fun q hq => bl q (lz q (b2 q hq).1) (b2 q hq).2.1 (b2 q hq).2.2.1, fun q hq => ⟨(b2 q hq).1, (b2 q hq).2.1, by rw [hu]; exact (b2 q hq).2.2.1, (b2 q hq).2.2.2⟩⟩

set_option maxRecDepth 20000 in
set_option maxHeartbeats 3200000 in
theorem begin_any (K : Nat → Obj → Prop) (w wa : World) (X Xd : Nat → Prop) (g gd : Nat) (least : Int) (h : Hd) (d : Dk) (l : LS K w X Xd g gd least h d wa) (hrl : h.rows.length ≤ 1000000) (mi mt : Int) :
    Calls Tryz.prog 31 #[.pointer (some ⟨g, 0, none⟩), .agg #[.int .i64 mi, .int .i64 mt]] wa fun e w' => e = .returned (.tuple #[]) ∧ LS K w X Xd g gd least (begun h mi mt) d w' := by
  obtain ⟨W, hW⟩ : ∃ W, W = wa.alloc (.cells #[.int .i64 mi, .int .i64 mt] 32) := ⟨_, rfl⟩
  have hb0 : Below wa.heap.size wa W := by rw [hW]; exact below_alloc _ _
  have hx0 : W.heap[wa.heap.size]? = some (.cells #[.int .i64 mi, .int .i64 mt] 32) := by rw [hW]; exact heap_new _ _ _ rfl
  have hnx : ¬ X wa.heap.size := fun hx => Nat.lt_irrefl _ (l.lt hx)
  have l0 := l.next hb0
  obtain ⟨gb, hgb⟩ : ∃ gb, gb = wa.heap.size := ⟨_, rfl⟩
  rw [← hgb] at hx0 hnx
  have HW := Lib.hid hW
  have HGB := Lib.hid hgb
  obtain ⟨⟨vr, vf, rv, la9⟩, lz9⟩ := l.lg
  have la : LgAt W X g gd least h vr vf rv := la9.same (fun _ h => h) fun k hk => hb0.block k (lz9 k hk)
  have hrv : rv.length ≤ 1000000 := by rw [← la.rows, List.length_map] at hrl; exact hrl
  have HDEL := Lib.hid (DeleteFunc_any rv vr gb mi mt W la.rrow la.slices hx0 (fun e => hnx (la.fr gb e).1) hrv)
  have HLA := Lib.hid la
  have HL := Lib.hid l0
  have HX := Lib.hid hx0
  have HNX := Lib.hid hnx
  obtain ⟨ra, rc, rfl, -, -⟩ := row5_slice la.rrow
  obtain ⟨c0, c1, c2, c3, c4, c5, c6, cz⟩ := seven_cells la9.box
  have hne : g ≠ gb := fun e => hnx (e ▸ la.fg)
  have hne2 : gb ≠ g := fun e => hne e.symm
  have HCZ := Lib.hid (lt_of_heap la.box)
  clear l0 l la la9 lz9 hx0 hW hgb hb0 hnx hrl hrv c0 c1 c3 c4 c5 c6
  go_enter Tryz.func31, Tryz.ntmps31
  go_wp2_with fail
  rw [← HW.out]
  rw [← HGB.out]
  refine HDEL.out.mono ?_
  rintro e w1 ⟨u, rfl, hu, hrow, hon⟩
  obtain ⟨ua, uc, rfl, -, -⟩ := row5_slice hrow
  have HU := Lib.hid hu
  have HROW := Lib.hid hrow
  have HON := Lib.hid hon
  obtain ⟨nk, hnk⟩ : ∃ nk, nk = (rv.filter (stays mi)).length := ⟨_, rfl⟩
  rw [← hnk] at HU HROW ⊢
  have HNK := Lib.hid hnk
  have hbox1 : w1.heap[g]? = _ := (hon.block g HCZ.out fun e => (HLA.out.fr g e).2.1 rfl).trans HLA.out.box
  have hmk1 := (hon.block gb (lt_of_heap HX.out) fun e => HNX.out (HLA.out.fr gb e).1).trans HX.out
  obtain ⟨k0, k1, k2, k3, k4, k5, k6, kz⟩ := seven_cells hbox1
  obtain ⟨b0, b1, f0, f1, bz⟩ := block2 hmk1
  have fd : ∀ j, w1.frozen? ⟨g, j, none⟩ = false := fun j => frozen_of_row _ _ j _ _ hbox1
  have i0 := fd 0
  have i1 := fd 1
  have i2 := fd 2
  have i4 := fd 4
  have HBOX1 := Lib.hid hbox1
  clear hu hrow hon hnk hbox1 hmk1 fd c2 cz
  go_wp2_with fail
  go_region
  go_wp2_with fail
  go_end0
  exact ⟨rfl, HL.out.setBegin mi mt HLA.out HON.out (by rw [← HNK.out]; exact HROW.out) HU.out (Only.drawn (Only.set (g := g) (Only.set (g := g) (Only.set (g := g) (Only.set (g := g) (Only.refl (fun k => k = g) w1) (.inl rfl) _) (.inl rfl) _) (.inl rfl) _) (.inl rfl) _)) (heap_sevenE HBOX1.out)⟩
end Go.Proofs.YtamgjlegcegmeaaGreatDoor.M

/- Part: SegSet. -/
namespace Go.Proofs.YtamgjlegcegmeaaGreatDoor.M
open Go.RowKit Go.Maps
open D (Fl Dk)

set_option maxRecDepth 20000 in
set_option maxHeartbeats 3200000 in
theorem settle_none (K : Nat → Obj → Prop) (w wa : World) (X Xd : Nat → Prop) (g gd : Nat) (least : Int) (h : Hd) (d : Dk) (l : LS K w X Xd g gd least h d wa) (hr : h.rows = []) (hf : h.files = []) (mi mt : Int) :
    Calls Tryz.prog 22 #[.pointer (some ⟨g, 0, none⟩), .agg #[.int .i64 mi, .int .i64 mt]] wa fun e w' => e = .returned (.func (.func 48) #[] #[]) ∧ LS K w X Xd g gd least (emptied h mi mt) d w' := by
  obtain ⟨W, hW⟩ : ∃ W, W = wa.alloc (.cells #[.int .i64 mi, .int .i64 mt] 32) := ⟨_, rfl⟩
  have hb0 : Below wa.heap.size wa W := by rw [hW]; exact below_alloc _ _
  have hx0 : W.heap[wa.heap.size]? = some (.cells #[.int .i64 mi, .int .i64 mt] 32) := by rw [hW]; exact heap_new _ _ _ rfl
  have l0 := l.next hb0
  have HFIT := Lib.hid (fits_none X g gd least h W l0.lg hr hf mi mt)
  have HL := Lib.hid l0
  have HX := Lib.hid hx0
  have HW := Lib.hid hW
  clear hb0 hx0 l0 l hW hr hf
  go_enter Tryz.func22, Tryz.ntmps22
  go_wp2_with fail
  rw [← HW.out]
  refine HFIT.out.mono ?_
  rintro e w1 ⟨rfl, hb1⟩
  have HL1 := Lib.hid (HL.out.next hb1)
  obtain ⟨b0, b1, f0, f1, bz⟩ := block2 (old_below HX.out hb1)
  clear hb1
  go_wp2_with fail
  refine (empty_any K w w1 X Xd g gd least h d HL1.out mi mt).mono ?_
  rintro e w2 ⟨rfl, hl2⟩
  have HL2 := Lib.hid hl2
  clear hl2 b0 b1 f0 f1 bz
  go_wp2_with fail
  go_ret
  exact ⟨rfl, HL2.out⟩

set_option maxRecDepth 20000 in
set_option maxHeartbeats 3200000 in
theorem settle_fits (K : Nat → Obj → Prop) (w wa : World) (X Xd : Nat → Prop) (g gd : Nat) (least : Int) (h : Hd) (d : Dk) (l : LS K w X Xd g gd least h d wa) (hrl : h.rows.length ≤ 1000000) (mi mt : Int)
    (hfit : ∀ W, Lg W X g gd least h → Calls Tryz.prog 46 #[.pointer (some ⟨g, 0, none⟩), .agg #[.int .i64 mi, .int .i64 mt]] W fun e w' => e = .returned (.bool true) ∧ Below W.heap.size W w') (hlast : 0 ≤ (begun h mi mt).last.1 ∧ (begun h mi mt).last.1 < 10000000000) :
    Calls Tryz.prog 22 #[.pointer (some ⟨g, 0, none⟩), .agg #[.int .i64 mi, .int .i64 mt]] wa fun e w' => ∃ gn, e = .returned (.func (.func 49) #[] #[.pointer (some ⟨gn, 0, none⟩)]) ∧ w'.heap[gn]? = some (.cells #[.int .i64 ((begun h mi mt).last.1 + 1)] 3) ∧ ¬ X gn ∧ ¬ Xd gn ∧ LS K w X Xd g gd least (begun h mi mt) d w' := by
  obtain ⟨W, hW⟩ : ∃ W, W = wa.alloc (.cells #[.int .i64 mi, .int .i64 mt] 32) := ⟨_, rfl⟩
  have hb0 : Below wa.heap.size wa W := by rw [hW]; exact below_alloc _ _
  have hx0 : W.heap[wa.heap.size]? = some (.cells #[.int .i64 mi, .int .i64 mt] 32) := by rw [hW]; exact heap_new _ _ _ rfl
  have l0 := l.next hb0
  have HFIT := Lib.hid (hfit W l0.lg)
  have HL := Lib.hid l0
  have HX := Lib.hid hx0
  have HW := Lib.hid hW
  clear hb0 hx0 l0 l hW hfit
  go_enter Tryz.func22, Tryz.ntmps22
  go_wp2_with fail
  rw [← HW.out]
  refine HFIT.out.mono ?_
  rintro e w1 ⟨rfl, hb1⟩
  have HL1 := Lib.hid (HL.out.next hb1)
  obtain ⟨b0, b1, f0, f1, bz⟩ := block2 (old_below HX.out hb1)
  clear hb1
  go_wp2_with fail
  refine (begin_any K w w1 X Xd g gd least h d HL1.out hrl mi mt).mono ?_
  rintro e w2 ⟨rfl, hl2⟩
  have HL2 := Lib.hid hl2
  clear hl2 b0 b1 f0 f1 bz
  go_wp2_with fail
  refine HL2.out.lg.last_any.mono ?_
  rintro e w3 ⟨rfl, hb3⟩
  have HL3 := Lib.hid (HL2.out.next hb3)
  obtain ⟨⟨l1, l2⟩, hl⟩ : ∃ ll, ll = (begun h mi mt).last := ⟨_, rfl⟩
  rw [← hl] at hlast ⊢
  have HB4 : Hid (LS K w X Xd g gd least (begun h mi mt) d (w3.alloc (.cells #[.int .i64 (l1 + 1)] 3))) := Lib.hid (HL3.out.next (below_alloc _ _))
  have HN : Hid (¬ X w3.heap.size ∧ ¬ Xd w3.heap.size) := Lib.hid ⟨fun hx => Nat.lt_irrefl _ (HL3.out.lt hx), fun hx => Nat.lt_irrefl _ (HL3.out.ds.lt _ hx)⟩
  simp only at hlast
  have q1 := hlast.1
  have q2 := hlast.2
  have HLL := Lib.hid hl
  have hfm := mark_idx l1 l2
  clear hb3 hl hlast
  go_wp2_with fail
  go_ret
  refine ⟨_, rfl, ?_, HN.out.1, HN.out.2, HB4.out⟩
  rw [← HLL.out]
  exact heap_new _ _ _ rfl
end Go.Proofs.YtamgjlegcegmeaaGreatDoor.M

/- Part: SegDlt. -/
namespace Go.Proofs.YtamgjlegcegmeaaGreatDoor.M
open Go.RowKit Go.Maps
open D (Fl Dk)

theorem zero_sgFile (w : World) : (zeroValue 75).run Tryz.prog w = .ok (.agg #[.int .i64 0, .int .i64 0, .int .i64 0, .int .i64 0, .bool false]) w := by
  obtain ⟨ib, hib, hib0, hib1, hib2⟩ := info_parts infoSgFile
  simp [zeroValue, typeInfo, hib, hib0]

/-- An append whose run is known. -/
theorem wp_append_run {P : Program} (w : World) {o : Oper} {a : Act} {K : Act → World → Prop} {Q : Exit → Act → World → Prop} (s y : Operand) (t : TypeId)
    (ho : o.op = .call { callee := .builtin .append, args := #[s, y], argTypes := #[t, t] }) (v x v' : Value) (w' : World) (hs : a.eval s = v) (hy : a.eval y = x)
    (hr : (Builtin.append_ #[t, t] o.type #[v, x]).run P w = .ok v' w') (h : K (a.put o.dst v') w') : o.wp P a w K Q := by
  unfold Oper.wp execOp
  simp only [ho, resolve, invoke, builtin, Sem.run_bind, Sem.run_pure, Result.andThen_ok, List.map_toArray, List.map_cons, List.map_nil, hs, hy, hr]
  exact h

theorem fiV_one (fs : List Fi) : ∀ u ∈ fiCells fs, u.oneCell' = true := by
  intro u hu
  obtain ⟨f, -, hf⟩ := List.mem_flatMap.1 hu
  simp only [fiV, List.mem_cons, List.not_mem_nil, or_false] at hf
  rcases hf with rfl | rfl | rfl | rfl | rfl <;> rfl

theorem fiCells_app (a b : List Fi) : fiCells (a ++ b) = fiCells a ++ fiCells b := by unfold fiCells; rw [List.flatMap_append]

set_option maxRecDepth 20000 in
set_option maxHeartbeats 3200000 in
theorem DeleteFi_any (fs : List Fi) (v : Value) (i m : Nat) (hn : fs.length = i + 1 + m) (w : World) (hrow : w.ownsRow 0 75 5 v fs.length (fiCells fs)) (hl : fs.length ≤ 1000000) :
    Calls Tryz.prog 63 #[v, .int .i64 (i : Int), .int .i64 ((i : Int) + 1)] w fun e w' => ∃ u, e = .returned u ∧ u.ownBlock = v.ownBlock ∧ w'.ownsRow 0 75 5 u (i + m) (fiCells (fs.eraseIdx i)) ∧ Only (fun k => v.ownBlock = some k) w w' := by
  obtain ⟨g0, c0, rfl, hgz, hlc, hcm, -, hfz⟩ := row5_elem (f := fiV) (fun _ => rfl) hrow i (by omega)
  have HROW := Lib.hid hrow
  have hsz : (fiCells fs).length = (i + 1 + m) * 5 := by rw [fiCells_length, hn]
  obtain ⟨news, hnw⟩ : ∃ L, L = fiCells (fs.drop (i + 1)) := ⟨_, rfl⟩
  have hnl : news.length = m * 5 := by rw [hnw, fiCells_length, List.length_drop]; congr 1; omega
  have hcells : ∀ j, j < (i + 1 + m) * 5 → w.cell? ⟨g0, j, none⟩ = some ((fiCells fs)[j]?.getD undef) := fun j hj => by
    rw [hrow.cellAt j (by omega), List.getElem?_eq_getElem (by omega)]
    rfl
  have hnews : ∀ j u, news[j]? = some u → w.cell? ⟨g0, (i + 1) * 5 + j, none⟩ = some u := fun j u hj => by
    obtain ⟨h1, -⟩ := List.getElem?_eq_some_iff.1 hj
    have e : fiCells fs = fiCells (fs.take (i + 1)) ++ news := by rw [hnw, ← fiCells_app, List.take_append_drop]
    have h2 : (fiCells (fs.take (i + 1))).length = (i + 1) * 5 := by rw [fiCells_length, List.length_take]; congr 1; omega
    rw [hrow.cellAt _ (by omega), e, List.getElem?_append_right (by omega), h2, Nat.add_sub_cancel_left, hj]
  obtain ⟨ib, hib, hib0, hib1, hib2⟩ := info_parts infoSgFile
  have happ : ∀ (W : World), W.heap = w.heap → ∀ (a : Addr) (cc : Nat), (m ≠ 0 → a = ⟨g0, (i + 1) * 5, none⟩) → (Builtin.append_ #[58, 58] 58 #[.slice (some ⟨g0, 0, none⟩) i c0, .slice (some a) m cc]).run Tryz.prog W = .ok (.slice (some ⟨g0, 0, none⟩) (i + m) c0) (W.setCells g0 (i * 5) news) := fun W hW a cc ha => by
    have hce : ∀ a : Addr, W.cell? a = w.cell? a := fun a => World.cell?_of_block (by rw [hW])
    have hfe : ∀ a : Addr, W.frozen? a = w.frozen? a := fun a => by unfold World.frozen?; rw [hW]
    have := run_append_room_cells (P := Tryz.prog) W 58 58 75 ib Tryz.underlying58 hib g0 0 i c0 a m cc news (by rw [hib1]; exact hnl) (fun j u hj => by
      have hm : m ≠ 0 := fun e => by
        have := (List.getElem?_eq_some_iff.1 hj).1
        omega
      rw [ha hm, hce]
      rw [addr_add]
      exact hnews j u hj) (fun u hu => fiV_one (fs.drop (i + 1)) u (by rw [← hnw]; exact hu)) (by omega) (fun j hj => by rw [hce, hib1, Nat.zero_add, hcells _ (by omega)]; rfl) (fun j hj => by rw [hfe, hib1, Nat.zero_add]; exact hfz _)
    rw [hib1, Nat.zero_add] at this
    exact this
  have HAPP := Lib.hid happ
  obtain ⟨h1, h2⟩ := ownsRow_many (w := w.drew) news (i * 5) (fiCells fs) w.drew (ownsRow_same hrow fun _ _ => rfl)
  have HS1 : Hid (Only (fun k => k = g0) w (w.drew.setCells g0 (i * 5) news)) := Lib.hid (((Only.refl _ w).drawn).then ((only_grown h2).mono fun k hk => (Option.some.inj hk).symm))
  obtain ⟨W1, hW1⟩ : ∃ W1, W1 = w.drew.setCells g0 (i * 5) news := ⟨_, rfl⟩
  rw [← hW1] at h1 h2 HS1
  have HW1 := Lib.hid hW1
  clear hW1
  obtain ⟨Z, hZ⟩ : ∃ Z, Z = (Builtin.zeroCells ([.int .i64 0, .int .i64 0, .int .i64 0, .int .i64 0, .bool false] : List Value).toArray 1).toList := ⟨_, rfl⟩
  obtain ⟨h3, h4⟩ := ownsRow_many (w := W1) Z ((i + m) * 5) _ _ h1
  have h5 := ownsRow_first h3 (k := i + m) (by omega)
  have h6 : (putMany (putMany (fiCells fs) (i * 5) news) ((i + m) * 5) Z).take ((i + m) * 5) = fiCells (fs.eraseIdx i) := by
    rw [putMany_take _ _ _ _ (Nat.le_refl _), putMany_eq _ _ _ (by omega), ← List.append_assoc, List.take_append_of_le_length (by simp; omega), List.take_of_length_le (by simp; omega), List.eraseIdx_eq_take_drop_succ, fiCells_app, ← hnw]
    congr 1
    have e : fiCells fs = fiCells (fs.take i) ++ fiCells (fs.drop i) := by rw [← fiCells_app, List.take_append_drop]
    have h2 : (fiCells (fs.take i)).length = i * 5 := by rw [fiCells_length, List.length_take]; congr 1; omega
    rw [e, ← h2, List.take_left]
  rw [h6] at h5
  have hclr := run_clear_any W1 58 75 0 _ [.int .i64 0, .int .i64 0, .int .i64 0, .int .i64 0, .bool false] Tryz.underlying58 zero_sgFile rfl (by decide) g0 ((i + m) * 5) 1 (c0 - (i + m)) (by omega)
    (fun t ht => by
      simp only [List.length_cons, List.length_nil] at ht
      rw [h1.cellAt _ (by omega), List.getElem?_eq_getElem (by rw [putMany_length]; omega)]
      rfl) (fun t ht => h1.frozenAt _)
  rw [← hZ] at hclr
  obtain ⟨nn, hnn⟩ : ∃ nn, nn = fs.length := ⟨_, rfl⟩
  rw [← hnn] at hlc hn ⊢
  have q0 : ((i : Int) == (i : Int) + 1) = false := beq_eq_false_iff_ne.2 (by omega)
  have q1 : (i : Int) ≤ (i : Int) + 1 := by omega
  have q2 : (i : Int) + 1 ≤ (nn : Int) := by omega
  have q3 : (nn : Int) ≤ (c0 : Int) := by omega
  have q4 : (i : Int) ≤ 1000000 := by omega
  have q5 : nn - (i + 1) = m := by omega
  have q6 : ((i + m : Nat) : Int) = (i : Int) + (m : Int) := by omega
  have q7 : nn - (i + m) = 1 := by omega
  have q8 : (i : Int) ≤ (c0 : Int) := by omega
  have HN := Lib.hid hn
  have HCL := Lib.hid hclr
  have H5 := Lib.hid h5
  have HON : Hid (Only (fun k => (Value.slice (some ⟨g0, 0, none⟩) nn c0).ownBlock = some k) w (W1.setCells g0 ((i + m) * 5) Z)) := Lib.hid ((HS1.out.mono fun k hk => by rw [hk]; rfl).then (only_grown h4))
  clear hrow hsz hnl hcells hnews happ h1 h2 h3 h4 h5 h6 hclr hnn hn hib hib0 hib1 hib2 hfz
  go_enter Tryz.func63, Tryz.ntmps63
  go_wp2_with fail
  have q9 : (0 : Int) ≤ (i : Int) + 1 := by omega
  have hS : Only (fun k => k = g0) w w.drew := (Only.refl _ w).drawn
  clear hnw
  by_cases hc : c0 = i + 1
  · have e1 := HAPP.out w.drew rfl ⟨g0, 0, none⟩ (c0 - (i + 1)) (fun e => absurd HN.out (by omega))
    rw [← HW1.out] at e1
    subst hc
    refine wp_region_held (S := fun w' => Only (fun k => k = g0) w w') (by kernel_rfl) ?_
    refine H_take (i := 0) (v := ?_) rfl (by as_aux_lemma => kernel_rfl) (by as_aux_lemma => kernel_rfl) (by as_aux_lemma => kernel_rfl) (fun _ _ _ h => h) (by rfl) hS ?_ ?_
    rotate_left
    · intro w' hw'; go_simp; with_reducible rfl
    go_simp
    refine H_take (i := 1) (v := ?_) rfl (by as_aux_lemma => kernel_rfl) (by as_aux_lemma => kernel_rfl) (by as_aux_lemma => kernel_rfl) (fun _ _ _ h => h) (by rfl) hS ?_ ?_
    rotate_left
    · intro w' hw'; go_simp; with_reducible rfl
    go_simp
    refine H_take (i := 2) (v := ?_) rfl (by as_aux_lemma => kernel_rfl) (by as_aux_lemma => kernel_rfl) (by as_aux_lemma => kernel_rfl) (fun _ _ _ h => h) (by rfl) hS ?_ ?_
    rotate_left
    · intro w' hw'; go_simp; with_reducible rfl
    go_simp
    refine H_take (i := 3) (v := ?_) rfl (by as_aux_lemma => kernel_rfl) (by as_aux_lemma => kernel_rfl) (by as_aux_lemma => kernel_rfl) (fun _ _ _ h => h) (by rfl) hS ?_ ?_
    rotate_left
    · intro w' hw'; go_simp; with_reducible rfl
    go_simp
    refine H_take (i := 4) (v := ?_) rfl (by as_aux_lemma => kernel_rfl) (by as_aux_lemma => kernel_rfl) (by as_aux_lemma => kernel_rfl) (fun _ _ _ h => h) (by rfl) hS ?_ ?_
    rotate_left
    · intro w' hw'; go_simp; with_reducible rfl
    go_simp
    refine H_take (i := 5) (v := ?_) rfl (by as_aux_lemma => kernel_rfl) (by as_aux_lemma => kernel_rfl) (by as_aux_lemma => kernel_rfl) (fun _ _ _ h => h) (by rfl) hS ?_ ?_
    rotate_left
    · intro w' hw'; go_simp; with_reducible rfl
    go_simp
    refine H_one (i := 6) (by as_aux_lemma => kernel_rfl) rfl (by rfl) ?_
    refine wp_append_run _ _ _ 58 rfl _ _ _ _ rfl rfl e1 ?_
    refine ⟨HS1.out, ?_⟩
    go_simp
    have hS1 := HS1.out
    refine H_take (i := 7) (v := ?_) rfl (by as_aux_lemma => kernel_rfl) (by as_aux_lemma => kernel_rfl) (by as_aux_lemma => kernel_rfl) (fun _ _ _ h => h) (by rfl) hS1 ?_ ?_
    rotate_left
    · intro w' hw'; go_simp; with_reducible rfl
    go_simp
    refine wpAnyH_done (by as_aux_lemma => kernel_rfl) ?_ _
    clear hS hS1 e1
    clear hZ
    have hclr := HCL.out
    go_wp2_with fail
    go_ret
    exact ⟨_, rfl, rfl, H5.out, HON.out⟩
  · have e1 := HAPP.out w.drew rfl ⟨g0, (i + 1) * 5, none⟩ (c0 - (i + 1)) (fun _ => rfl)
    rw [← HW1.out] at e1
    refine wp_region_held (S := fun w' => Only (fun k => k = g0) w w') (by kernel_rfl) ?_
    refine H_take (i := 0) (v := ?_) rfl (by as_aux_lemma => kernel_rfl) (by as_aux_lemma => kernel_rfl) (by as_aux_lemma => kernel_rfl) (fun _ _ _ h => h) (by rfl) hS ?_ ?_
    rotate_left
    · intro w' hw'; go_simp; with_reducible rfl
    go_simp
    refine H_take (i := 1) (v := ?_) rfl (by as_aux_lemma => kernel_rfl) (by as_aux_lemma => kernel_rfl) (by as_aux_lemma => kernel_rfl) (fun _ _ _ h => h) (by rfl) hS ?_ ?_
    rotate_left
    · intro w' hw'; go_simp; with_reducible rfl
    go_simp
    refine H_take (i := 2) (v := ?_) rfl (by as_aux_lemma => kernel_rfl) (by as_aux_lemma => kernel_rfl) (by as_aux_lemma => kernel_rfl) (fun _ _ _ h => h) (by rfl) hS ?_ ?_
    rotate_left
    · intro w' hw'; go_simp; with_reducible rfl
    go_simp
    refine H_take (i := 3) (v := ?_) rfl (by as_aux_lemma => kernel_rfl) (by as_aux_lemma => kernel_rfl) (by as_aux_lemma => kernel_rfl) (fun _ _ _ h => h) (by rfl) hS ?_ ?_
    rotate_left
    · intro w' hw'; go_simp; with_reducible rfl
    go_simp
    refine H_take (i := 4) (v := ?_) rfl (by as_aux_lemma => kernel_rfl) (by as_aux_lemma => kernel_rfl) (by as_aux_lemma => kernel_rfl) (fun _ _ _ h => h) (by rfl) hS ?_ ?_
    rotate_left
    · intro w' hw'; go_simp; with_reducible rfl
    go_simp
    refine H_take (i := 5) (v := ?_) rfl (by as_aux_lemma => kernel_rfl) (by as_aux_lemma => kernel_rfl) (by as_aux_lemma => kernel_rfl) (fun _ _ _ h => h) (by rfl) hS ?_ ?_
    rotate_left
    · intro w' hw'; go_simp; with_reducible rfl
    go_simp
    refine H_one (i := 6) (by as_aux_lemma => kernel_rfl) rfl (by rfl) ?_
    refine wp_append_run _ _ _ 58 rfl _ _ _ _ rfl rfl e1 ?_
    refine ⟨HS1.out, ?_⟩
    go_simp
    have hS1 := HS1.out
    refine H_take (i := 7) (v := ?_) rfl (by as_aux_lemma => kernel_rfl) (by as_aux_lemma => kernel_rfl) (by as_aux_lemma => kernel_rfl) (fun _ _ _ h => h) (by rfl) hS1 ?_ ?_
    rotate_left
    · intro w' hw'; go_simp; with_reducible rfl
    go_simp
    refine wpAnyH_done (by as_aux_lemma => kernel_rfl) ?_ _
    clear hS hS1 e1
    clear hZ
    have hclr := HCL.out
    go_wp2_with fail
    go_ret
    exact ⟨_, rfl, rfl, H5.out, HON.out⟩
end Go.Proofs.YtamgjlegcegmeaaGreatDoor.M

/- Part: SegDlr. -/
namespace Go.Proofs.YtamgjlegcegmeaaGreatDoor.M
open Go.RowKit Go.Maps
open D (Fl Dk)

set_option maxRecDepth 20000 in
set_option maxHeartbeats 3200000 in
theorem DeleteRw_any (rv : List (Rw × Value)) (v : Value) (i : Nat) (hi : i ≤ rv.length) (w : World) (hrow : w.ownsRow 0 77 5 v rv.length (rwCells rv)) (hl : rv.length ≤ 1000000) :
    Calls Tryz.prog 69 #[v, .int .i64 (i : Int), .int .i64 (rv.length : Int)] w fun e w' => ∃ u, e = .returned u ∧ u.ownBlock = v.ownBlock ∧ w'.ownsRow 0 77 5 u i (rwCells (rv.take i)) ∧ Only (fun k => v.ownBlock = some k) w w' := by
  obtain ⟨nn, hnn⟩ : ∃ nn, nn = rv.length := ⟨_, rfl⟩
  by_cases hin : i = rv.length
  · have HE : Hid (rwCells (rv.take i) = rwCells rv) := Lib.hid (by rw [hin, List.take_length])
    have HROW := Lib.hid hrow
    obtain ⟨ra, rc, rfl, hrl, hrm⟩ := row5_slice hrow
    rw [← hnn] at hrl hl hin HROW ⊢
    subst hin
    have q1 : (i : Int) ≤ (rc : Int) := by omega
    have q2 : (i : Int) ≤ 1000000 := by omega
    clear hnn hrow hi
    go_enter Tryz.func69, Tryz.ntmps69
    go_wp2_with fail
    go_ret
    refine ⟨_, rfl, rfl, ?_, Only.refl _ _⟩
    rw [HE.out]
    exact HROW.out
  · obtain ⟨g0, c0, rfl, hgz, hlc, hcm, -, hfz⟩ := row5_elem (f := rwV) (fun _ => rfl) hrow i (by omega)
    have hsz : (rwCells rv).length = rv.length * 5 := rwCells_length rv
    obtain ⟨r, hr⟩ : ∃ r, rv.length = i + r := ⟨rv.length - i, by omega⟩
    obtain ⟨ib, hib, hib0, hib1, hib2⟩ := info_parts infoSgRow
    have HAPP : Hid (∀ (a : Addr) (cc : Nat), (Builtin.append_ #[57, 57] 57 #[.slice (some ⟨g0, 0, none⟩) i c0, .slice (some a) 0 cc]).run Tryz.prog w.drew = .ok (.slice (some ⟨g0, 0, none⟩) i c0) w.drew) := Lib.hid fun a cc =>
      run_append_room_cells (P := Tryz.prog) w.drew 57 57 77 ib Tryz.underlying57 hib g0 0 i c0 a 0 cc [] (by simp) (fun j u hj => by simp at hj) (fun u hu => by simp at hu) (by omega) (fun j hj => by simp at hj) (fun j hj => by simp at hj)
    obtain ⟨Z, hZ⟩ : ∃ Z, Z = (Builtin.zeroCells ([.int .i64 0, .int .i64 0, .int .i64 0, .slice none 0 0, .int .i64 0] : List Value).toArray r).toList := ⟨_, rfl⟩
    obtain ⟨h3, h4⟩ := ownsRow_many (w := w.drew) Z (i * 5) (rwCells rv) w.drew (ownsRow_same hrow fun _ _ => rfl)
    have h5 := ownsRow_first h3 (k := i) (by omega)
    have h6 : (putMany (rwCells rv) (i * 5) Z).take (i * 5) = rwCells (rv.take i) := by
      rw [putMany_take _ _ _ _ (Nat.le_refl _)]
      have e : rwCells rv = rwCells (rv.take i) ++ rwCells (rv.drop i) := by rw [← rwCells_app, List.take_append_drop]
      have h2 : (rwCells (rv.take i)).length = i * 5 := by rw [rwCells_length, List.length_take]; congr 1; omega
      rw [e, ← h2, List.take_left]
    rw [h6] at h5
    have hclr := run_clear_any w.drew 57 77 0 _ [.int .i64 0, .int .i64 0, .int .i64 0, .slice none 0 0, .int .i64 0] Tryz.underlying57 zero_sgRow rfl (by decide) g0 (i * 5) r (c0 - i) (by omega)
      (fun t ht => by
        simp only [List.length_cons, List.length_nil] at ht
        have := hrow.cellAt (i * 5 + t) (by omega)
        rw [show w.drew.cell? ⟨g0, i * 5 + t, none⟩ = w.cell? ⟨g0, i * 5 + t, none⟩ from rfl, this, List.getElem?_eq_getElem (by omega)]
        rfl) (fun t ht => hfz _)
    rw [← hZ] at hclr
    rw [← hnn] at hlc hr ⊢
    have q0 : ((i : Int) == (nn : Int)) = false := beq_eq_false_iff_ne.2 (by omega)
    have q5 : ¬ nn = i := by omega
    have q1 : (i : Int) ≤ (nn : Int) := by omega
    have q3 : (nn : Int) ≤ (c0 : Int) := by omega
    have q4 : (nn : Int) ≤ 1000000 := by omega
    have q7 : nn - i = r := by omega
    have q8 : (i : Int) ≤ (c0 : Int) := by omega
    have HCL := Lib.hid hclr
    have H5 := Lib.hid h5
    have HON : Hid (Only (fun k => (Value.slice (some ⟨g0, 0, none⟩) nn c0).ownBlock = some k) w (w.drew.setCells g0 (i * 5) Z)) := Lib.hid (((Only.refl _ w).drawn).then (only_grown h4))
    have hS : Only (fun k => k = g0) w w.drew := (Only.refl _ w).drawn
    clear hrow hsz h3 h4 h5 h6 hclr hib hib0 hib1 hib2 hfz hnn hi hin hZ hr
    go_enter Tryz.func69, Tryz.ntmps69
    go_wp2_with fail
    by_cases hc : c0 = nn
    · have e1 := HAPP.out ⟨g0, 0, none⟩ 0
      subst hc
      refine wp_region_held (S := fun w' => Only (fun k => k = g0) w w') (by kernel_rfl) ?_
      refine H_take (i := 0) (v := ?_) rfl (by as_aux_lemma => kernel_rfl) (by as_aux_lemma => kernel_rfl) (by as_aux_lemma => kernel_rfl) (fun _ _ _ h => h) (by rfl) hS ?_ ?_
      rotate_left
      · intro w' hw'; go_simp; with_reducible rfl
      go_simp
      refine H_take (i := 1) (v := ?_) rfl (by as_aux_lemma => kernel_rfl) (by as_aux_lemma => kernel_rfl) (by as_aux_lemma => kernel_rfl) (fun _ _ _ h => h) (by rfl) hS ?_ ?_
      rotate_left
      · intro w' hw'; go_simp; with_reducible rfl
      go_simp
      refine H_take (i := 2) (v := ?_) rfl (by as_aux_lemma => kernel_rfl) (by as_aux_lemma => kernel_rfl) (by as_aux_lemma => kernel_rfl) (fun _ _ _ h => h) (by rfl) hS ?_ ?_
      rotate_left
      · intro w' hw'; go_simp; with_reducible rfl
      go_simp
      refine H_take (i := 3) (v := ?_) rfl (by as_aux_lemma => kernel_rfl) (by as_aux_lemma => kernel_rfl) (by as_aux_lemma => kernel_rfl) (fun _ _ _ h => h) (by rfl) hS ?_ ?_
      rotate_left
      · intro w' hw'; go_simp; with_reducible rfl
      go_simp
      refine H_take (i := 4) (v := ?_) rfl (by as_aux_lemma => kernel_rfl) (by as_aux_lemma => kernel_rfl) (by as_aux_lemma => kernel_rfl) (fun _ _ _ h => h) (by rfl) hS ?_ ?_
      rotate_left
      · intro w' hw'; go_simp; with_reducible rfl
      go_simp
      refine H_take (i := 5) (v := ?_) rfl (by as_aux_lemma => kernel_rfl) (by as_aux_lemma => kernel_rfl) (by as_aux_lemma => kernel_rfl) (fun _ _ _ h => h) (by rfl) hS ?_ ?_
      rotate_left
      · intro w' hw'; go_simp; with_reducible rfl
      go_simp
      refine H_one (i := 6) (by as_aux_lemma => kernel_rfl) rfl (by rfl) ?_
      refine wp_append_run _ _ _ 57 rfl _ _ _ _ rfl rfl e1 ?_
      refine ⟨hS, ?_⟩
      go_simp
      refine H_take (i := 7) (v := ?_) rfl (by as_aux_lemma => kernel_rfl) (by as_aux_lemma => kernel_rfl) (by as_aux_lemma => kernel_rfl) (fun _ _ _ h => h) (by rfl) hS ?_ ?_
      rotate_left
      · intro w' hw'; go_simp; with_reducible rfl
      go_simp
      refine wpAnyH_done (by as_aux_lemma => kernel_rfl) ?_ _
      clear hS e1
      have hclr := HCL.out
      try simp only [q7] at hclr
      go_wp2_with fail
      go_ret
      exact ⟨_, rfl, rfl, H5.out, HON.out⟩
    · have e1 := HAPP.out ⟨g0, nn * 5, none⟩ (c0 - nn)
      refine wp_region_held (S := fun w' => Only (fun k => k = g0) w w') (by kernel_rfl) ?_
      refine H_take (i := 0) (v := ?_) rfl (by as_aux_lemma => kernel_rfl) (by as_aux_lemma => kernel_rfl) (by as_aux_lemma => kernel_rfl) (fun _ _ _ h => h) (by rfl) hS ?_ ?_
      rotate_left
      · intro w' hw'; go_simp; with_reducible rfl
      go_simp
      refine H_take (i := 1) (v := ?_) rfl (by as_aux_lemma => kernel_rfl) (by as_aux_lemma => kernel_rfl) (by as_aux_lemma => kernel_rfl) (fun _ _ _ h => h) (by rfl) hS ?_ ?_
      rotate_left
      · intro w' hw'; go_simp; with_reducible rfl
      go_simp
      refine H_take (i := 2) (v := ?_) rfl (by as_aux_lemma => kernel_rfl) (by as_aux_lemma => kernel_rfl) (by as_aux_lemma => kernel_rfl) (fun _ _ _ h => h) (by rfl) hS ?_ ?_
      rotate_left
      · intro w' hw'; go_simp; with_reducible rfl
      go_simp
      refine H_take (i := 3) (v := ?_) rfl (by as_aux_lemma => kernel_rfl) (by as_aux_lemma => kernel_rfl) (by as_aux_lemma => kernel_rfl) (fun _ _ _ h => h) (by rfl) hS ?_ ?_
      rotate_left
      · intro w' hw'; go_simp; with_reducible rfl
      go_simp
      refine H_take (i := 4) (v := ?_) rfl (by as_aux_lemma => kernel_rfl) (by as_aux_lemma => kernel_rfl) (by as_aux_lemma => kernel_rfl) (fun _ _ _ h => h) (by rfl) hS ?_ ?_
      rotate_left
      · intro w' hw'; go_simp; with_reducible rfl
      go_simp
      refine H_take (i := 5) (v := ?_) rfl (by as_aux_lemma => kernel_rfl) (by as_aux_lemma => kernel_rfl) (by as_aux_lemma => kernel_rfl) (fun _ _ _ h => h) (by rfl) hS ?_ ?_
      rotate_left
      · intro w' hw'; go_simp; with_reducible rfl
      go_simp
      refine H_one (i := 6) (by as_aux_lemma => kernel_rfl) rfl (by rfl) ?_
      refine wp_append_run _ _ _ 57 rfl _ _ _ _ rfl rfl e1 ?_
      refine ⟨hS, ?_⟩
      go_simp
      refine H_take (i := 7) (v := ?_) rfl (by as_aux_lemma => kernel_rfl) (by as_aux_lemma => kernel_rfl) (by as_aux_lemma => kernel_rfl) (fun _ _ _ h => h) (by rfl) hS ?_ ?_
      rotate_left
      · intro w' hw'; go_simp; with_reducible rfl
      go_simp
      refine wpAnyH_done (by as_aux_lemma => kernel_rfl) ?_ _
      clear hS e1
      have hclr := HCL.out
      try simp only [q7] at hclr
      go_wp2_with fail
      go_ret
      exact ⟨_, rfl, rfl, H5.out, HON.out⟩
end Go.Proofs.YtamgjlegcegmeaaGreatDoor.M

/- Part: ProjR. -/
namespace Go.Proofs.YtamgjlegcegmeaaGreatDoor.M
open Go.RowKit Go.Maps
open D (Fl Dk)

/-- What a call leaves that makes no memory of the disk's. -/
def PPostX (w : World) (X : Nat → Prop) (gd : Nat) (r : Int × Dk) (e : Ending) (w' : World) : Prop :=
  e = .returned (.int .i64 r.1) ∧ Only X w w' ∧ PDsk w' X gd r.2

theorem PPostX.of {w w1 w' : World} {X : Nat → Prop} {gd : Nat} {n : Int} {d : Dk} {e : Ending} (h1 : Only X w w1) (he : e = .returned (.int .i64 n)) (h2 : Only X w1 w') (h3 : PDsk w' X gd d) : PPostX w X gd (n, d) e w' := ⟨he, h1.then h2, h3⟩

theorem PPostX.wrap {w W w' : World} {X : Nat → Prop} {gd : Nat} {r : Int × Dk} {e : Ending} (h1 : Only X w W) (h : PPostX W X gd r e w') : PPostX w X gd r e w' := ⟨h.1, h1.then h.2.1, h.2.2⟩

theorem PPostX.after {w w1 w' : World} {X : Nat → Prop} {gd : Nat} {r : Int × Dk} {e : Ending} (h1 : Only X w w1) (_ : w1.heap.size = w.heap.size) (h : PPostX w1 X gd r e w') : PPostX w X gd r e w' := h.wrap h1

set_option maxRecDepth 20000 in
set_option maxHeartbeats 1600000 in
/-- One of the calls that change a disk: the closure's contract is asked of the disk behind the count. -/
theorem WorkX_any (n : Nat) (caps : Array Value) (he : ∀ (args : Array Value) (w : World), (callFunc n args).run Tryz.prog w = .ok (.enter n args) w) (d : Dk) (X : Nat → Prop) (gd : Nat) (r : Int × Dk) (w : World) (hd : PDsk w X gd d) (hc : d.calls ≤ 9223372036854775807)
    (hdo : ∀ w1, Only X w w1 → w1.heap.size = w.heap.size → PDsk w1 X gd d.tick → d.stopped = false → Calls Tryz.prog n caps w1 (PPostX w1 X gd r)) :
    Calls Tryz.prog 56 #[.pointer (some ⟨gd, 0, none⟩), .func (.func n) #[] caps] w (PPostX w X gd (if d.stopped then (32, d) else r)) := by
  have HD := Lib.hid hd
  have HDO := Lib.hid hdo
  obtain ⟨gm, M, E, hat⟩ := hd
  obtain ⟨⟨-, c1, -⟩, ⟨-, f1, -⟩, hz⟩ := hat.cells
  have HAT := Lib.hid hat
  clear hat hdo
  cases hst : d.stopped with
  | true =>
    rw [rest_stopped hst] at c1
    have HST := Lib.hid hst
    clear hst
    go_enter Tryz.func56, Tryz.ntmps56
    go_wp2_with fail
    go_ret
    exact ⟨rfl, Only.refl _ _, HD.out⟩
  | false =>
    rcases rest_not hst with ⟨h1, h2⟩ | ⟨h1, h2, h3, h4⟩
    · rw [h1] at c1
      have HC : Hid (Calls Tryz.prog n caps w (PPostX w X gd r)) := Lib.hid (HDO.out w (Only.refl _ _) rfl (by rw [h2]; exact HD.out) hst)
      clear h1 h2 hst
      go_enter Tryz.func56, Tryz.ntmps56
      go_wp2_with fail
      refine HC.out.mono ?_
      rintro e w' ⟨rfl, ho, hd2⟩
      have HO := Lib.hid ho
      have HD2 := Lib.hid hd2
      clear ho hd2
      go_wp2_with fail
      go_ret
      exact ⟨rfl, HO.out, HD2.out⟩
    · obtain ⟨x, hx⟩ : ∃ x, x = restOf d := ⟨_, rfl⟩
      rw [← hx] at c1 h1 h2 h3 h4
      have q1 : x ≤ 9223372036854775807 := by omega
      have q2 : (x == 0) = false := by simp; omega
      have q3 : (x == -1) = false := by simp; omega
      have HC : Hid (∀ w1, w1 = w.setCell ⟨gd, 1, none⟩ (.int .i64 (x - 1)) → Only X w w1 ∧ w1.heap.size = w.heap.size ∧ Calls Tryz.prog n caps w1 (PPostX w1 X gd r)) := Lib.hid fun w1 hw => by
        obtain ⟨a1, a2, a3⟩ := HD.out.ticked h4.symm hw
        exact ⟨a1, a2, HDO.out w1 a1 a2 a3 hst⟩
      have q4 : 0 < x := h1
      clear h2 h3 h4 hst hx h1
      go_enter Tryz.func56, Tryz.ntmps56
      go_wp2_with fail
      obtain ⟨a1, a2, a3⟩ := HC.out _ rfl
      refine a3.mono ?_
      rintro e w' hp
      have HP := Lib.hid (hp.after a1 a2)
      obtain ⟨rfl, -, -⟩ := hp
      clear a1 a2 a3
      go_wp2_with fail
      go_ret
      exact HP.out

set_option maxRecDepth 20000 in
set_option maxHeartbeats 3200000 in
theorem RemoveCX_any (d : Dk) (X : Nat → Prop) (gd bd bn : Nat) (names : List ByteArray) (F : Nat → Prop) (vn : Value) (w : World) (hd : PDskIn w X gd d) (hg : Good d) (hs : ∀ s ∈ names, s.size ≤ 9223372036854775807)
    (hv : RepSl w F names vn) (hF : ∀ k, F k → k < w.heap.size ∧ ¬ X k)
    (c1 : w.cell? ⟨bd, 0, none⟩ = some (.pointer (some ⟨gd, 0, none⟩))) (c2 : w.cell? ⟨bn, 0, none⟩ = some vn) (hbx : (bd < w.heap.size ∧ ¬ X bd) ∧ (bn < w.heap.size ∧ ¬ X bn)) :
    Calls Tryz.prog 85 #[.pointer (some ⟨bd, 0, none⟩), .pointer (some ⟨bn, 0, none⟩)] w (PPostX w X gd (removeB d names)) := by
  obtain ⟨na, nc, rfl, hnl⟩ := hv.slice
  have HV := Lib.hid hv
  have HF := Lib.hid hF
  have HX := Lib.hid hd.2
  have HD := Lib.hid hd.1
  have HG := Lib.hid hg
  have HS := Lib.hid hs
  have HBX := Lib.hid hbx
  have HC1 := Lib.hid c1
  have HC2 := Lib.hid c2
  obtain ⟨⟨b1, -⟩, b2, -⟩ := hbx
  clear hv hF hd hg hs
  go_enter Tryz.func85, Tryz.ntmps85
  go_wp2_with fail
  refine (Has_any d X gd names F _ w HD.out HV.out (fun k hk => (HF.out k hk).1) HS.out).mono ?_
  rintro e w1 ⟨rfl, rfl⟩
  cases hall : names.all (D.isThere d.fs) with
  | false =>
    have HE : Hid (removeB d names = (30, d)) := Lib.hid (by unfold removeB; rw [once_is, hall]; rfl)
    clear hall
    go_wp2_with fail
    go_ret
    rw [HE.out]
    exact PPostX.of (Only.refl _ _) rfl (Only.refl _ _) HD.out
  | true =>
    have HALL := Lib.hid hall
    clear hall
    go_wp2_with fail
    refine (Twice_any names F _ w HV.out (fun k hk => (HF.out k hk).1) HS.out).mono ?_
    rintro e w1 ⟨rfl, hb1⟩
    have HO1 : Hid (Only X w w1) := Lib.hid ((Only.of_below hb1).mono fun _ h => h)
    have HD1 : Hid (PDsk w1 X gd d) := Lib.hid (HD.out.same (fun _ h => h) fun k hk => hb1.block k (HX.out k hk))
    have c1 : w1.cell? ⟨bd, 0, none⟩ = some (.pointer (some ⟨gd, 0, none⟩)) := (cell_only HO1.out HBX.out.1.1 HBX.out.1.2 0).trans HC1.out
    have c2 : w1.cell? ⟨bn, 0, none⟩ = some (.slice na names.length nc) := (cell_only HO1.out HBX.out.2.1 HBX.out.2.2 0).trans HC2.out
    have b1 : bd < w1.heap.size := Nat.lt_of_lt_of_le HBX.out.1.1 HO1.out.size
    have b2 : bn < w1.heap.size := Nat.lt_of_lt_of_le HBX.out.2.1 HO1.out.size
    clear hb1
    cases hdup : dupB names with
    | true =>
      have HE : Hid (removeB d names = (30, d)) := Lib.hid (by unfold removeB; rw [once_is, hdup]; simp)
      clear hdup
      go_wp2_with fail
      go_ret
      rw [HE.out]
      exact PPostX.of HO1.out rfl (Only.refl _ _) HD1.out
    | false =>
      have HONCE : Hid (D.eachOnce d.fs names = true) := Lib.hid (by rw [once_is, HALL.out, hdup]; rfl)
      have HE : Hid (removeB d names = (0, { d with fs := removeF d.fs names })) := Lib.hid (by unfold removeB; rw [HONCE.out]; rfl)
      obtain ⟨gm, M, E, hat⟩ := HD1.out
      have H0 : Hid (PRemAt w1 X gd gm d E names 0 w1) := Lib.hid ⟨Only.refl _ _, rfl, M, d.free, rfl, hat⟩
      clear hdup hat
      go_wp2_with fail
      go_loopw [4, 15] (fun _ i wr => ∃ k : Nat, k ≤ names.length ∧ i = .int .i64 (k : Int) ∧ PRemAt w1 X gd gm d E names k wr) (fun _ i _ => names.length - (intOf i).toNat)
      case atStart => exact ⟨0, Nat.zero_le _, rfl, H0.out⟩
      case round =>
        obtain ⟨k, hk, rfl, ho, hz, M2, fr, hfr, hat⟩ := hrel
        have HOw : Hid (Only X w wr) := Lib.hid (HO1.out.then ho)
        by_cases hlt : k < names.length
        · have hkk : (k : Int) < (names.length : Int) := by omega
          have hv2 : RepSl wr F names (.slice na names.length nc) := HV.out.same (fun _ h => h) fun j hj => HOw.out.block j (HF.out j hj).1 (HF.out j hj).2
          obtain ⟨b, off, rfl, hFb, hc⟩ := hv2.elem k hlt
          have hbz : b < wr.heap.size := Nat.lt_of_lt_of_le (HF.out b hFb).1 HOw.out.size
          obtain ⟨s, hse⟩ : ∃ s, s = names[k] := ⟨_, rfl⟩
          rw [← hse] at hc
          have hmem : s ∈ names := by rw [hse]; exact List.getElem_mem hlt
          have HSS := Lib.hid (HS.out s hmem)
          have hr2 := removeF_rising (names.take k) d.fs HG.out.2.1
          have hsum : 0 ≤ fr ∧ fr + (D.used (removeF d.fs (names.take k)) : Int) ≤ 9223372036854775807 := by
            have h1 := removeF_used (names.take k) d.fs HG.out.2.1
            have h2 := HG.out.1.2.2.1
            have h3 := HG.out.1.2.2.2.2
            rw [hfr]
            unfold D.Dk.free at h2 ⊢
            simp only
            omega
          have HSUM := Lib.hid hsum
          have HR2 := Lib.hid hr2
          have HAT := Lib.hid hat
          have HNEXT : Hid (∀ w2 M', PDAt w2 X gd { d with fs := (removeF d.fs (names.take k)).eraseIdx (D.find (removeF d.fs (names.take k)) s) } (fr + ((bytesOf (removeF d.fs (names.take k)) s).length : Int)) gm M' E → Only X wr w2 → w2.heap.size = wr.heap.size → PRemAt w1 X gd gm d E names (k + 1) w2) := Lib.hid fun w2 M' h1 h2 h3 => by
            have e : removeF d.fs (names.take (k + 1)) = (removeF d.fs (names.take k)).eraseIdx (D.find (removeF d.fs (names.take k)) s) := by
              rw [List.take_succ_eq_append_getElem hlt, ← hse]
              unfold removeF
              rw [List.foldl_append]
              rfl
            refine ⟨ho.then h2, by omega, M', fr + ((bytesOf (removeF d.fs (names.take k)) s).length : Int), ?_, by rw [e]; exact h1⟩
            have h4 := bytesOf_erase hr2 s
            rw [e, hfr]
            unfold D.Dk.free
            simp only
            omega
          have c1 : wr.cell? ⟨bd, 0, none⟩ = some (.pointer (some ⟨gd, 0, none⟩)) := (cell_only HOw.out HBX.out.1.1 HBX.out.1.2 0).trans HC1.out
          have b1 : bd < wr.heap.size := Nat.lt_of_lt_of_le HBX.out.1.1 HOw.out.size
          clear hat hr2 hsum hmem hse hv2 ho hz hfr
          go_wp2_with fail
          refine (Drop_any _ X gd gm fr M2 E s wr HAT.out HR2.out HSS.out HSUM.out.1 HSUM.out.2).mono ?_
          rintro e w2 ⟨rfl, h2, h3, -, M', h1⟩
          have HN := Lib.hid (HNEXT.out w2 M' h1 h2 h3)
          clear h1 h2 h3
          go_wp2_with fail
          go_roundw
          case rel => exact ⟨k + 1, by omega, by go_num, HN.out⟩
          case measure => simp [intOf]; omega
        · have hkk : ¬ (k : Int) < (names.length : Int) := by omega
          obtain rfl : k = names.length := by omega
          have HP : Hid (PPostX w X gd (removeB d names) (.returned (.int .i64 0)) wr) := Lib.hid (by
            rw [HE.out]
            rw [List.take_length] at hat hfr
            refine PPostX.of HO1.out rfl ho ⟨gm, M2, E, ?_⟩
            rw [← hfr]
            exact hat)
          clear hat ho hz hfr
          go_wp2_with fail
          go_ret
          exact HP.out

set_option maxRecDepth 20000 in
set_option maxHeartbeats 1600000 in
theorem PRemoveX_any (d : Dk) (X : Nat → Prop) (gd : Nat) (names : List ByteArray) (F : Nat → Prop) (vn : Value) (w : World) (hd : PDskIn w X gd d) (hg : Good d) (hs : ∀ s ∈ names, s.size ≤ 9223372036854775807)
    (hv : RepSl w F names vn) (hF : ∀ k, F k → k < w.heap.size ∧ ¬ X k) :
    Calls Tryz.prog 62 #[.pointer (some ⟨gd, 0, none⟩), vn] w (PPostX w X gd (D.remove d names)) := by
  obtain ⟨na, nc, rfl, hnl⟩ := hv.slice
  have HV := Lib.hid hv
  have HF := Lib.hid hF
  have HD := Lib.hid hd
  have HG := Lib.hid hg
  have HS := Lib.hid hs
  clear hv hF hd hg hs
  obtain ⟨W, hW⟩ : ∃ W, W = (w.alloc (.cells #[.pointer (some ⟨gd, 0, none⟩)] 24)).alloc (.cells #[.slice na names.length nc] 43) := ⟨_, rfl⟩
  have HO : Hid (Only X w W) := Lib.hid (by rw [hW]; exact ((Only.refl X w).alloc _).alloc _)
  have HB : Hid (Below w.heap.size w W) := Lib.hid (by rw [hW]; exact ((Below.refl _ w).alloc (by omega) _).alloc (by simp) _)
  have HSZ : Hid (W.heap.size = w.heap.size + 2) := Lib.hid (by rw [hW]; simp)
  have HC : Hid (W.cell? ⟨w.heap.size, 0, none⟩ = some (.pointer (some ⟨gd, 0, none⟩)) ∧ W.cell? ⟨w.heap.size + 1, 0, none⟩ = some (.slice na names.length nc)) := Lib.hid (by
    rw [hW]
    exact ⟨cell_past _ (cell_new1 _ _ _ rfl) (by simp), cell_new1 _ _ _ (by simp)⟩)
  have hwk := WorkX_any 85 #[.pointer (some ⟨w.heap.size, 0, none⟩), .pointer (some ⟨w.heap.size + 1, 0, none⟩)] en44 d X gd (removeB d.tick names) W
    (HD.out.1.same (fun _ h => h) fun k hk => HB.out.block k (HD.out.2 k hk)) HG.out.1.2.1 (fun w1 ho hz hd1 hst => by
      have hnx : ∀ k, w.heap.size ≤ k → ¬ X k := fun k hk hx => by have := HD.out.2 k hx; omega
      have hsz := HSZ.out
      exact RemoveCX_any d.tick X gd _ _ names F _ w1 ⟨hd1, fun k hk => by have := HD.out.2 k hk; omega⟩ HG.out.tick HS.out
        (HV.out.same (fun _ h => h) fun k hk => (ho.block k (by have := (HF.out k hk).1; omega) (HF.out k hk).2).trans (HB.out.block k (HF.out k hk).1)) (fun k hk => ⟨by have := (HF.out k hk).1; omega, (HF.out k hk).2⟩)
        ((cell_only ho (by omega) (hnx _ (by omega)) 0).trans HC.out.1) ((cell_only ho (by omega) (hnx _ (by omega)) 0).trans HC.out.2)
        ⟨⟨by omega, hnx _ (by omega)⟩, by omega, hnx _ (by omega)⟩)
  rw [← remove_eq] at hwk
  have HWK := Lib.hid hwk
  have HWE := Lib.hid hW
  clear hwk hW
  go_enter Tryz.func62, Tryz.ntmps62
  go_wp2_with fail
  rw [← HWE.out]
  refine HWK.out.mono ?_
  intro e w' hp
  have HP := Lib.hid (hp.wrap HO.out)
  obtain ⟨rfl, -, -⟩ := hp
  go_wp2_with fail
  go_ret
  exact HP.out
end Go.Proofs.YtamgjlegcegmeaaGreatDoor.M

/- Part: SegRem. -/
namespace Go.Proofs.YtamgjlegcegmeaaGreatDoor.M
open Go.RowKit Go.Maps
open D (Fl Dk)

theorem DRemoveX {w : World} {X : Nat → Prop} {gd : Nat} {d : Dk} {wr : World} (h : DS w X gd d wr) (names : List ByteArray) (F : Nat → Prop) (vn : Value) (hs : ∀ s ∈ names, s.size ≤ 9223372036854775807) (hv : RepSl wr F names vn) (hF : ∀ k, F k → k < wr.heap.size ∧ ¬ X k) :
    Calls Tryz.prog 62 #[.pointer (some ⟨gd, 0, none⟩), vn] wr fun e w' => e = .returned (.int .i64 (D.remove d names).1) ∧ Only X wr w' ∧ DS w X gd (D.remove d names).2 w' :=
  (PRemoveX_any d X gd names F vn wr h.dsk h.well.1 hs hv hF).mono fun _ w' ⟨h1, h2, h3⟩ => ⟨h1, h2, ⟨⟨h2.os.trans h.below.os, h2.tape.trans h.below.tape, h2.output.trans h.below.output, Nat.le_trans h.below.size h2.size, fun k hk => by
    rw [h2.block k (Nat.lt_of_lt_of_le hk h.below.size) fun hx => by have := h.own k hx; omega]
    exact h.below.block k hk⟩, h.own, ⟨h3, fun k hk => Nat.lt_of_lt_of_le (h.lt k hk) h2.size⟩, (remove_well h.well names).1⟩⟩

/-- Behind a call on the disk that makes it no memory. -/
theorem LS.diskX {K : Nat → Obj → Prop} {w wr w' : World} {X Xd : Nat → Prop} {g gd : Nat} {least : Int} {h : Hd} {d d' : Dk} (l : LS K w X Xd g gd least h d wr) (ho : Only Xd wr w') (hd : DS w Xd gd d' w') : LS K w X Xd g gd least h d' w' :=
  ⟨hd, l.lg.only ho l.dis, l.own, l.dis, fun k o hk => by
    obtain ⟨k1, k2, k3⟩ := l.kp k o hk
    exact ⟨(ho.block k (lt_of_heap k1) k3).trans k1, k2, k3⟩⟩

theorem LS.setFiles {K : Nat → Obj → Prop} {w wr w1 w' : World} {X Xd : Nat → Prop} {g gd : Nat} {least : Int} {h : Hd} {d : Dk} (l : LS K w X Xd g gd least h d wr) {vr vf u : Value} {rv : List (Rw × Value)} {fs : List Fi} (la : LgAt wr X g gd least h vr vf rv)
    (ho1 : Only (fun k => vf.ownBlock = some k) wr w1) (hr : w1.ownsRow 0 75 5 u fs.length (fiCells fs)) (hu : u.ownBlock = vf.ownBlock) (ho2 : Only (fun k => k = g) w1 w')
    (hbox : w'.heap[g]? = some (.cells #[.int .i64 h.mi, .int .i64 h.mt, vr, u, .int .i64 h.synced, .pointer (some ⟨gd, 0, none⟩), .int .i64 least] 63)) : LS K w X Xd g gd least { h with files := fs } d w' := by
  have lz := l.lg.2
  have oX : Only X wr w' := (ho1.mono fun k hk => (la.ff k hk).1).then (ho2.mono fun k hk => by rw [hk]; exact la.fg)
  have bl : ∀ q, q < wr.heap.size → q ≠ g → vf.ownBlock ≠ some q → w'.heap[q]? = wr.heap[q]? := fun q hq h1 h2 => (ho2.block q (Nat.lt_of_lt_of_le hq ho1.size) h1).trans (ho1.block q hq h2)
  refine l.self oX (fun q hq => .inl hq) ⟨⟨vr, u, rv, hbox, la.rows, ownsRow_same la.rrow fun q hq => bl q (lz q (la.fr q hq).1) (la.fr q hq).2.1 (la.fr q hq).2.2,
    ownsRow_same hr fun q hq => ho2.block q (Nat.lt_of_lt_of_le (lz q (la.ff q (hu ▸ hq)).1) ho1.size) (la.ff q (hu ▸ hq)).2, fun p hp => ?_, la.fg, fun k hk => ⟨(la.fr k hk).1, (la.fr k hk).2.1, by rw [hu]; exact (la.fr k hk).2.2⟩, fun k hk => la.ff k (hu ▸ hk)⟩, fun q hq => Nat.lt_of_lt_of_le (lz q hq) oX.size⟩
  obtain ⟨B, b1, b2⟩ := la.bod p hp
  exact ⟨B, b1.same (fun _ h => h) fun q hq => bl q (lz q (b2 q hq).1) (b2 q hq).2.1 (b2 q hq).2.2.2, fun q hq => ⟨(b2 q hq).1, (b2 q hq).2.1, (b2 q hq).2.2.1, by rw [hu]; exact (b2 q hq).2.2.2⟩⟩

/-- The files' row stays in its block. -/
def SameFB (g : Nat) (w w' : World) : Prop := ∀ b n c, w.cell? ⟨g, 3, none⟩ = some (.slice (some ⟨b, 0, none⟩) n c) → ∃ n' c', w'.cell? ⟨g, 3, none⟩ = some (.slice (some ⟨b, 0, none⟩) n' c')

theorem ownsRow_block {w : World} {base t s n b : Nat} {v : Value} {xs : List Value} (h : w.ownsRow base t s v n xs) (hb : v.ownBlock = some b) : ∃ c, v = .slice (some ⟨b, 0, none⟩) n c := by
  rcases h.2 with ⟨h1, -⟩ | ⟨g, cap, cur, hv, -⟩
  · rw [h1] at hb; cases hb
  · rw [hv] at hb
    cases hb
    exact ⟨cap, hv⟩

/-- What removing a file leaves. -/
def removedE (h : Hd) (d : Dk) (i : Nat) (f : Fi) : Int × Hd × Dk :=
  ((D.remove d [sgName f.first]).1, if (D.remove d [sgName f.first]).1 = 0 then { h with files := h.files.eraseIdx i } else h, (D.remove d [sgName f.first]).2)

set_option maxRecDepth 20000 in
set_option maxHeartbeats 3200000 in
theorem remove_any (K : Nat → Obj → Prop) (w wa : World) (X Xd : Nat → Prop) (g gd : Nat) (least : Int) (h : Hd) (d : Dk) (l : LS K w X Xd g gd least h d wa) (i m : Nat) (f : Fi) (hn : h.files.length = i + 1 + m) (hf : h.files[i]? = some f) (hl : h.files.length ≤ 1000000) (hb : 0 ≤ f.first ∧ f.first < 10000000000) (hP : Hid (Pow10 w)) :
    Calls Tryz.prog 33 #[.pointer (some ⟨g, 0, none⟩), .int .i64 (i : Int)] wa fun e w' => e = .returned (.int .i64 (removedE h d i f).1) ∧ LS K w X Xd g gd least (removedE h d i f).2.1 (removedE h d i f).2.2 w' ∧ Only (fun k => X k ∨ Xd k) wa w' ∧ SameFB g wa w' := by
  have HL := Lib.hid l
  obtain ⟨⟨vr, vf, rv, la⟩, lz⟩ := l.lg
  obtain ⟨c0, c1, c2, c3, c4, c5, c6, cz⟩ := seven_cells la.box
  have hil : i < h.files.length := by omega
  obtain ⟨ga, fc, hvf, hgz, hlc, hcm, hcs, -⟩ := row5_elem (f := fiV) (fun _ => rfl) la.frow i hil
  have hfi : h.files[i] = f := by rw [List.getElem?_eq_getElem hil] at hf; exact Option.some.inj hf
  have s0 := hcs 0 (by omega)
  rw [hfi] at s0
  simp only [fiV, List.getElem?_cons_zero, Nat.add_zero] at s0
  have hX : ∀ k, X k → ¬ Xd k := l.dis
  have hgX := la.fg
  have hga := la.ff ga (by rw [hvf]; rfl)
  have keep : ∀ {q o : Nat} {v : Value}, X q → wa.cell? ⟨q, o, none⟩ = some v → ∀ w', Only Xd wa w' → w'.cell? ⟨q, o, none⟩ = some v := fun {q o v} hq hv w' ho => (World.cell?_of_block (a := ⟨q, o, none⟩) (ho.block q (lz q hq) (hX q hq))).trans hv
  have HLA := Lib.hid la
  have r0 := keep hgX c5
  have r1 := keep hgX c3
  have r2 := keep hga.1 s0
  have hS : Only Xd wa wa.drew := (Only.refl _ _).drawn
  have HDR := Lib.hid ((l.next (Below.refl _ wa).drew))
  have HLZ := Lib.hid lz
  have HX := Lib.hid hX
  obtain ⟨nf, hnf⟩ : ∃ nf, nf = h.files.length := ⟨_, rfl⟩
  rw [hvf, ← hnf] at r1
  have q1 : (i : Int) < (nf : Int) := by omega
  have HNF := Lib.hid hnf
  have HVF := Lib.hid hvf
  have HN := Lib.hid hn
  have HBD := Lib.hid hb
  have HHL := Lib.hid hl
  obtain ⟨ff, hff⟩ : ∃ ff, ff = f.first := ⟨_, rfl⟩
  rw [← hff] at r2
  have HFF := Lib.hid hff
  clear l la lz c0 c1 c2 c3 c4 c5 c6 hil hlc hcm hcs hfi s0 hX hgX hga keep hnf hvf hn hf hl hff hb
  go_enter Tryz.func33, Tryz.ntmps33
  go_wp2_with fail
  refine wp_region_held (S := fun w' => Only Xd wa w') (by kernel_rfl) ?_
  refine H_take (i := 0) (v := ?_) rfl (by as_aux_lemma => kernel_rfl) (by as_aux_lemma => kernel_rfl) (by as_aux_lemma => kernel_rfl) (fun _ _ _ h => h) (by rfl) hS ?_ ?_
  rotate_left
  · intro w' hw'; go_simp; with_reducible rfl
  go_simp
  refine H_take (i := 1) (v := ?_) rfl (by as_aux_lemma => kernel_rfl) (by as_aux_lemma => kernel_rfl) (by as_aux_lemma => kernel_rfl) (fun _ _ _ h => h) (by rfl) hS ?_ ?_
  rotate_left
  · intro w' hw'; go_simp; with_reducible rfl
  go_simp
  refine H_take (i := 2) (v := ?_) rfl (by as_aux_lemma => kernel_rfl) (by as_aux_lemma => kernel_rfl) (by as_aux_lemma => kernel_rfl) (fun _ _ _ h => h) (by rfl) hS ?_ ?_
  rotate_left
  · intro w' hw'; go_simp; with_reducible rfl
  go_simp
  refine H_take (i := 3) (v := ?_) rfl (by as_aux_lemma => kernel_rfl) (by as_aux_lemma => kernel_rfl) (by as_aux_lemma => kernel_rfl) (fun _ _ _ h => h) (by rfl) hS ?_ ?_
  rotate_left
  · intro w' hw'; go_simp; with_reducible rfl
  go_simp
  refine H_take (i := 4) (v := ?_) rfl (by as_aux_lemma => kernel_rfl) (by as_aux_lemma => kernel_rfl) (by as_aux_lemma => kernel_rfl) (fun _ _ _ h => h) (by rfl) hS ?_ ?_
  rotate_left
  · intro w' hw'; go_simp; with_reducible rfl
  go_simp
  refine H_take (i := 5) (v := ?_) rfl (by as_aux_lemma => kernel_rfl) (by as_aux_lemma => kernel_rfl) (by as_aux_lemma => kernel_rfl) (fun _ _ _ h => h) (by rfl) hS ?_ ?_
  rotate_left
  · intro w' hw'; go_simp; with_reducible rfl
  go_simp
  refine H_take (i := 6) (v := ?_) rfl (by as_aux_lemma => kernel_rfl) (by as_aux_lemma => kernel_rfl) (by as_aux_lemma => kernel_rfl) (fun _ _ _ h => h) (by rfl) hS ?_ ?_
  rotate_left
  · intro w' hw'; go_simp; with_reducible rfl
  go_simp
  refine H_take (i := 7) (v := ?_) rfl (by as_aux_lemma => kernel_rfl) (by as_aux_lemma => kernel_rfl) (by as_aux_lemma => kernel_rfl) (fun _ _ _ h => h) (by rfl) hS ?_ ?_
  rotate_left
  · intro w' hw'; go_simp; with_reducible rfl
  go_simp
  refine H_take (i := 8) (v := ?_) rfl (by as_aux_lemma => kernel_rfl) (by as_aux_lemma => kernel_rfl) (by as_aux_lemma => kernel_rfl) (fun _ _ _ h => h) (by rfl) hS ?_ ?_
  rotate_left
  · intro w' hw'; go_simp; with_reducible rfl
  go_simp
  refine H_take (i := 9) (v := ?_) rfl (by as_aux_lemma => kernel_rfl) (by as_aux_lemma => kernel_rfl) (by as_aux_lemma => kernel_rfl) (fun _ _ _ h => h) (by rfl) hS ?_ ?_
  rotate_left
  · intro w' hw'; go_simp; with_reducible rfl
  go_simp
  refine H_take (i := 10) (v := ?_) rfl (by as_aux_lemma => kernel_rfl) (by as_aux_lemma => kernel_rfl) (by as_aux_lemma => kernel_rfl) (fun _ _ _ h => h) (by rfl) hS ?_ ?_
  rotate_left
  · intro w' hw'; go_simp; with_reducible rfl
  go_simp
  refine H_take (i := 11) (v := ?_) rfl (by as_aux_lemma => kernel_rfl) (by as_aux_lemma => kernel_rfl) (by as_aux_lemma => kernel_rfl) (fun _ _ _ h => h) (by rfl) hS ?_ ?_
  rotate_left
  · intro w' hw'; go_simp; with_reducible rfl
  go_simp
  refine H_take (i := 12) (v := ?_) rfl (by as_aux_lemma => kernel_rfl) (by as_aux_lemma => kernel_rfl) (by as_aux_lemma => kernel_rfl) (fun _ _ _ h => h) (by rfl) hS ?_ ?_
  rotate_left
  · intro w' hw'; go_simp; with_reducible rfl
  go_simp
  refine H_one (i := 13) (by as_aux_lemma => kernel_rfl) rfl (by rfl) ?_
  go_simp
  refine (nameOf_any ff wa.drew (by rw [HFF.out]; exact HBD.out.1) (by rw [HFF.out]; exact HBD.out.2) (Lib.hid (hP.out.next HDR.out.below))).mono ?_
  rintro e w1 ⟨rfl, hb1⟩
  have HB1 : Hid (Below wa.heap.size wa w1) := Lib.hid ((Below.refl _ wa).drew.trans hb1)
  have hS1 : Only Xd wa w1 := (Only.refl _ _).next HB1.out
  refine ⟨hS1, ?_⟩
  clear hb1
  go_simp
  refine H_one (i := 14) (by as_aux_lemma => kernel_rfl) rfl (by rfl) ?_
  go_simp
  obtain ⟨W2, hW2⟩ : ∃ W2, W2 = w1.alloc (.cells #[.string (sgName ff)] 9) := ⟨_, rfl⟩
  obtain ⟨g2, hg2⟩ : ∃ g2, g2 = w1.heap.size := ⟨_, rfl⟩
  have hb2 : Below w1.heap.size w1 W2 := by rw [hW2]; exact below_alloc _ _
  have HB2 : Hid (Below wa.heap.size wa W2) := Lib.hid (HB1.out.trans (hb2.mono HB1.out.size))
  have HRS : Hid (RepSl W2 (fun b => b = g2) [sgName ff] (.slice (some ⟨g2, 0, none⟩) 1 1)) := Lib.hid (by rw [hW2]; exact RepSl.new (ls := [sgName ff]) hg2 rfl (by simp))
  have HG2 : Hid (wa.heap.size ≤ g2 ∧ g2 < W2.heap.size) := Lib.hid ⟨by rw [hg2]; exact HB1.out.size, by rw [hg2, hW2]; simp⟩
  have hS2 : Only Xd wa W2 := (Only.refl _ _).next HB2.out
  rw [← hW2, ← hg2]
  refine ⟨hS2, ?_⟩
  clear hW2 hg2 hb2
  go_simp
  have HL2 := Lib.hid (HL.out.next HB2.out)
  refine H_one (i := 15) (by as_aux_lemma => kernel_rfl) rfl (by rfl) ?_
  go_simp
  refine (DRemoveX HL2.out.ds [sgName ff] (fun b => b = g2) _ (fun s hs => by
    obtain rfl : s = sgName ff := by simpa using hs
    unfold sgName
    have := dg_length 10 ff.toNat
    simp [ByteArray.size]
    omega) HRS.out (fun k hk => by
      subst hk
      exact ⟨HG2.out.2, fun hx => by have := HL.out.ds.lt _ hx; have := HG2.out.1; omega⟩)).mono ?_
  rintro e w3 ⟨rfl, ho3, hd3⟩
  have hS3 : Only Xd wa w3 := hS2.then ho3
  have HL3 := Lib.hid (HL2.out.diskX ho3 hd3)
  have HO3 := Lib.hid hS3
  refine ⟨hS3, ?_⟩
  clear ho3 hd3
  go_simp
  refine H_take (i := 16) (v := ?_) rfl (by as_aux_lemma => kernel_rfl) (by as_aux_lemma => kernel_rfl) (by as_aux_lemma => kernel_rfl) (fun _ _ _ h => h) (by rfl) hS3 ?_ ?_
  rotate_left
  · intro w' hw'; go_simp; with_reducible rfl
  go_simp
  refine wpAnyH_done (by as_aux_lemma => kernel_rfl) ?_ _
  clear r0 r1 r2 hS hS1 hS2 hS3
  have HLA3 : Hid (LgAt w3 X g gd least h vr vf rv) := Lib.hid (HLA.out.same (fun _ h => h) fun k hk => HO3.out.block k (HLZ.out k hk) (HX.out k hk))
  obtain ⟨c0, c1, c2, c3, c4, c5, c6, cz⟩ := seven_cells HLA3.out.box
  have fz := frozen_of_row _ _ 3 _ _ HLA3.out.box
  clear c0 c1 c2 c4 c5 c6
  by_cases hr : (D.remove d [sgName ff]).1 = 0
  · have HR := Lib.hid hr
    have HDL := Lib.hid (DeleteFi_any h.files vf i m HN.out w3 HLA3.out.frow HHL.out)
    rw [HVF.out, ← HNF.out] at HDL
    rw [HVF.out, ← HNF.out] at c3
    clear hr
    rw [HR.out]
    have q2 : (i : Int) ≤ 1000000 := by have := HNF.out; have := HHL.out; omega
    go_wp2_with fail
    refine HDL.out.mono ?_
    rintro e w4 ⟨u, rfl, hu, hrow, hon⟩
    obtain ⟨ua, uc, rfl, -, -⟩ := row5_slice hrow
    have hz4 := hon.size
    have hgv : (Value.slice (some ⟨ga, 0, none⟩) nf fc).ownBlock ≠ some g := fun e => (HLA.out.ff g (by rw [HVF.out, ← HNF.out]; exact e)).2 rfl
    have hbox4 := (hon.block g cz fun e => hgv e).trans HLA3.out.box
    have HBOX := Lib.hid (heap_seven3 (y := .slice ua (i + m) uc) hbox4)
    have HON := Lib.hid hon
    have HU := Lib.hid hu
    have HRW := Lib.hid hrow
    have fz4 := frozen_of_row _ _ 3 _ _ hbox4
    have k3 := cell_of_row _ _ 3 _ _ _ hbox4
    have cz4 := lt_of_heap hbox4
    clear hu hrow hon hbox4 c3 fz
    go_wp2_with fail
    go_ret
    unfold removedE
    rw [← HFF.out, if_pos HR.out]
    have hle : (h.files.eraseIdx i).length = i + m := by rw [List.length_eraseIdx_of_lt (by have := HN.out; omega)]; have := HN.out; omega
    refine ⟨by rw [HR.out]; rfl, HL3.out.setFiles HLA3.out (by rw [HVF.out, ← HNF.out]; exact HON.out) (by rw [hle]; exact HRW.out) (by rw [HVF.out, ← HNF.out]; exact HU.out) (Only.set (g := g) (Only.refl (fun k => k = g) w4) (.inl rfl) _) HBOX.out, ?_, fun b n c hc => ?_⟩
    · exact (HO3.out.mono fun _ h => .inr h).then ((HON.out.mono fun k hk => .inl (HLA.out.ff k (by rw [HVF.out, ← HNF.out]; exact hk)).1).then (Only.set (g := g) (Only.refl (fun k => X k ∨ Xd k) w4) (.inl (.inl HLA.out.fg)) _))
    · have h1 := cell_of_row _ _ 3 _ _ _ HLA.out.box
      rw [hc, HVF.out] at h1
      cases h1
      obtain ⟨c', hc'⟩ := ownsRow_block HRW.out HU.out
      exact ⟨_, _, (cell_of_row _ _ 3 _ _ _ HBOX.out).trans (congrArg some hc')⟩
  · have HR := Lib.hid hr
    obtain ⟨rr, hrr⟩ : ∃ rr, rr = (D.remove d [sgName ff]).1 := ⟨_, rfl⟩
    rw [← hrr] at hr ⊢
    have HRR := Lib.hid hrr
    have q0 : (rr == 0) = false := beq_eq_false_iff_ne.2 hr
    clear hr hrr c3
    go_wp2_with fail
    go_ret
    unfold removedE
    rw [← HFF.out, if_neg HR.out]
    exact ⟨by first | rfl | (rw [HRR.out]; rfl), HL3.out, HO3.out.mono fun _ h => .inr h, fun b n c hc => by
      have h1 := cell_of_row _ _ 3 _ _ _ HLA.out.box
      rw [hc] at h1
      have h2 := cell_of_row _ _ 3 _ _ _ HLA3.out.box
      rw [← h1] at h2
      exact ⟨_, _, h2⟩⟩
end Go.Proofs.YtamgjlegcegmeaaGreatDoor.M
