/- Package segment: loose, tighten, Sync. Package segment: Last, Term, At. Package segment: At. Package segment: empty. Package segment: fits. Package segment: fits, with rows. Package segment: what stays. Package segment: what a scan reads. Package segment: the Index that a segment's name says. Rows whose cells are stored and cleared in place. Package segment: which rows lie ahead of a mark. Package segment: the rows ahead of a mark are taken away. Package segment: slices.DeleteFunc over rows. Package segment: begin. Package segment: settle. Package segment: slices.Delete of one file. Package segment: slices.Delete of the last rows. -/
import Derived.Test.YtbcpcopapbgcdaaGreatDoorSZ34
import Derived.BigRegion
import Derived.Deep.QuietTactic
import Derived.BigQuiet
import Derived.Test.YtbcpcopapbgcdaaGreatDoorSZ30
import Derived.Shelf.Small.Wraps
import Derived.Lib.SliceRun
import Derived.ArgAppend
/- Part: SegSync. -/
namespace Go.Proofs.YtbcpcopapbgcdaaGreatDoor.M
open Go.RowKit Go.Maps
open D (Fl Dk)

theorem infoStrS : (Tryz.prog.info? 9).map (fun i => (i.zero, i.size, i.bytes)) = some (some (.string ⟨#[]⟩), 1, 16) := by kernel_rfl

theorem yields_str {w : World} {s : ByteArray} {t : TypeId} {g : Nat} (hg : g = w.heap.size) : Yields (w.alloc (.cells #[.string s] t)) (.slice (some ⟨g, 0, none⟩) 1 1) 1 1 [.string s] := by
  subst hg
  refine ⟨rfl, fun u hu => ?_, .inr ⟨_, _, rfl, fun j u hj => ?_⟩⟩
  · simp at hu
    rw [hu]; rfl
  · have h := cell_of_row _ w.heap.size j _ t _ (heap_alloc_new w (.cells #[.string s] t))
    rw [addr_add, Nat.zero_add, h]
    simpa using hj

theorem looseNames_succ (fs : List Fi) (k : Nat) (h : k < fs.length) : looseNames (fs.take (k + 1)) = looseNames (fs.take k) ++ (if fs[k].loose then [sgName fs[k].first] else []) := by
  unfold looseNames
  rw [List.take_succ_eq_append_getElem h, List.filter_append, List.map_append]
  cases hb : fs[k].loose <;> simp [hb]

theorem looseNames_len (fs : List Fi) : (looseNames fs).length ≤ fs.length := by
  unfold looseNames
  rw [List.length_map]
  exact List.length_filter_le _ _

set_option maxRecDepth 20000 in
set_option maxHeartbeats 3200000 in
theorem loose_any (X : Nat → Prop) (g gd : Nat) (least : Int) (h : Hd) (w : World) (l : Lg w X g gd least h) (ho : HdOk h) (hP : Hid (Pow10 w)) :
    Calls Tryz.prog 59 #[.pointer (some ⟨g, 0, none⟩)] w fun e w' => ∃ v, e = .returned v ∧ Below w.heap.size w w' ∧ w'.ownsRow w.heap.size 9 1 v (looseNames h.files).length ((looseNames h.files).map .string) := by
  obtain ⟨⟨vr, vf, rv, la⟩, lz⟩ := l
  obtain ⟨c0, c1, c2, c3, c4, c5, c6, cz⟩ := seven_cells la.box
  obtain ⟨fa, fc, rfl, hfl, hfm⟩ := row5_slice la.frow
  have HLA := Lib.hid la
  have HO := Lib.hid ho
  obtain ⟨nf, hnf⟩ : ∃ nf, nf = h.files.length := ⟨_, rfl⟩
  rw [← hnf] at c3 hfl
  have HNF := Lib.hid hnf
  have hfn : nf ≤ 1000000 := by rw [hnf]; exact ho.fl
  clear la ho hnf c0 c1 c2 c4 c5 c6 lz
  go_enter Tryz.func59, Tryz.ntmps59
  go_wp2_with fail
  obtain ⟨w0, hw0⟩ : ∃ w0 : World, w0 = w := ⟨_, rfl⟩
  subst hw0
  go_loopg [3, 5, 11] nf (fun gk v _ i wr => ∃ k : Nat, i = .int .i64 (k : Int) ∧ k + gk = nf ∧ Below w0.heap.size w0 wr ∧ wr.ownsRow w0.heap.size 9 1 v (looseNames (h.files.take k)).length ((looseNames (h.files.take k)).map .string))
  case atStart => exact ⟨0, rfl, by omega, Below.refl _ _, World.ownsRow_nil _ _ _ _⟩
  case round =>
    obtain ⟨k, rfl, hkg, hbw, hrow⟩ := hrel
    have HBW := Lib.hid hbw
    have HROW := Lib.hid hrow
    by_cases hlt : k < nf
    · have hkk : (k : Int) < (nf : Int) := by omega
      have hlt2 : k < h.files.length := by rw [← HNF.out]; exact hlt
      obtain ⟨ga, c, hv, hgz, -, -, hel, -⟩ := row5_elem (f := fiV) (fun _ => rfl) HLA.out.frow k hlt2
      cases hv
      have hga : ga < wr.heap.size := Nat.lt_of_lt_of_le hgz hbw.size
      have e0 := (hbw.cell (p := ⟨ga, k * 5 + 0, none⟩) hgz).trans (hel 0 (by omega))
      have e1 := (hbw.cell (p := ⟨ga, k * 5 + 1, none⟩) hgz).trans (hel 1 (by omega))
      have e2 := (hbw.cell (p := ⟨ga, k * 5 + 2, none⟩) hgz).trans (hel 2 (by omega))
      have e3 := (hbw.cell (p := ⟨ga, k * 5 + 3, none⟩) hgz).trans (hel 3 (by omega))
      have e4 := (hbw.cell (p := ⟨ga, k * 5 + 4, none⟩) hgz).trans (hel 4 (by omega))
      have hsu := looseNames_succ h.files k hlt2
      have hfb := HO.out.fb _ (List.getElem_mem hlt2)
      simp only [fiV, List.getElem?_cons_zero, List.getElem?_cons_succ, Nat.add_zero] at e0 e1 e2 e3 e4
      obtain ⟨f, hf⟩ : ∃ f, f = h.files[k] := ⟨_, rfl⟩
      rw [← hf] at e0 e1 e2 e3 e4 hsu hfb
      obtain ⟨ff, fl, fs, fo, fb⟩ := f
      simp only at e0 e1 e2 e3 e4 hsu hfb
      have HSU := Lib.hid hsu
      have HFB := Lib.hid hfb
      have hlen := looseNames_len (h.files.take k)
      rw [List.length_take] at hlen
      obtain ⟨va, vc, rfl⟩ := owned_slice hrow
      obtain ⟨nk, hnk⟩ : ∃ nk, nk = looseNames (h.files.take k) := ⟨_, rfl⟩
      rw [← hnk] at HROW HSU hlen
      have HNK := Lib.hid hnk
      obtain ⟨mk, hmk⟩ : ∃ mk, mk = nk.length := ⟨_, rfl⟩
      rw [← hnk, ← hmk]
      rw [← hmk] at hlen HROW
      have HMK := Lib.hid hmk
      clear hel hsu hfb hf hnk hmk hrow hbw hlt2
      cases fb with
      | false =>
        go_wp2_with fail
        go_roundg (gk - 1)
        case measure => omega
        case rel =>
          have hsu := HSU.out
          simp only [Bool.false_eq_true, if_false, List.append_nil] at hsu
          refine ⟨k + 1, by go_num, by omega, HBW.out.alloc HBW.out.size _, ?_⟩
          rw [hsu, ← HMK.out]
          exact ownsRow_same HROW.out fun q hq => Below.heap_alloc _ _ _ (HROW.out.lt q hq).2
      | true =>
        go_wp2_with fail
        obtain ⟨W, hW⟩ : ∃ W, W = wr.alloc (.cells #[.int .i64 ff, .int .i64 fl, .int .i64 fs, .int .i64 fo, .bool true] 114) := ⟨_, rfl⟩
        have HBW2 : Hid (Below wr.heap.size wr W) := Lib.hid (by rw [hW]; exact below_alloc _ _)
        rw [← hW]
        clear hW e0 e1 e2 e3 e4
        refine (nameOf_any ff W HFB.out.1.1 HFB.out.1.2 (Lib.hid (hP.out.next (HBW.out.trans (HBW2.out.mono HBW.out.size))))).mono ?_
        rintro e w7 ⟨rfl, hb7⟩
        have HB7 : Hid (Below wr.heap.size wr w7) := Lib.hid (HBW2.out.trans (hb7.mono HBW2.out.size))
        have HZ7 : Hid (w0.heap.size ≤ w7.heap.size) := Lib.hid (Nat.le_trans HBW.out.size HB7.out.size)
        obtain ⟨sn, hsn⟩ : ∃ sn, sn = sgName ff := ⟨_, rfl⟩
        rw [← hsn]
        have HSN := Lib.hid hsn
        clear hb7 hsn
        have HR7 : Hid ((w7.alloc (.cells #[.string sn] 9)).ownsRow w0.heap.size 9 1 (.slice va mk vc) mk (nk.map .string)) := Lib.hid (ownsRow_same HROW.out fun q hq => by
          have hqz := (HROW.out.lt q hq).2
          rw [Below.heap_alloc _ _ _ (by have := HB7.out.size; omega)]
          exact HB7.out.block q hqz)
        obtain ⟨ib, hib, hib0, hib1, hib2⟩ := info_parts infoStrS
        go_wp2_with (at_builtin; refine wpList_append_any _ rfl (.tmp 17) (.tmp 21) 43 rfl w0.heap.size 9 ib (.string ⟨#[]⟩) 1 16 Tryz.underlying43 hib hib0 hib1 hib2 rfl (by decide) (.slice va mk vc) mk (nk.map .string) rfl HR7.out (.slice (some ⟨w7.heap.size, 0, none⟩) 1 1) rfl 1 [.string sn] (yields_str rfl) (by unfold maxLen; omega) (by omega) (by have := HZ7.out; simp; omega) ?_)
        intro v8 w8 happ
        obtain ⟨la8, lc8, rfl⟩ := owned_slice happ.1
        have HB8 : Hid (Below w0.heap.size w0 w8) := Lib.hid (((HBW.out.trans (HB7.out.mono HBW.out.size)).alloc HZ7.out _).grown happ.2.1 (by have := HZ7.out; simp; omega) (fun q hq => (HR7.out.lt q hq).1))
        have HROW8 := Lib.hid happ.1
        clear happ
        go_wp2_with fail
        go_roundg (gk - 1)
        case measure => omega
        case rel =>
          have hsu := HSU.out
          simp only [if_true] at hsu
          refine ⟨k + 1, by go_num, by omega, HB8.out, ?_⟩
          rw [hsu, List.length_append, List.map_append, ← HMK.out, ← HSN.out]
          exact HROW8.out
    · have hkk : ¬ (k : Int) < (nf : Int) := by omega
      obtain rfl : k = nf := by omega
      have e : h.files.take k = h.files := by rw [HNF.out, List.take_length]
      rw [e] at HROW
      clear hlt hrow e
      go_wp2_with fail
      go_ret
      exact ⟨_, rfl, HBW.out, HROW.out⟩

def tightF (f : Fi) : Fi := { f with loose := false }

/-- The first ones are tightened. -/
def tightTo (fs : List Fi) (k : Nat) : List Fi := (fs.take k).map tightF ++ fs.drop k

theorem tightTo_length (fs : List Fi) (k : Nat) : (tightTo fs k).length = fs.length := by
  unfold tightTo
  rw [List.length_append, List.length_map, ← List.length_append, List.take_append_drop]

theorem tightTo_all (fs : List Fi) : tightTo fs fs.length = fs.map tightF := by
  unfold tightTo
  rw [List.take_length, List.drop_length, List.append_nil]

theorem fiCells_append (a b : List Fi) : fiCells (a ++ b) = fiCells a ++ fiCells b := by unfold fiCells; rw [List.flatMap_append]

theorem tightTo_succ (fs : List Fi) (k : Nat) (h : k < fs.length) : fiCells (tightTo fs (k + 1)) = (fiCells (tightTo fs k)).set (k * 5 + 4) (.bool false) := by
  have h1 : fs.drop k = fs[k] :: fs.drop (k + 1) := List.drop_eq_getElem_cons h
  have hl : (fiCells ((fs.take k).map tightF)).length = k * 5 := by rw [fiCells_length, List.length_map, List.length_take, Nat.min_eq_left (by omega)]
  have e1 : fiCells (tightTo fs (k + 1)) = fiCells ((fs.take k).map tightF) ++ (fiV (tightF fs[k]) ++ fiCells (fs.drop (k + 1))) := by
    unfold tightTo
    rw [List.take_succ_eq_append_getElem h, List.map_append, fiCells_append, fiCells_append, List.append_assoc]
    simp [fiCells]
  have e2 : fiCells (tightTo fs k) = fiCells ((fs.take k).map tightF) ++ (fiV fs[k] ++ fiCells (fs.drop (k + 1))) := by
    unfold tightTo
    rw [h1, fiCells_append]
    unfold fiCells
    rw [List.flatMap_cons]
  rw [e1, e2, List.set_append_right _ _ (by omega), hl, show k * 5 + 4 - k * 5 = 4 by omega]
  rfl

theorem heap_seven4 {w : World} {g : Nat} {x0 x1 x2 x3 x4 x5 x6 y : Value} {t : TypeId} (h : w.heap[g]? = some (.cells #[x0, x1, x2, x3, x4, x5, x6] t)) : (w.setCell ⟨g, 4, none⟩ y).heap[g]? = some (.cells #[x0, x1, x2, x3, y, x5, x6] t) := by
  simp [World.setCell, Array.getElem?_modify, h]

/-- Up to where it is synced is stored. -/
theorem LS.setSync {K : Nat → Obj → Prop} {w wr : World} {X Xd : Nat → Prop} {g gd : Nat} {least : Int} {h : Hd} {d : Dk} (l : LS K w X Xd g gd least h d wr) (x : Int) : LS K w X Xd g gd least { h with synced := x } d (wr.setCell ⟨g, 4, none⟩ (.int .i64 x)) := by
  obtain ⟨⟨vr, vf, rv, la⟩, lz⟩ := l.lg
  have ne : ∀ q, q ≠ g → (wr.setCell ⟨g, 4, none⟩ (.int .i64 x)).heap[q]? = wr.heap[q]? := fun q hq => heap_ne hq
  refine l.self ((Only.refl X wr).set (.inl la.fg) _) (fun q hq => .inl hq) ⟨⟨vr, vf, rv, heap_seven4 la.box, la.rows, ownsRow_same la.rrow fun q hq => ne q (la.fr q hq).2.1, ownsRow_same la.frow fun q hq => ne q (la.ff q hq).2, fun p hp => ?_, la.fg, la.fr, la.ff⟩, fun q hq => by rw [World.size_setCell]; exact lz q hq⟩
  obtain ⟨B, h1, h2⟩ := la.bod p hp
  exact ⟨B, h1.same (fun _ h => h) fun q hq => ne q (h2 q hq).2.1, h2⟩

set_option maxRecDepth 20000 in
set_option maxHeartbeats 3200000 in
theorem tighten_any (K : Nat → Obj → Prop) (w wa : World) (X Xd : Nat → Prop) (g gd : Nat) (least : Int) (h : Hd) (d : Dk) (l : LS K w X Xd g gd least h d wa) (ho : HdOk h) :
    Calls Tryz.prog 61 #[.pointer (some ⟨g, 0, none⟩)] wa fun e w' => e = .returned (.tuple #[]) ∧ LS K w X Xd g gd least (tighten h) d w' := by
  obtain ⟨⟨vr, vf, rv, la⟩, lz⟩ := l.lg
  obtain ⟨c0, c1, c2, c3, c4, c5, c6, cz⟩ := seven_cells la.box
  obtain ⟨fa, fc, rfl, hfl, hfm⟩ := row5_slice la.frow
  have HLA := Lib.hid la
  have HL := Lib.hid l
  have HLZ := Lib.hid lz
  obtain ⟨nf, hnf⟩ : ∃ nf, nf = h.files.length := ⟨_, rfl⟩
  rw [← hnf] at c3 hfl
  have HNF := Lib.hid hnf
  have hfn : nf ≤ 1000000 := by rw [hnf]; exact ho.fl
  clear la l ho hnf c0 c1 c2 c4 c5 c6 lz
  go_enter Tryz.func61, Tryz.ntmps61
  go_wp2_with fail
  go_loopg [2, 8] nf (fun gk _ i wr => ∃ k : Nat, i = .int .i64 (k : Int) ∧ k + gk = nf ∧ Only X wa wr ∧ wr.heap.size = wa.heap.size ∧ LgAt wr X g gd least { h with files := tightTo h.files k } vr (.slice fa nf fc) rv)
  case atStart => exact ⟨0, rfl, by omega, Only.refl _ _, rfl, by
    have := HLA.out
    rw [← HNF.out] at this
    exact this⟩
  case round =>
    obtain ⟨k, rfl, hkg, honly, hsz, hla⟩ := hrel
    have HON := Lib.hid honly
    have HLK := Lib.hid hla
    have HSZ := Lib.hid hsz
    by_cases hlt : k < nf
    · have hkk : (k : Int) < (nf : Int) := by omega
      have hlt2 : k < h.files.length := by rw [← HNF.out]; exact hlt
      have d3 := (seven_cells hla.box).2.2.2.1
      have dz := lt_of_heap hla.box
      obtain ⟨ga, c, hv, hgz, -, -, hel, hfz⟩ := row5_elem (f := fiV) (fun _ => rfl) hla.frow k (by show k < (tightTo h.files k).length; rw [tightTo_length]; exact hlt2)
      have hv2 : fa = some ⟨ga, 0, none⟩ := by cases hv; rfl
      subst hv2
      obtain ⟨bb, e4⟩ : ∃ bb, wr.cell? ⟨ga, k * 5 + 4, none⟩ = some (.bool bb) := ⟨_, hel 4 (by omega)⟩
      have f4 := hfz (k * 5 + 4)
      have HGA : Hid (X ga ∧ ga ≠ g ∧ vr.ownBlock ≠ some ga) := Lib.hid ⟨(hla.ff ga rfl).1, (hla.ff ga rfl).2, fun e => (hla.fr ga e).2.2 rfl⟩
      clear hel hfz hla honly hsz hv
      go_wp2_with fail
      go_roundg (gk - 1)
      case measure => omega
      case rel =>
        have hla := HLK.out
        have ne : ∀ q, q ≠ ga → (wr.setCell ⟨ga, k * 5 + 4, none⟩ (.bool false)).heap[q]? = wr.heap[q]? := fun q hq => heap_ne hq
        refine ⟨k + 1, by go_num, by omega, HON.out.set (.inl HGA.out.1) _, by rw [World.size_setCell]; exact HSZ.out, ?_⟩
        have hlt2 : k < h.files.length := by rw [← HNF.out]; exact hlt
        refine ⟨(ne g fun e => HGA.out.2.1 e.symm).trans hla.box, hla.rows, ownsRow_same hla.rrow fun q hq => ne q fun e => HGA.out.2.2 (e ▸ hq), ?_, fun p hp => ?_, hla.fg, hla.fr, hla.ff⟩
        · have hf : wr.ownsRow 0 114 5 (.slice (some ⟨ga, 0, none⟩) nf fc) nf (fiCells (tightTo h.files k)) := by
            have := hla.frow
            simp only [tightTo_length, ← HNF.out] at this
            exact this
          have hs := (hf.stored (k * 5 + 4) (.bool false)).1
          show World.ownsRow _ _ _ _ _ (tightTo h.files (k + 1)).length (fiCells (tightTo h.files (k + 1)))
          rw [tightTo_succ h.files k hlt2, tightTo_length, ← HNF.out]
          exact hs
        · obtain ⟨B, h1, h2⟩ := hla.bod p hp
          exact ⟨B, h1.same (fun _ h => h) fun q hq => ne q fun e => (h2 q hq).2.2.2 (by rw [e]; rfl), h2⟩
    · have hkk : ¬ (k : Int) < (nf : Int) := by omega
      obtain rfl : k = nf := by omega
      have hla2 := hla
      rw [HNF.out, tightTo_all] at hla2
      have HLT : Hid (LS K w X Xd g gd least { h with files := h.files.map tightF } d wr) := Lib.hid (HL.out.self honly (fun q hq => .inl hq) ⟨⟨vr, _, rv, by
        rw [HNF.out, tightTo_all] at hla
        exact hla⟩, fun q hq => by rw [hsz]; exact HLZ.out q hq⟩)
      clear hlt honly hsz hla hla2
      go_wp2_with fail
      refine HLT.out.lg.last_any.mono ?_
      rintro e w9 ⟨rfl, hb9⟩
      have HL9 := Lib.hid (HLT.out.next hb9)
      have hll : ({ h with files := h.files.map tightF } : Hd).last = h.last := rfl
      rw [hll]
      obtain ⟨ll, hl2⟩ : ∃ ll, ll = h.last := ⟨_, rfl⟩
      rw [← hl2]
      have HL2 := Lib.hid hl2
      obtain ⟨l1, l2⟩ := ll
      have hfm := mark_idx l1 l2
      obtain ⟨⟨vr9, vf9, rv9, la9⟩, -⟩ := HL9.out.lg
      have d4 := (seven_cells la9.box).2.2.2.2.1
      have f4 : w9.frozen? ⟨g, 4, none⟩ = false := frozen_of_row _ _ 4 _ _ la9.box
      have dz := lt_of_heap la9.box
      have HFIN : Hid (LS K w X Xd g gd least (tighten h) d (w9.setCell ⟨g, 4, none⟩ (.int .i64 l1))) := Lib.hid (by
        have := HL9.out.setSync l1
        have e : tighten h = { ({ h with files := h.files.map tightF } : Hd) with synced := l1 } := by
          unfold tighten
          rw [← HL2.out]
          rfl
        rw [e]
        exact this)
      clear la9 hl2 hll hb9
      go_wp2_with fail
      go_end0
      exact ⟨rfl, HFIN.out⟩

theorem RepSl.of_row {w : World} {base : Nat} {l : List ByteArray} {v : Value} (h : w.ownsRow base 9 1 v l.length (l.map .string)) : RepSl w (fun b => base ≤ b ∧ b < w.heap.size) l v := by
  obtain ⟨hx, h | ⟨g, cap, cur, hv, hg, hcur, hn, hm, hs, ht⟩⟩ := h
  · obtain ⟨rfl, h2⟩ := h
    rw [List.length_eq_zero_iff] at h2
    exact .inl ⟨h2, Bare.nil⟩
  · refine .inr ⟨g, 0, cap, hv, ⟨hg, lt_of_heap hcur⟩, hn, by unfold maxLen at hm; omega, fun i hi => ?_⟩
    rw [cell_of_row w g (0 + i) _ _ _ hcur]
    have h2 : (cur.toList.take (l.length * 1))[i]? = (l.map Value.string)[i]? := by rw [ht]
    rw [List.getElem?_take, if_pos (by omega), List.getElem?_map, List.getElem?_eq_getElem hi] at h2
    simpa using h2

theorem looseNames_nil {fs : List Fi} (h : (looseNames fs).length = 0) : looseNames fs = [] := List.length_eq_zero_iff.1 h

theorem looseNames_size (fs : List Fi) : ∀ s ∈ looseNames fs, s.size ≤ 9223372036854775807 := by
  intro s hs
  unfold looseNames at hs
  obtain ⟨f, -, rfl⟩ := List.mem_map.1 hs
  have : (sgName f.first).size = 14 := by
    unfold sgName
    show (_ : Array UInt8).size = _
    simp [dg_length]
  omega

set_option maxRecDepth 20000 in
set_option maxHeartbeats 3200000 in
theorem Sync_any (K : Nat → Obj → Prop) (w wa : World) (X Xd : Nat → Prop) (g gd : Nat) (least : Int) (h : Hd) (d : Dk) (l : LS K w X Xd g gd least h d wa) (ho : HdOk h) (hP : Hid (Pow10 w)) :
    Calls Tryz.prog 13 #[.pointer (some ⟨g, 0, none⟩)] wa fun e w' => e = .returned (.int .i64 (syncE h d).1) ∧ ∃ Xd', LS K w X Xd' g gd least (syncE h d).2.1 (syncE h d).2.2 w' := by
  have HL := Lib.hid l
  have HO := Lib.hid ho
  have hloose := loose_any X g gd least h wa l.lg ho (Lib.hid (hP.out.next l.below))
  have HLO := Lib.hid hloose
  clear l ho hloose
  go_enter Tryz.func13, Tryz.ntmps13
  go_wp2_with fail
  refine HLO.out.mono ?_
  rintro e w1 ⟨v, rfl, hb1, hrow⟩
  have HL1 := Lib.hid (HL.out.next hb1)
  have HR1 : Hid (RepSl w1 (fun b => wa.heap.size ≤ b ∧ b < w1.heap.size) (looseNames h.files) v) := Lib.hid (RepSl.of_row hrow)
  obtain ⟨ns, hns⟩ : ∃ ns, ns = looseNames h.files := ⟨_, rfl⟩
  rw [← hns] at HR1 hrow
  have HNS := Lib.hid hns
  obtain ⟨va, vc, rfl⟩ := owned_slice hrow
  obtain ⟨m, hm⟩ : ∃ m, m = ns.length := ⟨_, rfl⟩
  rw [← hm] at HR1 ⊢
  have HM := Lib.hid hm
  clear hb1 hrow hns hm
  by_cases hm0 : m = 0
  · subst hm0
    have HE : Hid (syncE h d = (0, tighten h, d)) := Lib.hid (by
      unfold syncE
      have e0 : looseNames h.files = [] := looseNames_nil (by rw [← HNS.out]; exact HM.out.symm)
      rw [e0]
      rfl)
    go_wp2_with fail
    refine (tighten_any K w w1 X Xd g gd least h d HL1.out HO.out).mono ?_
    rintro e w2 ⟨rfl, h2⟩
    go_wp2_with fail
    go_ret
    rw [HE.out]
    exact ⟨rfl, Xd, h2⟩
  · have hmp : (0 : Int) < (m : Int) := by omega
    obtain ⟨⟨vr5, vf5, rv5, la5⟩, -⟩ := HL1.out.lg
    obtain ⟨d0, d1, d2, d3, d4, d5, d6, dz⟩ := seven_cells la5.box
    clear la5 d0 d1 d2 d3 d4 d6
    have HE : Hid (syncE h d = if (D.sync d ns).1 ≠ 0 then ((D.sync d ns).1, h, (D.sync d ns).2) else (0, tighten h, (D.sync d ns).2)) := Lib.hid (by
      have hne : ns ≠ [] := fun e => by
        have h1 := HM.out
        rw [e] at h1
        exact hm0 h1
      unfold syncE
      simp only [← HNS.out, if_neg hne])
    go_wp2_with fail
    refine (DSync HL1.out.ds ns _ _ (by rw [HNS.out]; exact looseNames_size _) HR1.out (fun q hq => ⟨hq.2, fun hx => by have := HL.out.ds.lt q hx; omega⟩)).mono ?_
    intro e w2 hp
    obtain ⟨rfl, Xd', h2⟩ := HL1.out.disk hp
    have HL2 := Lib.hid h2
    obtain ⟨r, hr⟩ : ∃ r, r = D.sync d ns := ⟨_, rfl⟩
    rw [← hr] at HL2 HE ⊢
    obtain ⟨r1, rd⟩ := r
    simp only at HL2 HE ⊢
    clear hp h2 hr d5 dz
    by_cases hr0 : r1 = 0
    · subst hr0
      have HE2 : Hid (syncE h d = (0, tighten h, rd)) := Lib.hid (by rw [HE.out]; rfl)
      go_wp2_with fail
      refine (tighten_any K w w2 X Xd' g gd least h rd HL2.out HO.out).mono ?_
      rintro e w3 ⟨rfl, h3⟩
      go_wp2_with fail
      go_ret
      rw [HE2.out]
      exact ⟨rfl, Xd', h3⟩
    · have q : (r1 != 0) = true := by simpa using hr0
      have HE2 : Hid (syncE h d = (r1, h, rd)) := Lib.hid (by rw [HE.out, if_pos hr0])
      go_wp2_with fail
      go_ret
      rw [HE2.out]
      exact ⟨rfl, Xd', HL2.out⟩
end Go.Proofs.YtbcpcopapbgcdaaGreatDoor.M

/- Part: SegGet. -/
namespace Go.Proofs.YtbcpcopapbgcdaaGreatDoor.M
open Go.RowKit Go.Maps
open D (Fl Dk)

/-- Entries without a gap. -/
def Hd.Seq (h : Hd) : Prop := ∀ (i : Nat) (hi : i < h.rows.length), h.rows[i].e.idx = h.mi + 1 + i

theorem Hd.Seq.last {h : Hd} (s : h.Seq) : h.last.1 = h.mi + h.rows.length := by
  unfold Hd.last
  cases hl : h.rows.getLast? with
  | none =>
    rw [List.getLast?_eq_none_iff] at hl
    simp [hl]
  | some r =>
    rw [List.getLast?_eq_getElem?] at hl
    obtain ⟨hlt, hr⟩ := List.getElem?_eq_some_iff.1 hl
    have := s _ hlt
    rw [hr] at this
    simp only
    omega

/-- The row of an index. -/
def Hd.row? (h : Hd) (ix : Int) : Option Rw := if ix ≤ h.mi then none else h.rows[(ix - h.mi - 1).toNat]?

def termAt (h : Hd) (ix : Int) : Int × Bool := if ix = h.mi then (h.mt, true) else match h.row? ix with
  | none => (0, false)
  | some r => (r.e.term, true)

theorem place_row {h : Hd} (s : h.Seq) (ix : Int) : (ix ≤ h.mi ∨ h.last.1 < ix) ↔ h.row? ix = none := by
  unfold Hd.row?
  rw [s.last]
  by_cases h1 : ix ≤ h.mi
  · simp [h1]
  · rw [if_neg h1, List.getElem?_eq_none_iff]
    constructor
    · intro h2; omega
    · intro h2; omega

theorem row_some {h : Hd} {ix : Int} {r : Rw} (hr : h.row? ix = some r) : ¬ ix ≤ h.mi ∧ ∃ (i : Nat) (hi : i < h.rows.length), (i : Int) = ix - h.mi - 1 ∧ h.rows[i] = r := by
  unfold Hd.row? at hr
  by_cases h1 : ix ≤ h.mi
  · rw [if_pos h1] at hr; cases hr
  · rw [if_neg h1] at hr
    obtain ⟨hi, e⟩ := List.getElem?_eq_some_iff.1 hr
    exact ⟨h1, _, hi, by omega, e⟩

set_option maxRecDepth 20000 in
theorem LogLast_any (X : Nat → Prop) (g gd : Nat) (least : Int) (h : Hd) (w : World) (l : Lg w X g gd least h) :
    Calls Tryz.prog 49 #[.pointer (some ⟨g, 0, none⟩)] w fun e w' => e = .returned (.agg #[.int .i64 h.last.1, .int .i64 h.last.2]) ∧ Below w.heap.size w w' := by
  obtain ⟨W, hW⟩ : ∃ W, W = w.alloc (.cells #[.int .i64 0, .int .i64 0] 32) := ⟨_, rfl⟩
  have hb : Below w.heap.size w W := by rw [hW]; exact below_alloc _ _
  have hbox : W.heap[w.heap.size]? = some (.cells #[.int .i64 0, .int .i64 0] 32) := by rw [hW]; exact heap_new _ _ _ rfl
  have HL := Lib.hid (l.next hb).last_any
  have HB := Lib.hid hb
  have HX := Lib.hid hbox
  have HW := Lib.hid hW
  clear l hb hbox hW
  go_enter Tryz.func49, Tryz.ntmps49
  go_wp2_with fail
  rw [← HW.out]
  refine HL.out.mono ?_
  rintro e w1 ⟨rfl, hb1⟩
  obtain ⟨b0, b1, f0, f1, bz⟩ := block2 (old_below HX.out hb1)
  have HB1 := Lib.hid (HB.out.trans (hb1.mono HB.out.size))
  obtain ⟨⟨l1, l2⟩, hl⟩ : ∃ ll, ll = h.last := ⟨_, rfl⟩
  rw [← hl]
  have HLL := Lib.hid hl
  clear hl hb1
  go_wp2_with fail
  refine bodyPost_ret (v := .agg #[.int .i64 l1, .int .i64 l2]) (by simp [results, Tryz.results49, go_sem, b0, b1, f0, f1, bz]) rfl ?_
  rw [← HLL.out]
  exact ⟨rfl, (HB1.out.setCell (by simp) _).setCell (by simp) _⟩

set_option maxRecDepth 20000 in
set_option maxHeartbeats 3200000 in
theorem Term_any (X : Nat → Prop) (g gd : Nat) (least : Int) (h : Hd) (ix : Int) (w : World) (l : Lg w X g gd least h) (ho : HdOk h) (hs : h.Seq) :
    Calls Tryz.prog 48 #[.pointer (some ⟨g, 0, none⟩), .int .i64 ix] w fun e w' => e = .returned (.tuple #[.int .i64 (termAt h ix).1, .bool (termAt h ix).2]) ∧ Below w.heap.size w w' := by
  have HPL := Lib.hid (l.place_any ho ix)
  obtain ⟨⟨vr, vf, rv, la⟩, lz⟩ := l
  obtain ⟨c0, c1, c2, c3, c4, c5, c6, cz⟩ := seven_cells la.box
  obtain ⟨ra, rc, rfl, hrl, hrm⟩ := row5_slice la.rrow
  have HLA := Lib.hid la
  have HS := Lib.hid hs
  have hm := ho.m
  have hrn : rv.length ≤ 1000000 := by
    have h1 := ho.rl
    rw [← la.rows, List.length_map] at h1
    exact h1
  have HRL := Lib.hid la.rows
  obtain ⟨nr, hnr⟩ : ∃ nr, nr = rv.length := ⟨_, rfl⟩
  rw [← hnr] at c2 hrl hrn
  have HNR := Lib.hid hnr
  obtain ⟨T, hT⟩ : ∃ T, T = termAt h ix := ⟨_, rfl⟩
  rw [← hT]
  have HT := Lib.hid hT
  have HC2 := Lib.hid c2
  have HCZ := Lib.hid cz
  clear la ho hs c3 c4 c5 c6 lz hnr hT
  obtain ⟨mi, hmi⟩ : ∃ mi, mi = h.mi := ⟨_, rfl⟩
  obtain ⟨mt, hmt⟩ : ∃ mt, mt = h.mt := ⟨_, rfl⟩
  have HMI := Lib.hid hmi
  have HMT := Lib.hid hmt
  rw [← hmi] at c0 hm
  rw [← hmt] at c1 hm
  by_cases h1 : ix = mi
  · have q : (ix == mi) = true := by simpa using h1
    have HE : Hid (T = (mt, true)) := Lib.hid (by rw [HT.out]; unfold termAt; rw [if_pos (by rw [← hmi]; exact h1), ← hmt])
    clear hmi hmt h1
    go_enter Tryz.func48, Tryz.ntmps48
    go_wp2_with fail
    go_ret2
    rw [HE.out]
    exact ⟨rfl, Below.refl _ _⟩
  · have q : (ix == mi) = false := beq_eq_false_iff_ne.2 h1
    cases hrow : h.row? ix with
    | none =>
      have HE : Hid (T = (0, false)) := Lib.hid (by rw [HT.out]; unfold termAt; rw [if_neg (by rw [← hmi]; exact h1), hrow])
      have HP2 : Hid (Calls Tryz.prog 65 #[.pointer (some ⟨g, 0, none⟩), .int .i64 ix] w fun e w' => e = .returned (.tuple #[.int .i64 0, .bool false]) ∧ Below w.heap.size w w') := Lib.hid (by
        have := HPL.out
        rw [if_pos ((place_row HS.out ix).2 hrow)] at this
        exact this)
      clear hmi hmt h1 hrow HPL
      go_enter Tryz.func48, Tryz.ntmps48
      go_wp2_with fail
      refine HP2.out.mono ?_
      rintro e w1 ⟨rfl, hb1⟩
      have HB1 := Lib.hid hb1
      clear hb1
      go_wp2_with fail
      go_ret2
      rw [HE.out]
      exact ⟨rfl, HB1.out⟩
    | some r =>
      obtain ⟨h2, i, hi, hie, hir⟩ := row_some hrow
      have HE : Hid (T = (r.e.term, true)) := Lib.hid (by rw [HT.out]; unfold termAt; rw [if_neg (by rw [← hmi]; exact h1), hrow])
      have HP2 : Hid (Calls Tryz.prog 65 #[.pointer (some ⟨g, 0, none⟩), .int .i64 ix] w fun e w' => e = .returned (.tuple #[.int .i64 (i : Int), .bool true]) ∧ Below w.heap.size w w') := Lib.hid (by
        have := HPL.out
        rw [if_neg (by rw [place_row HS.out ix, hrow]; simp), ← hie] at this
        exact this)
      have hrl2 : i < rv.length := by rw [← HRL.out, List.length_map] at hi; exact hi
      obtain ⟨ga, c, hv, hgz, -, -, hel, -⟩ := row5_elem (f := rwV) (fun _ => rfl) HLA.out.rrow i hrl2
      have hra : ra = some ⟨ga, 0, none⟩ := by cases hv; rfl
      subst hra
      have e1 : w.cell? ⟨ga, i * 5 + 1, none⟩ = some (.int .i64 r.e.term) := by
        have e := hel 1 (by omega)
        have hrr : rv[i].1 = r := by
          have : (rv.map (·.1))[i]? = some r := by rw [HRL.out, List.getElem?_eq_getElem hi, hir]
          rw [List.getElem?_map, List.getElem?_eq_getElem hrl2] at this
          simpa using this
        simp only [rwV, hrr, List.getElem?_cons_succ, List.getElem?_cons_zero] at e
        exact e
      have hin : (i : Int) < (nr : Int) := by have := HNR.out; omega
      have HE1 := Lib.hid e1
      have HGZ := Lib.hid hgz
      clear hmi hmt h1 hrow HPL hel hv hir hi hie h2 hrl2 e1 c2
      go_enter Tryz.func48, Tryz.ntmps48
      go_wp2_with fail
      refine HP2.out.mono ?_
      rintro e w1 ⟨rfl, hb1⟩
      have HB1 := Lib.hid hb1
      have k2 := (hb1.cell (p := ⟨g, 2, none⟩) HCZ.out).trans HC2.out
      have k1 := (hb1.cell (p := ⟨ga, i * 5 + 1, none⟩) HGZ.out).trans HE1.out
      have kz := Nat.lt_of_lt_of_le HCZ.out hb1.size
      clear hb1
      go_wp2_with fail
      go_ret2
      rw [HE.out]
      exact ⟨rfl, HB1.out⟩
end Go.Proofs.YtbcpcopapbgcdaaGreatDoor.M

/- Part: SegAt. -/
namespace Go.Proofs.YtbcpcopapbgcdaaGreatDoor.M
open Go.RowKit Go.Maps
open D (Fl Dk)

/-- The entry at an index. -/
def entryAt (h : Hd) (ix : Int) : En × Bool := match h.row? ix with
  | none => (⟨0, 0, 0, []⟩, false)
  | some r => (r.e, true)

set_option maxRecDepth 20000 in
set_option maxHeartbeats 3200000 in
theorem LogAt_any (X : Nat → Prop) (g gd : Nat) (least : Int) (h : Hd) (ix : Int) (w : World) (l : Lg w X g gd least h) (ho : HdOk h) (hs : h.Seq) :
    Calls Tryz.prog 47 #[.pointer (some ⟨g, 0, none⟩), .int .i64 ix] w fun e w' => ∃ v, e = .returned (.tuple #[enAgg (entryAt h ix).1 v, .bool (entryAt h ix).2]) ∧ Own w (entryAt h ix).1.b v w' := by
  obtain ⟨W, hW⟩ : ∃ W, W = w.alloc (.cells #[.int .i64 0, .int .i64 0, .int .i64 0, .slice none 0 0] 36) := ⟨_, rfl⟩
  have hb0 : Below w.heap.size w W := by rw [hW]; exact below_alloc _ _
  have HX0 : Hid (W.heap[w.heap.size]? = some (.cells #[.int .i64 0, .int .i64 0, .int .i64 0, .slice none 0 0] 36)) := Lib.hid (by rw [hW]; exact heap_new _ _ _ rfl)
  have HZ : Hid (w.heap.size + 1 = W.heap.size) := Lib.hid (by rw [hW]; simp)
  have HB0 := Lib.hid hb0
  have HW := Lib.hid hW
  have l0 := l.next hb0
  clear hW l hb0
  have HPL := Lib.hid (l0.place_any ho ix)
  have HRB := Lib.hid ho.rb
  have HLT := Lib.hid l0.2
  obtain ⟨⟨vr, vf, rv, la⟩, lz⟩ := l0
  obtain ⟨c0, c1, c2, c3, c4, c5, c6, cz⟩ := seven_cells la.box
  obtain ⟨ra, rc, rfl, hrl, hrm⟩ := row5_slice la.rrow
  have HLA := Lib.hid la
  have HS := Lib.hid hs
  have hrn : rv.length ≤ 1000000 := by
    have h1 := ho.rl
    rw [← la.rows, List.length_map] at h1
    exact h1
  have HRL := Lib.hid la.rows
  obtain ⟨nr, hnr⟩ : ∃ nr, nr = rv.length := ⟨_, rfl⟩
  rw [← hnr] at c2 hrl hrn
  have HNR := Lib.hid hnr
  obtain ⟨T, hT⟩ : ∃ T, T = entryAt h ix := ⟨_, rfl⟩
  rw [← hT]
  have HT := Lib.hid hT
  have HC2 := Lib.hid c2
  have HCZ := Lib.hid cz
  clear la ho hs c0 c1 c3 c4 c5 c6 lz hnr hT
  cases hrow : h.row? ix with
  | none =>
    have HE : Hid (T = (⟨0, 0, 0, []⟩, false)) := Lib.hid (by rw [HT.out]; unfold entryAt; rw [hrow])
    have HP2 : Hid (Calls Tryz.prog 65 #[.pointer (some ⟨g, 0, none⟩), .int .i64 ix] W fun e w' => e = .returned (.tuple #[.int .i64 0, .bool false]) ∧ Below W.heap.size W w') := Lib.hid (by
      have := HPL.out
      rw [if_pos ((place_row HS.out ix).2 hrow)] at this
      exact this)
    clear hrow HPL
    go_enter Tryz.func47, Tryz.ntmps47
    go_wp2_with fail
    rw [← HW.out]
    refine HP2.out.mono ?_
    rintro e w1 ⟨rfl, hb1⟩
    have HB1 := Lib.hid (HB0.out.trans (hb1.mono HB0.out.size))
    have k1 := old_below HX0.out hb1
    obtain ⟨d0, d1, d2, d3, dz⟩ : w1.cell? ⟨w.heap.size, 0, none⟩ = some (.int .i64 0) ∧ w1.cell? ⟨w.heap.size, 1, none⟩ = some (.int .i64 0) ∧ w1.cell? ⟨w.heap.size, 2, none⟩ = some (.int .i64 0) ∧ w1.cell? ⟨w.heap.size, 3, none⟩ = some (.slice none 0 0) ∧ w.heap.size < w1.heap.size :=
      ⟨cell_of_row _ _ 0 _ _ _ k1, cell_of_row _ _ 1 _ _ _ k1, cell_of_row _ _ 2 _ _ _ k1, cell_of_row _ _ 3 _ _ _ k1, lt_of_heap k1⟩
    have fd : ∀ j, w1.frozen? ⟨w.heap.size, j, none⟩ = false := fun j => frozen_of_row _ _ j _ _ k1
    have fd0 := fd 0
    have fd1 := fd 1
    have fd2 := fd 2
    have fd3 := fd 3
    clear hb1 k1 fd
    go_wp2_with fail
    refine bodyPost_ret (v := .tuple #[.agg #[.int .i64 0, .int .i64 0, .int .i64 0, .slice none 0 0], .bool false]) (by simp [results, Tryz.results47, go_sem, d0, d1, d2, d3, dz]) rfl ?_
    rw [HE.out]
    exact ⟨_, rfl, Own.bare ((((HB1.out.setCell (by simp) _).setCell (by simp) _).setCell (by simp) _).setCell (by simp) _)⟩
  | some r =>
    obtain ⟨h2, i, hi, hie, hir⟩ := row_some hrow
    have HE : Hid (T = (r.e, true)) := Lib.hid (by rw [HT.out]; unfold entryAt; rw [hrow])
    have HP2 : Hid (Calls Tryz.prog 65 #[.pointer (some ⟨g, 0, none⟩), .int .i64 ix] W fun e w' => e = .returned (.tuple #[.int .i64 (i : Int), .bool true]) ∧ Below W.heap.size W w') := Lib.hid (by
      have := HPL.out
      rw [if_neg (by rw [place_row HS.out ix, hrow]; simp), ← hie] at this
      exact this)
    have hbl := (HRB.out r (by rw [← hir]; exact List.getElem_mem hi)).2.2.2
    have hrl2 : i < rv.length := by rw [← HRL.out, List.length_map] at hi; exact hi
    obtain ⟨ga, c, hv, hgz, -, -, hel, -⟩ := row5_elem (f := rwV) (fun _ => rfl) HLA.out.rrow i hrl2
    have hra : ra = some ⟨ga, 0, none⟩ := by cases hv; rfl
    subst hra
    have hrr : rv[i].1 = r := by
      have : (rv.map (·.1))[i]? = some r := by rw [HRL.out, List.getElem?_eq_getElem hi, hir]
      rw [List.getElem?_map, List.getElem?_eq_getElem hrl2] at this
      simpa using this
    have e0 := hel 0 (by omega)
    have e1 := hel 1 (by omega)
    have e2 := hel 2 (by omega)
    have e3 := hel 3 (by omega)
    obtain ⟨B, hB1, hB2⟩ := HLA.out.bod rv[i] (List.getElem_mem hrl2)
    simp only [rwV, hrr, List.getElem?_cons_succ, List.getElem?_cons_zero, Nat.add_zero] at e0 e1 e2 e3
    rw [hrr] at hB1
    obtain ⟨pv, hpv⟩ : ∃ pv, pv = rv[i].2 := ⟨_, rfl⟩
    rw [← hpv] at hB1 e3
    have hBz : ∀ k, B k → k < W.heap.size := fun k hk => HLT.out k (hB2 k hk).1
    obtain ⟨⟨xi, xt, xk, xb⟩, po⟩ := r
    simp only at hB1 e0 e1 e2 e3 hbl HE
    have HBL := Lib.hid hbl
    have HRB1 := Lib.hid hB1
    have HBZ := Lib.hid hBz
    obtain ⟨pa, pc, hpv2, hpl⟩ := hB1.slice
    obtain ⟨n, hn⟩ : ∃ n, n = xb.length := ⟨_, rfl⟩
    rw [← hn] at hpv2 hpl
    have HN := Lib.hid hn
    have HPV := Lib.hid hpv2
    have hin : (i : Int) < (nr : Int) := by have := HNR.out; omega
    have HE0 := Lib.hid e0
    have HE1 := Lib.hid e1
    have HE2 := Lib.hid e2
    have HE3 := Lib.hid (hpv2 ▸ e3)
    have HGZ := Lib.hid hgz
    clear hrow HPL hel hv hir hi hie h2 hrl2 e0 e1 e2 e3 c2 hrr hB1 hB2 hBz hpv hpv2 hn hbl hgz
    go_enter Tryz.func47, Tryz.ntmps47
    go_wp2_with fail
    rw [← HW.out]
    refine HP2.out.mono ?_
    rintro e w1 ⟨rfl, hb1⟩
    have HB1 := Lib.hid hb1
    have k2 := (hb1.cell (p := ⟨g, 2, none⟩) HCZ.out).trans HC2.out
    have kz := Nat.lt_of_lt_of_le HCZ.out hb1.size
    have a0 := (hb1.cell (p := ⟨ga, i * 5 + 0, none⟩) HGZ.out).trans HE0.out
    have a1 := (hb1.cell (p := ⟨ga, i * 5 + 1, none⟩) HGZ.out).trans HE1.out
    have a2 := (hb1.cell (p := ⟨ga, i * 5 + 2, none⟩) HGZ.out).trans HE2.out
    have a3 := (hb1.cell (p := ⟨ga, i * 5 + 3, none⟩) HGZ.out).trans HE3.out
    have az := Nat.lt_of_lt_of_le HGZ.out hb1.size
    simp only [Nat.add_zero] at a0
    have HV1 : Hid (RepB w1 B xb (.slice pa n pc) ∧ ∀ k, B k → k < w1.heap.size) := Lib.hid ⟨by
      have := HRB1.out
      rw [HPV.out] at this
      exact this.same (fun _ h => h) fun j hj => HB1.out.block j (HBZ.out j hj), fun k hk => Nat.lt_of_lt_of_le (HBZ.out k hk) HB1.out.size⟩
    clear hb1
    go_wp2_with fail
    refine (copied_any ⟨xi, xt, xk, xb⟩ _ B _ HV1.out.1 HV1.out.2 (by have := HBL.out; show xb.length ≤ _; omega)).mono ?_
    rintro e w2 ⟨u, rfl, ho2⟩
    obtain ⟨ua, uc, rfl⟩ := ho2.slice
    have ho3 := ho2.base (HB0.out.trans (HB1.out.mono HB0.out.size))
    unfold enAgg
    simp only at ho2 ho3 ⊢
    rw [← HN.out] at ho2 ho3 ⊢
    have HO2 := Lib.hid ho2
    have HO3 := Lib.hid ho3
    have k1 := old_below (old_below HX0.out HB1.out) ho2.1
    obtain ⟨d0, d1, d2, d3, dz⟩ : w2.cell? ⟨w.heap.size, 0, none⟩ = some (.int .i64 0) ∧ w2.cell? ⟨w.heap.size, 1, none⟩ = some (.int .i64 0) ∧ w2.cell? ⟨w.heap.size, 2, none⟩ = some (.int .i64 0) ∧ w2.cell? ⟨w.heap.size, 3, none⟩ = some (.slice none 0 0) ∧ w.heap.size < w2.heap.size :=
      ⟨cell_of_row _ _ 0 _ _ _ k1, cell_of_row _ _ 1 _ _ _ k1, cell_of_row _ _ 2 _ _ _ k1, cell_of_row _ _ 3 _ _ _ k1, lt_of_heap k1⟩
    have fd : ∀ j, w2.frozen? ⟨w.heap.size, j, none⟩ = false := fun j => frozen_of_row _ _ j _ _ k1
    have fd0 := fd 0
    have fd1 := fd 1
    have fd2 := fd 2
    have fd3 := fd 3
    clear ho2 ho3 k1 fd
    go_wp2_with fail
    refine bodyPost_ret (v := .tuple #[.agg #[.int .i64 xi, .int .i64 xt, .int .i64 xk, .slice ua n uc], .bool true]) (by simp [results, Tryz.results47, go_sem, d0, d1, d2, d3, dz]) rfl ?_
    rw [HE.out]
    refine ⟨_, rfl, ?_⟩
    have hne : (Value.slice ua n uc).ownBlock ≠ some w.heap.size := fun e => by
      have := (HO2.out.2.lt _ e).1
      have := HZ.out
      have := HB1.out.size
      omega
    exact (((HO3.out.far (Nat.le_refl _) hne _).far (Nat.le_refl _) hne _).far (Nat.le_refl _) hne _).far (Nat.le_refl _) hne _
end Go.Proofs.YtbcpcopapbgcdaaGreatDoor.M

/- Part: SegEmp. -/
namespace Go.Proofs.YtbcpcopapbgcdaaGreatDoor.M
open Go.RowKit Go.Maps
open D (Fl Dk)

def emptied (h : Hd) (mi mt : Int) : Hd := { h with rows := [], mi := mi, mt := mt, synced := mi }

/-- The log without entries, behind a mark. -/
theorem LS.setEmpty {K : Nat → Obj → Prop} {w wr w' : World} {X Xd : Nat → Prop} {g gd : Nat} {least : Int} {h : Hd} {d : Dk} (l : LS K w X Xd g gd least h d wr) (mi mt : Int) {vr vf : Value} {rv : List (Rw × Value)} (la : LgAt wr X g gd least h vr vf rv) (ho : Only (fun k => k = g) wr w') (hz : w'.heap.size = wr.heap.size)
    (hbox : w'.heap[g]? = some (.cells #[.int .i64 mi, .int .i64 mt, .slice none 0 0, vf, .int .i64 mi, .pointer (some ⟨gd, 0, none⟩), .int .i64 least] 104)) : LS K w X Xd g gd least (emptied h mi mt) d w' := by
  have lz := l.lg.2
  refine l.self (ho.mono fun k hk => by rw [hk]; exact la.fg) (fun q hq => .inl hq) ⟨⟨.slice none 0 0, vf, [], hbox, rfl, World.ownsRow_nil _ _ _ _, ownsRow_same la.frow fun q hq => ho.block q (lz q (la.ff q hq).1) (la.ff q hq).2, fun p hp => (List.not_mem_nil hp).elim, la.fg, fun k hk => ?_, la.ff⟩, fun q hq => by rw [hz]; exact lz q hq⟩
  cases hk

theorem heap_sevenE {w : World} {g : Nat} {x0 x1 x2 x3 x4 x5 x6 y0 y1 y2 y4 : Value} {t : TypeId} (h : w.heap[g]? = some (.cells #[x0, x1, x2, x3, x4, x5, x6] t)) :
    ((((w.setCell ⟨g, 2, none⟩ y2).setCell ⟨g, 0, none⟩ y0).setCell ⟨g, 1, none⟩ y1).setCell ⟨g, 4, none⟩ y4).heap[g]? = some (.cells #[y0, y1, y2, x3, y4, x5, x6] t) := by
  simp [World.setCell, Array.getElem?_modify, h]

set_option maxRecDepth 20000 in
set_option maxHeartbeats 3200000 in
theorem empty_any (K : Nat → Obj → Prop) (w wa : World) (X Xd : Nat → Prop) (g gd : Nat) (least : Int) (h : Hd) (d : Dk) (l : LS K w X Xd g gd least h d wa) (mi mt : Int) :
    Calls Tryz.prog 111 #[.pointer (some ⟨g, 0, none⟩), .agg #[.int .i64 mi, .int .i64 mt]] wa fun e w' => e = .returned (.tuple #[]) ∧ LS K w X Xd g gd least (emptied h mi mt) d w' := by
  obtain ⟨W, hW⟩ : ∃ W, W = wa.alloc (.cells #[.int .i64 mi, .int .i64 mt] 32) := ⟨_, rfl⟩
  have hb0 : Below wa.heap.size wa W := by rw [hW]; exact below_alloc _ _
  have hx0 : W.heap[wa.heap.size]? = some (.cells #[.int .i64 mi, .int .i64 mt] 32) := by rw [hW]; exact heap_new _ _ _ rfl
  have hga := lt_of_heap l.lg.1.choose_spec.choose_spec.choose_spec.box
  have l0 := l.next hb0
  obtain ⟨gb, hgb⟩ : ∃ gb, gb = wa.heap.size := ⟨_, rfl⟩
  rw [← hgb] at hx0
  have HW := Lib.hid hW
  have HGB := Lib.hid hgb
  obtain ⟨⟨vr, vf, rv, la⟩, lz⟩ := l0.lg
  have HLA := Lib.hid la
  have HL := Lib.hid l0
  have HX := Lib.hid hx0
  obtain ⟨c0, c1, c2, c3, c4, c5, c6, cz⟩ := seven_cells la.box
  obtain ⟨b0, b1, f0, f1, bz⟩ := block2 hx0
  have fd : ∀ j, W.frozen? ⟨g, j, none⟩ = false := fun j => frozen_of_row _ _ j _ _ la.box
  have k0 := fd 0
  have k1 := fd 1
  have k2 := fd 2
  have k4 := fd 4
  have hne : g ≠ gb := by omega
  have hne2 : gb ≠ g := by omega
  clear l0 l la lz hx0 hW hgb hb0 fd hga
  go_enter Tryz.func111, Tryz.ntmps111
  go_wp2_with fail
  rw [← HW.out]
  rw [← HGB.out]
  go_region
  go_wp2_with fail
  go_end0
  exact ⟨rfl, HL.out.setEmpty mi mt HLA.out (Only.drawn (Only.set (g := g) (Only.set (g := g) (Only.set (g := g) (Only.set (g := g) (Only.refl (fun k => k = g) W) (.inl rfl) _) (.inl rfl) _) (.inl rfl) _) (.inl rfl) _)) (by show (World.heap (World.setCell _ _ _)).size = _; simp) (heap_sevenE HLA.out.box)⟩
end Go.Proofs.YtbcpcopapbgcdaaGreatDoor.M

/- Part: SegFit. -/
namespace Go.Proofs.YtbcpcopapbgcdaaGreatDoor.M
open Go.RowKit Go.Maps
open D (Fl Dk)

theorem _root_.Go.RowKit.Below.drewMany {n : Nat} {w w' : World} (h : Below n w w') (k : Nat) : Below n w (w'.drewN k) := ⟨h.os, h.tape, h.output, h.size, h.block⟩

/-- Does what was scanned fit a mark? -/
def fitsE (h : Hd) (mi mt : Int) : Bool := match h.rows with
  | [] => match h.files with
    | [] => false
    | f :: _ => f.hollow && decide (f.first = mi + 1)
  | r :: _ => if r.e.idx = mi + 1 then decide (mt ≤ r.e.term) else if mi - r.e.idx < 0 then false else match h.rows[(mi - r.e.idx).toNat]? with
    | none => false
    | some q => decide (q.e.term = mt)

set_option maxRecDepth 20000 in
set_option maxHeartbeats 3200000 in
theorem fits_none (X : Nat → Prop) (g gd : Nat) (least : Int) (h : Hd) (w : World) (l : Lg w X g gd least h) (hr : h.rows = []) (hf : h.files = []) (mi mt : Int) :
    Calls Tryz.prog 110 #[.pointer (some ⟨g, 0, none⟩), .agg #[.int .i64 mi, .int .i64 mt]] w fun e w' => e = .returned (.bool false) ∧ Below w.heap.size w w' := by
  obtain ⟨⟨vr, vf, rv, la⟩, lz⟩ := l
  obtain ⟨c0, c1, c2, c3, c4, c5, c6, cz⟩ := seven_cells la.box
  have hl : rv.length = 0 := by
    have := la.rows
    rw [hr] at this
    rw [← List.length_map (f := (·.1)), this]; rfl
  obtain ⟨ra, rc, rfl, -, -⟩ := row5_slice la.rrow
  obtain ⟨fa, fc, rfl, -, -⟩ := row5_slice la.frow
  rw [hl] at c2
  rw [hf, List.length_nil] at c3
  clear la lz c0 c1 c4 c5 c6 hl hr hf
  go_enter Tryz.func110, Tryz.ntmps110
  go_wp2_with fail
  go_quiet (fail)
  go_wp2_with fail
  go_ret
  exact ⟨rfl, (below_alloc _ _).drewMany _⟩
set_option maxRecDepth 20000 in
set_option maxHeartbeats 3200000 in
theorem fits_hollow (X : Nat → Prop) (g gd : Nat) (least : Int) (h : Hd) (f : Fi) (fs : List Fi) (w : World) (l : Lg w X g gd least h) (ho : HdOk h) (hr : h.rows = []) (hf : h.files = f :: fs) (mi mt : Int) (hm : 0 ≤ mi ∧ mi < 10000000000) :
    Calls Tryz.prog 110 #[.pointer (some ⟨g, 0, none⟩), .agg #[.int .i64 mi, .int .i64 mt]] w fun e w' => e = .returned (.bool (f.hollow && decide (f.first = mi + 1))) ∧ Below w.heap.size w w' := by
  obtain ⟨⟨vr, vf, rv, la⟩, lz⟩ := l
  obtain ⟨c0, c1, c2, c3, c4, c5, c6, cz⟩ := seven_cells la.box
  have hl : rv.length = 0 := by
    have := la.rows
    rw [hr] at this
    rw [← List.length_map (f := (·.1)), this]; rfl
  obtain ⟨ra, rc, rfl, -, -⟩ := row5_slice la.rrow
  obtain ⟨ga, fc, rfl, hgz, hfl, hfm, hel, -⟩ := row5_elem (f := fiV) (fun _ => rfl) la.frow 0 (by rw [hf]; simp)
  have hff := ho.fl
  obtain ⟨nf, hnf⟩ : ∃ nf, nf = h.files.length := ⟨_, rfl⟩
  rw [← hnf] at c3 hfl hff
  have hnf1 : 0 < nf := by rw [hnf, hf]; simp
  have hnf2 : (0 : Int) < (nf : Int) := by omega
  rw [hl] at c2
  have e0 := hel 0 (by omega)
  have e1 := hel 1 (by omega)
  have e2 := hel 2 (by omega)
  have e3 := hel 3 (by omega)
  have e4 := hel 4 (by omega)
  simp only [hf, List.getElem_cons_zero, fiV, List.getElem?_cons_succ, List.getElem?_cons_zero, Nat.zero_mul, Nat.zero_add] at e0 e1 e2 e3 e4
  have HC := Lib.hid (And.intro c3 (And.intro e0 (And.intro e1 (And.intro e2 (And.intro e3 e4)))))
  have HZ := Lib.hid (And.intro cz hgz)
  have HHO := fun w => Lib.hid (SgHollow_any f w)
  obtain ⟨ff, fl, fz, fo, fb⟩ := f
  simp only at HC ⊢
  have hw1 : IntKind.i64.wrap (mi + 1) = mi + 1 := IntWalk.i64_in _ (by omega)
  clear la lz c0 c1 c4 c5 c6 hl hr hf hnf hel e0 e1 e2 e3 e4 hgz
  go_enter Tryz.func110, Tryz.ntmps110
  go_wp2_with fail
  obtain ⟨W, hW⟩ : ∃ W, W = w.alloc (.cells #[.int .i64 mi, .int .i64 mt] 32) := ⟨_, rfl⟩
  rw [← hW]
  have hb0 : Below w.heap.size w W := by rw [hW]; exact below_alloc _ _
  have hx : W.heap[w.heap.size]? = some (.cells #[.int .i64 mi, .int .i64 mt] 32) := by rw [hW]; exact heap_new _ _ _ rfl
  have HB0 := Lib.hid hb0
  have d3 : ∀ w', Below W.heap.size W w' → w'.cell? ⟨g, 3, none⟩ = some (.slice (some ⟨ga, 0, none⟩) nf fc) := fun w' hw' => ((HB0.out.trans (hw'.mono HB0.out.size)).cell (p := ⟨g, 3, none⟩) HZ.out.1).trans HC.out.1
  have d0 : ∀ w', Below W.heap.size W w' → w'.cell? ⟨ga, 0, none⟩ = some (.int .i64 ff) := fun w' hw' => ((HB0.out.trans (hw'.mono HB0.out.size)).cell (p := ⟨ga, 0, none⟩) HZ.out.2).trans HC.out.2.1
  have d1 : ∀ w', Below W.heap.size W w' → w'.cell? ⟨ga, 1, none⟩ = some (.int .i64 fl) := fun w' hw' => ((HB0.out.trans (hw'.mono HB0.out.size)).cell (p := ⟨ga, 1, none⟩) HZ.out.2).trans HC.out.2.2.1
  have d2 : ∀ w', Below W.heap.size W w' → w'.cell? ⟨ga, 2, none⟩ = some (.int .i64 fz) := fun w' hw' => ((HB0.out.trans (hw'.mono HB0.out.size)).cell (p := ⟨ga, 2, none⟩) HZ.out.2).trans HC.out.2.2.2.1
  have d5 : ∀ w', Below W.heap.size W w' → w'.cell? ⟨ga, 3, none⟩ = some (.int .i64 fo) := fun w' hw' => ((HB0.out.trans (hw'.mono HB0.out.size)).cell (p := ⟨ga, 3, none⟩) HZ.out.2).trans HC.out.2.2.2.2.1
  have d4 : ∀ w', Below W.heap.size W w' → w'.cell? ⟨ga, 4, none⟩ = some (.bool fb) := fun w' hw' => ((HB0.out.trans (hw'.mono HB0.out.size)).cell (p := ⟨ga, 4, none⟩) HZ.out.2).trans HC.out.2.2.2.2.2
  have m0 : ∀ w', Below W.heap.size W w' → w'.cell? ⟨w.heap.size, 0, none⟩ = some (.int .i64 mi) := fun w' hw' => cell_of_row _ _ 0 _ _ _ (old_below hx hw')
  clear hb0 hx hW c2 c3
  refine wp_region_held (S := fun w' => Below W.heap.size W w') (by kernel_rfl) ?_
  have hS : Below W.heap.size W W.drew := (Below.refl _ _).drew
  refine H_take (i := 0) (v := ?_) rfl (by as_aux_lemma => kernel_rfl) (by as_aux_lemma => kernel_rfl) (by as_aux_lemma => kernel_rfl) (fun _ _ _ h => h) (by rfl) hS ?_ ?_
  rotate_left
  · intro w' hw'; go_simp; with_reducible rfl
  go_simp
  refine H_take (i := 1) (v := ?_) rfl (by as_aux_lemma => kernel_rfl) (by as_aux_lemma => kernel_rfl) (by as_aux_lemma => kernel_rfl) (fun _ _ _ h => h) (by rfl) hS ?_ ?_
  rotate_left
  · intro w' hw'; go_simp; with_reducible rfl
  go_simp
  refine H_take (i := 2) (v := ?_) rfl (by as_aux_lemma => kernel_rfl) (by as_aux_lemma => kernel_rfl) (by as_aux_lemma => kernel_rfl) (fun _ _ _ h => h) (by rfl) hS ?_ ?_
  rotate_left
  · intro w' hw'; go_simp; with_reducible rfl
  go_simp
  refine H_take (i := 3) (v := ?_) rfl (by as_aux_lemma => kernel_rfl) (by as_aux_lemma => kernel_rfl) (by as_aux_lemma => kernel_rfl) (fun _ _ _ h => h) (by rfl) hS ?_ ?_
  rotate_left
  · intro w' hw'; go_simp; with_reducible rfl
  go_simp
  refine H_take (i := 4) (v := ?_) rfl (by as_aux_lemma => kernel_rfl) (by as_aux_lemma => kernel_rfl) (by as_aux_lemma => kernel_rfl) (fun _ _ _ h => h) (by rfl) hS ?_ ?_
  rotate_left
  · intro w' hw'; go_simp; with_reducible rfl
  go_simp
  refine H_take (i := 5) (v := ?_) rfl (by as_aux_lemma => kernel_rfl) (by as_aux_lemma => kernel_rfl) (by as_aux_lemma => kernel_rfl) (fun _ _ _ h => h) (by rfl) hS ?_ ?_
  rotate_left
  · intro w' hw'; go_simp; with_reducible rfl
  go_simp
  refine H_take (i := 6) (v := ?_) rfl (by as_aux_lemma => kernel_rfl) (by as_aux_lemma => kernel_rfl) (by as_aux_lemma => kernel_rfl) (fun _ _ _ h => h) (by rfl) hS ?_ ?_
  rotate_left
  · intro w' hw'; go_simp; with_reducible rfl
  go_simp
  refine H_take (i := 7) (v := ?_) rfl (by as_aux_lemma => kernel_rfl) (by as_aux_lemma => kernel_rfl) (by as_aux_lemma => kernel_rfl) (fun _ _ _ h => h) (by rfl) hS ?_ ?_
  rotate_left
  · intro w' hw'; go_simp; with_reducible rfl
  go_simp
  refine H_take (i := 8) (v := ?_) rfl (by as_aux_lemma => kernel_rfl) (by as_aux_lemma => kernel_rfl) (by as_aux_lemma => kernel_rfl) (fun _ _ _ h => h) (by rfl) hS ?_ ?_
  rotate_left
  · intro w' hw'; go_simp; with_reducible rfl
  go_simp
  refine H_take (i := 9) (v := ?_) rfl (by as_aux_lemma => kernel_rfl) (by as_aux_lemma => kernel_rfl) (by as_aux_lemma => kernel_rfl) (fun _ _ _ h => h) (by rfl) hS ?_ ?_
  rotate_left
  · intro w' hw'; go_simp; with_reducible rfl
  go_simp
  refine H_take (i := 10) (v := ?_) rfl (by as_aux_lemma => kernel_rfl) (by as_aux_lemma => kernel_rfl) (by as_aux_lemma => kernel_rfl) (fun _ _ _ h => h) (by rfl) hS ?_ ?_
  rotate_left
  · intro w' hw'; go_simp; with_reducible rfl
  go_simp
  refine H_take (i := 11) (v := ?_) rfl (by as_aux_lemma => kernel_rfl) (by as_aux_lemma => kernel_rfl) (by as_aux_lemma => kernel_rfl) (fun _ _ _ h => h) (by rfl) hS ?_ ?_
  rotate_left
  · intro w' hw'; go_simp; with_reducible rfl
  go_simp
  refine H_take (i := 12) (v := ?_) rfl (by as_aux_lemma => kernel_rfl) (by as_aux_lemma => kernel_rfl) (by as_aux_lemma => kernel_rfl) (fun _ _ _ h => h) (by rfl) hS ?_ ?_
  rotate_left
  · intro w' hw'; go_simp; with_reducible rfl
  go_simp
  refine H_one (i := 13) (by as_aux_lemma => kernel_rfl) rfl (by rfl) ?_
  go_simp
  refine ((HHO _).out).mono ?_
  rintro e w1 ⟨rfl, hb1⟩
  have hS1 : Below W.heap.size W w1 := (Below.refl _ _).drew.trans (hb1.mono (Nat.le_refl _))
  refine ⟨hS1, ?_⟩
  cases hq : (Fi.hollow ⟨ff, fl, fz, fo, fb⟩) with
  | false =>
    go_simp
    refine H_take (i := 14) (v := ?_) rfl (by as_aux_lemma => kernel_rfl) (by as_aux_lemma => kernel_rfl) (by as_aux_lemma => kernel_rfl) (fun _ _ _ h => h) (by rfl) hS1 ?_ ?_
    rotate_left
    · intro w' hw'; go_simp; with_reducible rfl
    go_simp
    refine H_take (i := 15) (v := ?_) rfl (by as_aux_lemma => kernel_rfl) (by as_aux_lemma => kernel_rfl) (by as_aux_lemma => kernel_rfl) (fun _ _ _ h => h) (by rfl) hS1 ?_ ?_
    rotate_left
    · intro w' hw'; go_simp; with_reducible rfl
    go_simp
    refine H_skip (i := 16) rfl (by as_aux_lemma => kernel_rfl) (by as_aux_lemma => kernel_rfl) (by as_aux_lemma => kernel_rfl) (fun _ _ _ h => h) (by rfl) hS1 ?_
    go_simp
    refine H_skip (i := 17) rfl (by as_aux_lemma => kernel_rfl) (by as_aux_lemma => kernel_rfl) (by as_aux_lemma => kernel_rfl) (fun _ _ _ h => h) (by rfl) hS1 ?_
    go_simp
    refine H_skip (i := 18) rfl (by as_aux_lemma => kernel_rfl) (by as_aux_lemma => kernel_rfl) (by as_aux_lemma => kernel_rfl) (fun _ _ _ h => h) (by rfl) hS1 ?_
    go_simp
    refine H_skip (i := 19) rfl (by as_aux_lemma => kernel_rfl) (by as_aux_lemma => kernel_rfl) (by as_aux_lemma => kernel_rfl) (fun _ _ _ h => h) (by rfl) hS1 ?_
    go_simp
    refine H_skip (i := 20) rfl (by as_aux_lemma => kernel_rfl) (by as_aux_lemma => kernel_rfl) (by as_aux_lemma => kernel_rfl) (fun _ _ _ h => h) (by rfl) hS1 ?_
    go_simp
    refine H_skip (i := 21) rfl (by as_aux_lemma => kernel_rfl) (by as_aux_lemma => kernel_rfl) (by as_aux_lemma => kernel_rfl) (fun _ _ _ h => h) (by rfl) hS1 ?_
    go_simp
    refine H_skip (i := 22) rfl (by as_aux_lemma => kernel_rfl) (by as_aux_lemma => kernel_rfl) (by as_aux_lemma => kernel_rfl) (fun _ _ _ h => h) (by rfl) hS1 ?_
    go_simp
    refine H_skip (i := 23) rfl (by as_aux_lemma => kernel_rfl) (by as_aux_lemma => kernel_rfl) (by as_aux_lemma => kernel_rfl) (fun _ _ _ h => h) (by rfl) hS1 ?_
    go_simp
    refine H_skip (i := 24) rfl (by as_aux_lemma => kernel_rfl) (by as_aux_lemma => kernel_rfl) (by as_aux_lemma => kernel_rfl) (fun _ _ _ h => h) (by rfl) hS1 ?_
    go_simp
    refine H_skip (i := 25) rfl (by as_aux_lemma => kernel_rfl) (by as_aux_lemma => kernel_rfl) (by as_aux_lemma => kernel_rfl) (fun _ _ _ h => h) (by rfl) hS1 ?_
    go_simp
    refine H_skip (i := 26) rfl (by as_aux_lemma => kernel_rfl) (by as_aux_lemma => kernel_rfl) (by as_aux_lemma => kernel_rfl) (fun _ _ _ h => h) (by rfl) hS1 ?_
    go_simp
    refine H_take (i := 27) (v := ?_) rfl (by as_aux_lemma => kernel_rfl) (by as_aux_lemma => kernel_rfl) (by as_aux_lemma => kernel_rfl) (fun _ _ _ h => h) (by rfl) hS1 ?_ ?_
    rotate_left
    · intro w' hw'; go_simp; with_reducible rfl
    go_simp
    refine H_take (i := 28) (v := ?_) rfl (by as_aux_lemma => kernel_rfl) (by as_aux_lemma => kernel_rfl) (by as_aux_lemma => kernel_rfl) (fun _ _ _ h => h) (by rfl) hS1 ?_ ?_
    rotate_left
    · intro w' hw'; go_simp; with_reducible rfl
    go_simp
    refine wpAnyH_done (by as_aux_lemma => kernel_rfl) ?_ _
    go_wp2_with fail
    go_ret
    rw [hq]
    exact ⟨rfl, HB0.out.trans (hS1.mono HB0.out.size)⟩
  | true =>
    go_simp
    refine H_take (i := 14) (v := ?_) rfl (by as_aux_lemma => kernel_rfl) (by as_aux_lemma => kernel_rfl) (by as_aux_lemma => kernel_rfl) (fun _ _ _ h => h) (by rfl) hS1 ?_ ?_
    rotate_left
    · intro w' hw'; go_simp; with_reducible rfl
    go_simp
    refine H_take (i := 15) (v := ?_) rfl (by as_aux_lemma => kernel_rfl) (by as_aux_lemma => kernel_rfl) (by as_aux_lemma => kernel_rfl) (fun _ _ _ h => h) (by rfl) hS1 ?_ ?_
    rotate_left
    · intro w' hw'; go_simp; with_reducible rfl
    go_simp
    refine H_take (i := 16) (v := ?_) rfl (by as_aux_lemma => kernel_rfl) (by as_aux_lemma => kernel_rfl) (by as_aux_lemma => kernel_rfl) (fun _ _ _ h => h) (by rfl) hS1 ?_ ?_
    rotate_left
    · intro w' hw'; go_simp; with_reducible rfl
    go_simp
    refine H_take (i := 17) (v := ?_) rfl (by as_aux_lemma => kernel_rfl) (by as_aux_lemma => kernel_rfl) (by as_aux_lemma => kernel_rfl) (fun _ _ _ h => h) (by rfl) hS1 ?_ ?_
    rotate_left
    · intro w' hw'; go_simp; with_reducible rfl
    go_simp
    refine H_take (i := 18) (v := ?_) rfl (by as_aux_lemma => kernel_rfl) (by as_aux_lemma => kernel_rfl) (by as_aux_lemma => kernel_rfl) (fun _ _ _ h => h) (by rfl) hS1 ?_ ?_
    rotate_left
    · intro w' hw'; go_simp; with_reducible rfl
    go_simp
    refine H_take (i := 19) (v := ?_) rfl (by as_aux_lemma => kernel_rfl) (by as_aux_lemma => kernel_rfl) (by as_aux_lemma => kernel_rfl) (fun _ _ _ h => h) (by rfl) hS1 ?_ ?_
    rotate_left
    · intro w' hw'; go_simp; with_reducible rfl
    go_simp
    refine H_take (i := 20) (v := ?_) rfl (by as_aux_lemma => kernel_rfl) (by as_aux_lemma => kernel_rfl) (by as_aux_lemma => kernel_rfl) (fun _ _ _ h => h) (by rfl) hS1 ?_ ?_
    rotate_left
    · intro w' hw'; go_simp; with_reducible rfl
    go_simp
    refine H_take (i := 21) (v := ?_) rfl (by as_aux_lemma => kernel_rfl) (by as_aux_lemma => kernel_rfl) (by as_aux_lemma => kernel_rfl) (fun _ _ _ h => h) (by rfl) hS1 ?_ ?_
    rotate_left
    · intro w' hw'; go_simp; with_reducible rfl
    go_simp
    refine H_take (i := 22) (v := ?_) rfl (by as_aux_lemma => kernel_rfl) (by as_aux_lemma => kernel_rfl) (by as_aux_lemma => kernel_rfl) (fun _ _ _ h => h) (by rfl) hS1 ?_ ?_
    rotate_left
    · intro w' hw'; go_simp; with_reducible rfl
    go_simp
    refine H_take (i := 23) (v := ?_) rfl (by as_aux_lemma => kernel_rfl) (by as_aux_lemma => kernel_rfl) (by as_aux_lemma => kernel_rfl) (fun _ _ _ h => h) (by rfl) hS1 ?_ ?_
    rotate_left
    · intro w' hw'; go_simp; with_reducible rfl
    go_simp
    refine H_take (i := 24) (v := ?_) rfl (by as_aux_lemma => kernel_rfl) (by as_aux_lemma => kernel_rfl) (by as_aux_lemma => kernel_rfl) (fun _ _ _ h => h) (by rfl) hS1 ?_ ?_
    rotate_left
    · intro w' hw'; go_simp; with_reducible rfl
    go_simp
    refine H_take (i := 25) (v := ?_) rfl (by as_aux_lemma => kernel_rfl) (by as_aux_lemma => kernel_rfl) (by as_aux_lemma => kernel_rfl) (fun _ _ _ h => h) (by rfl) hS1 ?_ ?_
    rotate_left
    · intro w' hw'; go_simp; with_reducible rfl
    go_simp
    refine H_take (i := 26) (v := ?_) rfl (by as_aux_lemma => kernel_rfl) (by as_aux_lemma => kernel_rfl) (by as_aux_lemma => kernel_rfl) (fun _ _ _ h => h) (by rfl) hS1 ?_ ?_
    rotate_left
    · intro w' hw'; go_simp; with_reducible rfl
    go_simp
    refine H_take (i := 27) (v := ?_) rfl (by as_aux_lemma => kernel_rfl) (by as_aux_lemma => kernel_rfl) (by as_aux_lemma => kernel_rfl) (fun _ _ _ h => h) (by rfl) hS1 ?_ ?_
    rotate_left
    · intro w' hw'; go_simp; with_reducible rfl
    go_simp
    refine H_take (i := 28) (v := ?_) rfl (by as_aux_lemma => kernel_rfl) (by as_aux_lemma => kernel_rfl) (by as_aux_lemma => kernel_rfl) (fun _ _ _ h => h) (by rfl) hS1 ?_ ?_
    rotate_left
    · intro w' hw'; go_simp; with_reducible rfl
    go_simp
    refine wpAnyH_done (by as_aux_lemma => kernel_rfl) ?_ _
    go_wp2_with fail
    go_ret
    rw [hq]
    refine ⟨?_, HB0.out.trans (hS1.mono HB0.out.size)⟩
    have hbe : (ff == mi + 1) = decide (ff = mi + 1) := Bool.eq_iff_iff.2 (by simp)
    rw [Bool.true_and, ← hbe]
    rfl
end Go.Proofs.YtbcpcopapbgcdaaGreatDoor.M

/- Part: SegFiu. -/
namespace Go.Proofs.YtbcpcopapbgcdaaGreatDoor.M
open Go.RowKit Go.Maps
open D (Fl Dk)

set_option maxRecDepth 20000 in
set_option maxHeartbeats 3200000 in
theorem fits_rows (X : Nat → Prop) (g gd : Nat) (least : Int) (h : Hd) (r : Rw) (rs : List Rw) (w : World) (l : Lg w X g gd least h) (ho : HdOk h) (hr : h.rows = r :: rs) (mi mt : Int) (hm : 0 ≤ mi ∧ mi < 10000000000) (hmt : 0 ≤ mt ∧ mt < 10000000000) :
    Calls Tryz.prog 110 #[.pointer (some ⟨g, 0, none⟩), .agg #[.int .i64 mi, .int .i64 mt]] w fun e w' => e = .returned (.bool (fitsE h mi mt)) ∧ Below w.heap.size w w' := by
  have hT : fitsE h mi mt = (if r.e.idx = mi + 1 then decide (mt ≤ r.e.term) else if mi - r.e.idx < 0 then false else match h.rows[(mi - r.e.idx).toNat]? with
    | none => false
    | some q => decide (q.e.term = mt)) := by unfold fitsE; simp only [hr] <;> rfl
  obtain ⟨T, hTT⟩ : ∃ T, T = fitsE h mi mt := ⟨_, rfl⟩
  rw [← hTT] at hT ⊢
  clear hTT
  obtain ⟨⟨vr, vf, rv, la⟩, lz⟩ := l
  obtain ⟨c0, c1, c2, c3, c4, c5, c6, cz⟩ := seven_cells la.box
  have hlen : rv.length = h.rows.length := by rw [← la.rows, List.length_map]
  have h0 : 0 < rv.length := by rw [hlen, hr]; simp
  have hrl := ho.rl
  rw [← hlen] at hrl
  obtain ⟨ga, rc, rfl, hgz, hcl, hcm, hel, -⟩ := row5_elem (f := rwV) (fun _ => rfl) la.rrow 0 h0
  have hterm : ∀ k (hk : k < rv.length), w.cell? ⟨ga, k * 5 + 1, none⟩ = some (.int .i64 rv[k].1.e.term) ∧ h.rows[k]? = some rv[k].1 := fun k hk => by
    obtain ⟨g2, c, hv, -, -, -, he, -⟩ := row5_elem (f := rwV) (fun _ => rfl) la.rrow k hk
    cases hv
    have e := he 1 (by omega)
    simp only [rwV, List.getElem?_cons_succ, List.getElem?_cons_zero] at e
    refine ⟨e, ?_⟩
    rw [← la.rows, List.getElem?_map, List.getElem?_eq_getElem hk]
    rfl
  have hr0 : rv[0].1 = r := by
    have := (hterm 0 h0).2
    rw [hr] at this
    simpa using this.symm
  have hsl := (LgAt.slices la) rv[0] (List.getElem_mem h0)
  have hrb := ho.rb r (by rw [hr]; simp)
  obtain ⟨pv, hpv⟩ : ∃ pv, pv = rv[0].2 := ⟨_, rfl⟩
  rw [← hpv] at hsl
  have e0 := hel 0 (by omega)
  have e1 := hel 1 (by omega)
  have e2 := hel 2 (by omega)
  have e3 := hel 3 (by omega)
  have e4 := hel 4 (by omega)
  simp only [rwV, hr0, ← hpv, List.getElem?_cons_succ, List.getElem?_cons_zero, Nat.zero_mul, Nat.zero_add] at e0 e1 e2 e3 e4
  obtain ⟨nr, hnr⟩ : ∃ nr, nr = rv.length := ⟨_, rfl⟩
  have HTM := Lib.hid hterm
  have HNR := Lib.hid hnr
  have HLEN := Lib.hid hlen
  rw [← hnr] at c2 hcl hrl h0
  obtain ⟨⟨xi, xt, xk, xb⟩, po⟩ := r
  simp only at e0 e1 e2 e3 e4 hrb hT
  obtain ⟨pa, pn, pc, rfl⟩ := hsl
  have hn0 : (0 : Int) < (nr : Int) := by omega
  have hb1 := hrb.1
  have hb2 := hrb.2.1
  clear la lz c0 c1 c3 c4 c5 c6 hr hpv hel hterm hr0 hlen hnr hrb
  have hne : ((nr : Int) == 0) = false := beq_eq_false_iff_ne.2 (by omega)
  by_cases t1 : xi = mi + 1
  · have q1 : (xi == mi + 1) = true := by simpa using t1
    have HE : Hid (T = decide (mt ≤ xt)) := Lib.hid (by rw [hT, if_pos t1])
    clear hT t1
    go_enter Tryz.func110, Tryz.ntmps110
    go_wp2_with fail
    go_ret
    rw [HE.out]
    exact ⟨rfl, (below_alloc _ _).alloc (by simp) _⟩
  · have q1 : (xi == mi + 1) = false := beq_eq_false_iff_ne.2 t1
    rw [if_neg t1] at hT
    clear t1
    by_cases t2 : mi - xi < 0
    · have q2 : decide (0 ≤ mi - xi) = false := decide_eq_false (by omega)
      have HE : Hid (T = false) := Lib.hid (by rw [hT, if_pos t2])
      clear hT
      go_enter Tryz.func110, Tryz.ntmps110
      go_wp2_with fail
      obtain ⟨di, hdi⟩ : ∃ di, di = mi - xi := ⟨_, rfl⟩
      rw [← hdi] at q2 ⊢
      clear t2 hdi
      go_quiet (fail)
      go_wp2_with fail
      go_ret
      rw [HE.out]
      exact ⟨rfl, ((below_alloc _ _).alloc (by simp) _).drewMany _⟩
    · have q2 : decide (0 ≤ mi - xi) = true := decide_eq_true (by omega)
      rw [if_neg t2] at hT
      obtain ⟨k, hk⟩ : ∃ k : Nat, (k : Int) = mi - xi := ⟨(mi - xi).toNat, by omega⟩
      rw [← hk] at hT q2
      rw [Int.toNat_natCast] at hT
      by_cases t3 : k < nr
      · have hkr : k < rv.length := by rw [← HNR.out]; exact t3
        have q3 : (k : Int) < (nr : Int) := by omega
        have HE : Hid (T = decide (rv[k].1.e.term = mt)) := Lib.hid (by rw [hT, (HTM.out k hkr).2])
        have ek := (HTM.out k hkr).1
        obtain ⟨tk, htk⟩ : ∃ tk, tk = rv[k].1.e.term := ⟨_, rfl⟩
        rw [← htk] at ek HE
        have hkc : k < rc := by omega
        clear hT htk hkr
        go_enter Tryz.func110, Tryz.ntmps110
        go_wp2_with fail
        rw [← hk]
        clear t2 hk
        go_quiet (fail)
        go_wp2_with fail
        go_ret
        have hbe : (tk == mt) = decide (tk = mt) := Bool.eq_iff_iff.2 (by simp)
        rw [HE.out, ← hbe]
        exact ⟨rfl, ((below_alloc _ _).alloc (by simp) _).drewMany _⟩
      · have q3 : decide ((k : Int) < (nr : Int)) = false := decide_eq_false (by omega)
        have q4 : decide (k < nr) = false := decide_eq_false t3
        have HE : Hid (T = false) := Lib.hid (by rw [hT, List.getElem?_eq_none (by rw [← HLEN.out, ← HNR.out]; omega)])
        clear hT
        go_enter Tryz.func110, Tryz.ntmps110
        go_wp2_with fail
        rw [← hk]
        clear t2 t3 hk
        go_quiet (fail)
        go_wp2_with fail
        go_ret
        rw [HE.out]
        exact ⟨rfl, ((below_alloc _ _).alloc (by simp) _).drewMany _⟩
end Go.Proofs.YtbcpcopapbgcdaaGreatDoor.M

/- Part: SegClo. -/
namespace Go.Proofs.YtbcpcopapbgcdaaGreatDoor.M
open Go.RowKit Go.Maps
open D (Fl Dk)

set_option maxRecDepth 20000 in
theorem settle2_has (f : Fi) (gn : Nat) (w : World) (hf : f.has = true) :
    Calls Tryz.prog 113 #[fiAgg f, .pointer (some ⟨gn, 0, none⟩)] w fun e w' => e = .returned (.bool true) ∧ Below w.heap.size w w' := by
  have HH := fun w => Lib.hid (SgHas_any f w)
  have HF := Lib.hid hf
  obtain ⟨a, b, c, d, l⟩ := f
  unfold fiAgg at HH ⊢
  simp only at HH ⊢
  clear hf
  go_enter Tryz.func113, Tryz.ntmps113
  go_wp2_with fail
  refine ((HH _).out).mono ?_
  rintro e w1 ⟨rfl, hb1⟩
  rw [HF.out]
  have HB1 : Hid (Below w.heap.size w w1) := Lib.hid ((below_alloc _ _).trans (hb1.mono (by simp)))
  clear hb1
  go_wp2_with fail
  go_ret
  exact ⟨rfl, HB1.out⟩

set_option maxRecDepth 20000 in
theorem settle1_any (f : Fi) (w : World) :
    Calls Tryz.prog 112 #[fiAgg f] w fun e w' => e = .returned (.bool false) ∧ Below w.heap.size w w' := by
  obtain ⟨a, b, c, d, l⟩ := f
  unfold fiAgg
  simp only
  go_enter Tryz.func112, Tryz.ntmps112
  go_wp2_with fail
  go_ret
  exact ⟨rfl, below_alloc _ _⟩

set_option maxRecDepth 20000 in
/-- A segment that has entries doesn't go. -/
theorem mend1_has (f : Fi) (gs gn : Nat) (t : TypeId) (w : World) (hf : f.has = true) (hs : w.heap[gs]? = some (.cells #[.func (.func 113) #[] #[.pointer (some ⟨gn, 0, none⟩)]] t)) :
    Calls Tryz.prog 109 #[fiAgg f, .pointer (some ⟨gs, 0, none⟩)] w fun e w' => e = .returned (.bool false) ∧ Below w.heap.size w w' := by
  have HH := fun w => Lib.hid (settle2_has f gn w hf)
  have c0 := cell_of_row _ _ 0 _ _ _ hs
  have cz := lt_of_heap hs
  obtain ⟨a, b, c, d, l⟩ := f
  unfold fiAgg at HH ⊢
  simp only at HH ⊢
  simp only [List.getElem?_toArray, List.getElem?_cons_zero] at c0
  clear hf hs
  go_enter Tryz.func109, Tryz.ntmps109
  go_wp2_with fail
  refine ((HH _).out).mono ?_
  rintro e w1 ⟨rfl, hb1⟩
  have HB1 : Hid (Below w.heap.size w w1) := Lib.hid ((below_alloc _ _).trans (hb1.mono (by simp)))
  clear hb1
  go_wp2_with fail
  go_ret
  exact ⟨rfl, HB1.out⟩
end Go.Proofs.YtbcpcopapbgcdaaGreatDoor.M

/- Part: SegTak. -/
namespace Go.Proofs.YtbcpcopapbgcdaaGreatDoor.M
open Go.RowKit Go.Maps
open D (Fl Dk)

set_option maxRecDepth 20000 in
theorem isNumber_any (n : Nat) (w : World) :
    Calls Tryz.prog 181 #[.int .u64 (n : Int)] w fun e w' => e = .returned (.bool (decide (1 ≤ n ∧ n < 10000000000))) ∧ w' = w := by
  by_cases h1 : (1 : Int) ≤ (n : Int)
  · have q1 : decide ((1 : Int) ≤ (n : Int)) = true := decide_eq_true h1
    by_cases h2 : (n : Int) < 10000000000
    · have q2 : decide ((n : Int) < 10000000000) = true := decide_eq_true h2
      have HE : Hid (decide (1 ≤ n ∧ n < 10000000000) = true) := Lib.hid (decide_eq_true (by omega))
      rw [HE.out]
      go_enter Tryz.func181, Tryz.ntmps181
      go_wp2_with fail
      go_ret
      exact ⟨rfl, rfl⟩
    · have q2 : decide ((n : Int) < 10000000000) = false := decide_eq_false h2
      have HE : Hid (decide (1 ≤ n ∧ n < 10000000000) = false) := Lib.hid (decide_eq_false (by omega))
      rw [HE.out]
      go_enter Tryz.func181, Tryz.ntmps181
      go_wp2_with fail
      go_ret
      exact ⟨rfl, rfl⟩
  · have q1 : decide ((1 : Int) ≤ (n : Int)) = false := decide_eq_false h1
    have HE : Hid (decide (1 ≤ n ∧ n < 10000000000) = false) := Lib.hid (decide_eq_false (by omega))
    rw [HE.out]
    go_enter Tryz.func181, Tryz.ntmps181
    go_wp2_with fail
    go_ret
    exact ⟨rfl, rfl⟩

theorem u32_or (x y : Nat) (hx : x < 4294967296) (hy : y < 4294967296) : bits .or .u32 (x : Int) (y : Int) = ((x ||| y : Nat) : Int) := by
  exact u32_or_nat x y hx hy

theorem or_four (a b c d : Nat) (ha : a < 256) (hb : b < 256) (hc : c < 256) (hd : d < 256) :
    bits BinOp.or .u32 (bits BinOp.or .u32 (bits BinOp.or .u32 ((a : Int) % 4294967296 * 16777216 % 4294967296) ((b : Int) % 4294967296 * 65536 % 4294967296)) ((c : Int) % 4294967296 * 256 % 4294967296)) ((d : Int) % 4294967296) = ((a * 16777216 + b * 65536 + c * 256 + d : Nat) : Int) := by
  have e0 : (a : Int) % 4294967296 * 16777216 % 4294967296 = ((2 ^ 24 * a : Nat) : Int) := by omega
  have e1 : (b : Int) % 4294967296 * 65536 % 4294967296 = ((b * 65536 : Nat) : Int) := by omega
  have e2 : (c : Int) % 4294967296 * 256 % 4294967296 = ((c * 256 : Nat) : Int) := by omega
  have e3 : (d : Int) % 4294967296 = ((d : Nat) : Int) := by omega
  rw [e0, e1, e2, e3, u32_or _ _ (by omega) (by omega), ← Nat.two_pow_add_eq_or_of_lt (i := 24) (by omega)]
  have f1 : 2 ^ 24 * a + b * 65536 = 2 ^ 16 * (a * 256 + b) := by omega
  rw [f1, u32_or _ _ (by omega) (by omega), ← Nat.two_pow_add_eq_or_of_lt (i := 16) (by omega)]
  have f2 : 2 ^ 16 * (a * 256 + b) + c * 256 = 2 ^ 8 * ((a * 256 + b) * 256 + c) := by omega
  rw [f2, u32_or _ _ (by omega) (by omega), ← Nat.two_pow_add_eq_or_of_lt (i := 8) (by omega)]
  congr 1
  omega

set_option maxRecDepth 20000 in
theorem word_any (F : Nat → Prop) (a b c d : UInt8) (L : List UInt8) (v : Value) (w : World) (hv : RepB w F (a :: b :: c :: d :: L) v) :
    Calls Tryz.prog 179 #[v] w fun e w' => e = .returned (.int .u32 ((a.toNat * 16777216 + b.toNat * 65536 + c.toNat * 256 + d.toNat : Nat) : Int)) ∧ Below w.heap.size w w' := by
  obtain ⟨va, vc, rfl, hl⟩ := hv.slice
  obtain ⟨gb, off, rfl, hF, he⟩ := RepB.elem2 hv (i := 0) (by simp)
  obtain ⟨n, hn⟩ : ∃ n, n = (a :: b :: c :: d :: L).length := ⟨_, rfl⟩
  have h4 : 4 ≤ n := by rw [hn]; simp
  have e0 := he 0 (by simp)
  have e1 := he 1 (by simp)
  have e2 := he 2 (by simp)
  have e3 := he 3 (by simp)
  simp only [List.getElem_cons_zero, List.getElem_cons_succ, Nat.add_zero] at e0 e1 e2 e3
  rw [← hn] at hl ⊢
  have i0 : (0 : Int) < (n : Int) := by omega
  have i1 : (1 : Int) < (n : Int) := by omega
  have i2 : (2 : Int) < (n : Int) := by omega
  have i3 : (3 : Int) < (n : Int) := by omega
  clear he hn hv
  go_enter Tryz.func179, Tryz.ntmps179
  go_wp2_with fail
  go_quiet (fail)
  go_wp2_with fail
  go_ret
  refine ⟨?_, (Below.refl _ _).drewMany _⟩
  rw [or_four a.toNat b.toNat c.toNat d.toNat a.toNat_lt b.toNat_lt c.toNat_lt d.toNat_lt]
  rfl
end Go.Proofs.YtbcpcopapbgcdaaGreatDoor.M

/- Part: SegFst. -/
namespace Go.Proofs.YtbcpcopapbgcdaaGreatDoor.M
open Go.RowKit Go.Maps
open D (Fl Dk)

theorem cutSeg_any (i : Int) (w : World) :
    Calls Tryz.prog 139 #[.string (sgName i), .string ⟨#[115, 101, 103, 45]⟩] w fun e w' => e = .returned (.tuple #[.string ⟨(dg 10 i.toNat).toArray⟩, .bool true]) ∧ w' = w := by
  have h := Any.strings_CutPrefix Tryz.laysCut (sgName i) ⟨#[115, 101, 103, 45]⟩ w
  rw [fCut] at h
  have e1 : Lib.hasPrefix (sgName i).data.toList [115, 101, 103, 45] = true := by
    unfold Lib.hasPrefix sgName
    simp [List.isPrefixOf]
  have e2 : Lib.trimPrefix (sgName i).data.toList [115, 101, 103, 45] = dg 10 i.toNat := by
    unfold Lib.trimPrefix
    rw [e1]
    unfold sgName
    simp
  refine h.mono ?_
  rintro e w' ⟨rfl, rfl⟩
  refine ⟨?_, rfl⟩
  show Ending.returned (.tuple #[.string ⟨(Lib.trimPrefix (sgName i).data.toList [115, 101, 103, 45]).toArray⟩, .bool (Lib.hasPrefix (sgName i).data.toList [115, 101, 103, 45])]) = _
  rw [e1, e2]

set_option maxRecDepth 20000 in
set_option maxHeartbeats 1600000 in
theorem firstOf_name (i : Int) (w : World) (h0 : 0 ≤ i) (h1 : i < 10000000000) :
    Calls Tryz.prog 107 #[.string (sgName i)] w fun e w' => e = .returned (.tuple #[.int .i64 i, .bool true]) ∧ Below w.heap.size w w' := by
  have HCUT := Lib.hid (cutSeg_any i w)
  obtain ⟨nm, hnm⟩ : ∃ nm, nm = sgName i := ⟨_, rfl⟩
  rw [← hnm] at HCUT ⊢
  clear hnm
  obtain ⟨s, hs⟩ : ∃ s : ByteArray, s = ⟨(dg 10 i.toNat).toArray⟩ := ⟨_, rfl⟩
  have hsz : s.size = 10 := by rw [hs]; show (dg 10 i.toNat).toArray.size = 10; rw [List.size_toArray, dg_length]
  have HD : Hid (∀ (k : Nat) (hk : k < s.size), (s[k].toNat : Int) = 48 + (i.toNat / 10 ^ (9 - k) % 10 : Nat)) := Lib.hid fun k hk => by
    have hk2 : k < 10 := by omega
    have e := dg_get 10 i.toNat k hk2
    have e2 : s[k] = (dg 10 i.toNat)[k]'(by rw [dg_length]; exact hk2) := by subst hs; rfl
    rw [List.getElem?_eq_getElem (by rw [dg_length]; exact hk2)] at e
    rw [e2, Option.some.inj e]
    have e9 : 10 - 1 - k = 9 - k := by omega
    rw [e9]
    obtain ⟨q, hq⟩ : ∃ q, q = i.toNat / 10 ^ (9 - k) := ⟨_, rfl⟩
    rw [← hq]
    simp only [UInt8.toNat_ofNat']
    omega
  rw [← hs] at HCUT
  have hcv : ∀ w, (convert 9 34 (.string s)).run Tryz.prog w = _ := fun w => run_bytes_of_string w 9 34 5 s Tryz.underlying9 Tryz.underlying34 Tryz.underlying5
  obtain ⟨C, hC⟩ : ∃ C, C = bytesRow s (grownCap w s.size 0 5) := ⟨_, rfl⟩
  obtain ⟨cp, hcp⟩ : ∃ cp, cp = grownCap w s.size 0 5 := ⟨_, rfl⟩
  have hcw : (convert 9 34 (.string s)).run Tryz.prog w = .ok (.slice (some ⟨w.heap.size, 0, none⟩) 10 cp) (w.drew.alloc (.cells C 5 (C.size, C.size + 1))) := by
    rw [hcv w, hC, hcp, hsz]
  have HC : Hid (∀ (j : Nat) (hj : j < s.size), (w.drew.alloc (.cells C 5 (C.size, C.size + 1))).cell? ⟨w.heap.size, j, none⟩ = some (.int .u8 (s[j].toNat : Int))) := Lib.hid fun j hj => by
    have h2 := World.cell?_alloc_mark w.drew C 5 (C.size, C.size + 1) j
    have e : w.drew.heap.size = w.heap.size := rfl
    rw [e] at h2
    rw [h2, hC, bytesRow_at s _ j hj]
    rfl
  obtain ⟨w2, hw2⟩ : ∃ w2, w2 = w.drew.alloc (.cells C 5 (C.size, C.size + 1)) := ⟨_, rfl⟩
  rw [← hw2] at hcw HC
  have HB : Hid (Below w.heap.size w w2) := Lib.hid (by rw [hw2]; exact Below.mkBytes _ _ _ _)
  have HSZ := Lib.hid hsz
  obtain ⟨n, hn⟩ : ∃ n, n = i.toNat := ⟨_, rfl⟩
  rw [← hn] at HD
  have hin : i = (n : Int) := by omega
  subst hin
  have hn10 : n < 10000000000 := by omega
  clear hcv hC hcp hw2 hs hn h0 h1
  have hs3 : (s.size : Int) = 10 := by omega
  clear hsz
  go_enter Tryz.func107, Tryz.ntmps107
  go_wp2_with fail
  refine HCUT.out.mono ?_
  rintro e w1 ⟨rfl, rfl⟩
  go_wp2_with fail
  go_loop [6, 8, 24] (fun x _ j => ∃ k : Nat, k ≤ 10 ∧ j = .int .i64 (k : Int) ∧ x = .int .i64 ((n / 10 ^ (10 - k) : Nat) : Int)) (fun _ _ j => 10 - (intOf j).toNat)
  case atStart => exact ⟨0, Nat.zero_le _, rfl, by
    have : n / 10 ^ (10 - 0) = 0 := Nat.div_eq_of_lt (by omega)
    rw [this]; rfl⟩
  case round =>
    obtain ⟨k, hk, rfl, rfl⟩ := hrel
    by_cases hlt : k < 10
    · have hkk : (k : Int) < 10 := by omega
      have hlt2 : k < s.size := by omega
      have hc := HC.out k hlt2
      rw [HD.out k hlt2] at hc
      have hp1 : 10 - k = (9 - k) + 1 := by omega
      have hp2 : 10 - (k + 1) = 9 - k := by omega
      rw [hp1, Nat.pow_succ, ← Nat.div_div_eq_div_mul]
      have hq0 : n / 10 ^ (9 - k) ≤ n := Nat.div_le_self _ _
      have HQ : Hid (n / 10 ^ (10 - (k + 1)) = n / 10 ^ (9 - k)) := Lib.hid (by rw [hp2])
      obtain ⟨q, hq⟩ : ∃ q, q = n / 10 ^ (9 - k) := ⟨_, rfl⟩
      rw [← hq] at hc hq0 HQ ⊢
      obtain ⟨p, d, hd, hqd⟩ : ∃ p d : Nat, d < 10 ∧ q = 10 * p + d := ⟨q / 10, q % 10, by omega, by omega⟩
      have e1 : q / 10 = p := by omega
      have e2 : q % 10 = d := by omega
      rw [e2] at hc
      rw [e1]
      have b1 : (p : Int) < 10000000000 := by omega
      have b2 : (d : Int) < 10 := by omega
      obtain ⟨c, hcv⟩ : ∃ c : Nat, c = 48 + d := ⟨_, rfl⟩
      have hce : (48 : Int) + ((d : Nat) : Int) = (c : Int) := by omega
      rw [hce] at hc
      have p1 : (48 : Int) ≤ (c : Int) := by omega
      have p2 : (c : Int) ≤ 57 := by omega
      have p3 : decide ((c : Int) < 48) = false := decide_eq_false (by omega)
      have p4 : decide ((57 : Int) < (c : Int)) = false := decide_eq_false (by omega)
      have HCV := Lib.hid hcv
      have HQD := Lib.hid hqd
      have HLT := Lib.hid hlt
      have b3 : (0 : Int) ≤ (p : Int) := by omega
      clear hp1 hp2 hq0 hq e1 e2 hqd hlt2 hcv hce hd b2 hn10 hs3
      go_wp2_with fail
      go_round
      case rel => exact ⟨k + 1, by omega, by go_num, by have := HCV.out; rw [HQ.out, HQD.out]; go_num⟩
      case measure => simp [intOf]; omega
    · have hkk : ¬ (k : Int) < 10 := by omega
      obtain rfl : k = 10 := by omega
      go_wp2_with fail
      go_ret2
      refine ⟨?_, HB.out⟩
      simp
end Go.Proofs.YtbcpcopapbgcdaaGreatDoor.M

/- Part: SegClr. -/
namespace Go.Proofs.YtbcpcopapbgcdaaGreatDoor.M
open Go.RowKit Go.Maps
open D (Fl Dk)

/-- Cells stored from a place on. -/
def putMany : List Value → Nat → List Value → List Value
  | xs, _, [] => xs
  | xs, o, v :: vs => putMany (xs.set o v) (o + 1) vs

theorem putMany_length : ∀ (vs xs : List Value) (o : Nat), (putMany xs o vs).length = xs.length
  | [], _, _ => rfl
  | v :: vs, xs, o => by rw [putMany, putMany_length vs]; simp

theorem putMany_take : ∀ (vs xs : List Value) (o k : Nat), k ≤ o → (putMany xs o vs).take k = xs.take k
  | [], _, _, _, _ => rfl
  | v :: vs, xs, o, k, h => by rw [putMany, putMany_take vs _ _ _ (by omega), List.take_set_of_le (by omega)]

theorem putMany_eq : ∀ (vs xs : List Value) (o : Nat), o + vs.length ≤ xs.length → putMany xs o vs = xs.take o ++ (vs ++ xs.drop (o + vs.length))
  | [], xs, o, _ => by simp [putMany]
  | v :: vs, xs, o, h => by
    simp only [List.length_cons] at h ⊢
    rw [putMany, putMany_eq vs _ _ (by simp; omega), List.drop_set_of_lt (by omega), List.take_succ_eq_append_getElem (by simp; omega), List.getElem_set_self, List.take_set_of_le (by omega)]
    simp only [List.append_assoc, List.cons_append, List.nil_append, List.singleton_append]
    rw [show o + 1 + vs.length = o + (vs.length + 1) by omega]

theorem ownsRow_many {w : World} {base : Nat} {e : TypeId} {size g n cap : Nat} : ∀ (vs : List Value) (o : Nat) (xs : List Value) (w : World), w.ownsRow base e size (.slice (some ⟨g, 0, none⟩) n cap) n xs →
    (w.setCells g o vs).ownsRow base e size (.slice (some ⟨g, 0, none⟩) n cap) n (putMany xs o vs) ∧ w.grownBy (w.setCells g o vs) (some g)
  | [], o, xs, w, h => ⟨h, gb_refl _ _⟩
  | v :: vs, o, xs, w, h => by
    obtain ⟨h1, h2⟩ := h.stored o v
    obtain ⟨h3, h4⟩ := ownsRow_many (w := w) vs (o + 1) _ _ h1
    exact ⟨h3, gb_trans h2 h4⟩

/-- The first ones of a row. -/
theorem ownsRow_first {w : World} {base : Nat} {e : TypeId} {size g n cap k : Nat} {xs : List Value} (h : w.ownsRow base e size (.slice (some ⟨g, 0, none⟩) n cap) n xs) (hk : k ≤ n) :
    w.ownsRow base e size (.slice (some ⟨g, 0, none⟩) k cap) k (xs.take (k * size)) := by
  obtain ⟨hl, ⟨h1, -⟩ | ⟨g', cap', cur, h1, hb, hg, hnc, hcm, hcs, ht⟩⟩ := h
  · simp at h1
  · simp only [Value.slice.injEq, Option.some.injEq, Addr.mk.injEq, and_true, true_and] at h1
    obtain ⟨rfl, rfl⟩ := h1
    have hm : k * size ≤ n * size := Nat.mul_le_mul_right _ hk
    refine ⟨by rw [List.length_take, hl]; omega, .inr ⟨g, cap, cur, rfl, hb, hg, by omega, hcm, hcs, ?_⟩⟩
    rw [← ht, List.take_take, Nat.min_eq_left hm]

theorem run_clear_any (w : World) (t e ty : TypeId) (z : Value) (zs : List Value) (ht : Tryz.prog.underlying t = some (.slice e)) (hv : ∀ w, (zeroValue e).run Tryz.prog w = .ok z w) (hz : z.cells = zs.toArray) (h1 : ∀ v ∈ zs, v.oneCell' = true) (b o n c : Nat) (hn : 0 < n)
    (hc : ∀ j, j < n * zs.length → (w.cell? ⟨b, o + j, none⟩).isSome = true) (hf : ∀ j, j < n * zs.length → w.frozen? ⟨b, o + j, none⟩ = false) :
    (Builtin.clear_ #[t] ty #[.slice (some ⟨b, o, none⟩) n c]).run Tryz.prog w = .ok (.tuple #[]) (w.setCells b o (Builtin.zeroCells zs.toArray n).toList) := by
  have hlen : (Builtin.zeroCells zs.toArray n).toList.length = n * zs.length := by simp [Builtin.zeroCells]
  have hst := run_storeCells_cells (P := Tryz.prog) b o (Builtin.zeroCells zs.toArray n).toList 0 w (by rw [hlen]; simpa using hc) (by rw [hlen]; simpa using hf) (by
    intro v hv'
    simp only [Builtin.zeroCells, Array.toList_map, List.mem_map, Array.mem_toList_iff, Array.mem_range] at hv'
    obtain ⟨i, hi, rfl⟩ := hv'
    simp only [List.size_toArray] at hi ⊢
    have hpos : 0 < zs.length := by
      rcases Nat.eq_zero_or_pos zs.length with h | h
      · rw [h] at hi; omega
      · exact h
    have hm := Nat.mod_lt i hpos
    have hg : zs.toArray[i % zs.length]! = zs[i % zs.length] := by simp [getElem!_pos, hm]
    rw [hg]
    exact h1 _ (List.getElem_mem _))
  simp only [Nat.add_zero] at hst
  obtain ⟨m, rfl⟩ : ∃ m, n = m + 1 := ⟨n - 1, by omega⟩
  simp [Builtin.clear_, run_underlying ht, hv, hz, hst]
end Go.Proofs.YtbcpcopapbgcdaaGreatDoor.M

/- Part: SegDel. -/
namespace Go.Proofs.YtbcpcopapbgcdaaGreatDoor.M
open Go.RowKit Go.Maps
open D (Fl Dk)

def rwAgg (p : Rw × Value) : Value := .agg #[.int .i64 p.1.e.idx, .int .i64 p.1.e.term, .int .i64 p.1.e.kind, p.2, .int .i64 p.1.pos]

set_option maxRecDepth 20000 in
theorem ahead_any (p : Rw × Value) (a n c : _) (hp : p.2 = .slice a n c) (gm : Nat) (mi mt : Int) (w : World) (hm : w.heap[gm]? = some (.cells #[.int .i64 mi, .int .i64 mt] 32)) :
    Calls Tryz.prog 123 #[rwAgg p, .pointer (some ⟨gm, 0, none⟩)] w fun e w' => e = .returned (.bool (decide (p.1.e.idx ≤ mi))) ∧ Below w.heap.size w w' := by
  obtain ⟨⟨⟨xi, xt, xk, xb⟩, po⟩, pv⟩ := p
  simp only at hp
  subst hp
  unfold rwAgg
  simp only
  obtain ⟨b0, b1, f0, f1, bz⟩ := block2 hm
  clear hm
  go_enter Tryz.func123, Tryz.ntmps123
  go_wp2_with fail
  go_ret
  exact ⟨rfl, below_alloc _ _⟩

/-- How many lie ahead, at first. -/
def firstAhead (mi : Int) : List (Rw × Value) → Nat → Int
  | [], _ => -1
  | p :: r, k => if p.1.e.idx ≤ mi then (k : Int) else firstAhead mi r (k + 1)

set_option maxRecDepth 20000 in
set_option maxHeartbeats 3200000 in
theorem IndexFunc_any (rv : List (Rw × Value)) (v : Value) (gm : Nat) (mi mt : Int) (w : World) (hrow : w.ownsRow 0 116 5 v rv.length (rwCells rv)) (hsl : ∀ p ∈ rv, ∃ a n c, p.2 = .slice a n c) (hm : w.heap[gm]? = some (.cells #[.int .i64 mi, .int .i64 mt] 32)) (hl : rv.length ≤ 1000000) :
    Calls Tryz.prog 153 #[v, .func (.func 123) #[] #[.pointer (some ⟨gm, 0, none⟩)]] w fun e w' => e = .returned (.int .i64 (firstAhead mi rv 0)) ∧ Below w.heap.size w w' := by
  obtain ⟨ra, rc, rfl, hrl, hrm⟩ := row5_slice hrow
  have HROW := Lib.hid hrow
  have HSL := Lib.hid hsl
  have HM := Lib.hid hm
  obtain ⟨nr, hnr⟩ : ∃ nr, nr = rv.length := ⟨_, rfl⟩
  rw [← hnr] at hrl hl ⊢
  have HNR := Lib.hid hnr
  obtain ⟨A, hA⟩ : ∃ A, A = firstAhead mi rv 0 := ⟨_, rfl⟩
  rw [← hA]
  have HA := Lib.hid hA
  clear hrow hsl hm hnr hA
  go_enter Tryz.func153, Tryz.ntmps153
  go_wp2_with fail
  obtain ⟨w0, hw0⟩ : ∃ w0 : World, w0 = w := ⟨_, rfl⟩
  subst hw0
  go_loopg [5, 8] nr (fun gk _ i wr => ∃ k : Nat, i = .int .i64 (k : Int) ∧ k + gk = nr ∧ Below w0.heap.size w0 wr ∧ A = firstAhead mi (rv.drop k) k)
  case atStart => exact ⟨0, rfl, by omega, Below.refl _ _, HA.out⟩
  case round =>
    obtain ⟨k, rfl, hkg, hbw, hak⟩ := hrel
    have HBW := Lib.hid hbw
    have HAK := Lib.hid hak
    by_cases hlt : k < nr
    · have hkk : (k : Int) < (nr : Int) := by omega
      have hlt2 : k < rv.length := by rw [← HNR.out]; exact hlt
      obtain ⟨ga, c, hv, hgz, -, -, hel, -⟩ := row5_elem (f := rwV) (fun _ => rfl) HROW.out k hlt2
      have hra : ra = some ⟨ga, 0, none⟩ := by cases hv; rfl
      subst hra
      have hga : ga < wr.heap.size := Nat.lt_of_lt_of_le hgz hbw.size
      have e0 := (hbw.cell (p := ⟨ga, k * 5 + 0, none⟩) hgz).trans (hel 0 (by omega))
      have e1 := (hbw.cell (p := ⟨ga, k * 5 + 1, none⟩) hgz).trans (hel 1 (by omega))
      have e2 := (hbw.cell (p := ⟨ga, k * 5 + 2, none⟩) hgz).trans (hel 2 (by omega))
      have e3 := (hbw.cell (p := ⟨ga, k * 5 + 3, none⟩) hgz).trans (hel 3 (by omega))
      have e4 := (hbw.cell (p := ⟨ga, k * 5 + 4, none⟩) hgz).trans (hel 4 (by omega))
      simp only [rwV, List.getElem?_cons_zero, List.getElem?_cons_succ, Nat.add_zero] at e0 e1 e2 e3 e4
      have hsl := HSL.out _ (List.getElem_mem hlt2)
      have hd : rv.drop k = rv[k] :: rv.drop (k + 1) := List.drop_eq_getElem_cons hlt2
      rw [hd, firstAhead] at hak
      obtain ⟨p, hp⟩ : ∃ p, p = rv[k] := ⟨_, rfl⟩
      rw [← hp] at e0 e1 e2 e3 e4 hsl hak
      obtain ⟨pa, pn, pc, hpv⟩ := hsl
      have hcall := ahead_any p pa pn pc hpv gm mi mt wr (old_below HM.out hbw)
      have HCALL := Lib.hid hcall
      obtain ⟨⟨⟨xi, xt, xk, xb⟩, po⟩, pv⟩ := p
      simp only at hpv e0 e1 e2 e3 e4 hak HCALL
      subst hpv
      have HAK2 := Lib.hid hak
      clear hel hd hp hak hcall hv hbw hlt2 HAK
      go_wp2_with fail
      unfold rwAgg at HCALL
      refine HCALL.out.mono ?_
      rintro e w1 ⟨rfl, hb1⟩
      have HB1 : Hid (Below w0.heap.size w0 w1) := Lib.hid (HBW.out.trans (hb1.mono HBW.out.size))
      clear hb1
      by_cases hle : xi ≤ mi
      · have q : decide (xi ≤ mi) = true := decide_eq_true hle
        have HE : Hid (A = (k : Int)) := Lib.hid (by have := HAK2.out; rw [if_pos hle] at this; exact this)
        go_wp2_with fail
        go_ret
        rw [HE.out]
        exact ⟨rfl, HB1.out⟩
      · have q : decide (xi ≤ mi) = false := decide_eq_false hle
        have HE : Hid (A = firstAhead mi (rv.drop (k + 1)) (k + 1)) := Lib.hid (by have := HAK2.out; rw [if_neg hle] at this; exact this)
        go_wp2_with fail
        go_roundg (gk - 1)
        case measure => omega
        case rel => exact ⟨k + 1, by go_num, by omega, HB1.out, HE.out⟩
    · have hkk : ¬ (k : Int) < (nr : Int) := by omega
      obtain rfl : k = nr := by omega
      have HE : Hid (A = -1) := Lib.hid (by rw [HAK.out, HNR.out, List.drop_length]; rfl)
      clear hlt hbw hak
      go_wp2_with fail
      go_ret
      rw [HE.out]
      exact ⟨rfl, HBW.out⟩
end Go.Proofs.YtbcpcopapbgcdaaGreatDoor.M

/- Part: SegDef. -/
namespace Go.Proofs.YtbcpcopapbgcdaaGreatDoor.M
open Go.RowKit Go.Maps
open D (Fl Dk)

def stays (mi : Int) (p : Rw × Value) : Bool := decide (mi < p.1.e.idx)

theorem firstAhead_none {mi : Int} : ∀ (rv : List (Rw × Value)) (k : Nat), firstAhead mi rv k = -1 → rv.filter (stays mi) = rv
  | [], _, _ => rfl
  | p :: r, k, h => by
    unfold firstAhead at h
    by_cases h1 : p.1.e.idx ≤ mi
    · rw [if_pos h1] at h; omega
    · rw [if_neg h1] at h
      rw [List.filter_cons_of_pos (by simp [stays]; omega), firstAhead_none r (k + 1) h]

theorem firstAhead_some {mi : Int} : ∀ (rv : List (Rw × Value)) (k : Nat), firstAhead mi rv k ≠ -1 → ∃ a : Nat, firstAhead mi rv k = ((k + a : Nat) : Int) ∧ a < rv.length ∧ (rv.take (a + 1)).filter (stays mi) = rv.take a
  | [], _, h => absurd rfl h
  | p :: r, k, h => by
    unfold firstAhead at h ⊢
    by_cases h1 : p.1.e.idx ≤ mi
    · rw [if_pos h1]
      refine ⟨0, by simp, by simp, ?_⟩
      simp [stays, h1]
    · rw [if_neg h1] at h ⊢
      obtain ⟨a, e1, e2, e3⟩ := firstAhead_some r (k + 1) h
      refine ⟨a + 1, by rw [e1]; congr 1; omega, by simp; omega, ?_⟩
      rw [List.take_succ_cons, List.filter_cons_of_pos (by simp [stays]; omega), e3, List.take_succ_cons]

theorem rwCells_cons (p : Rw × Value) (r : List (Rw × Value)) : rwCells (p :: r) = rwV p ++ rwCells r := rfl
theorem rwCells_app (a b : List (Rw × Value)) : rwCells (a ++ b) = rwCells a ++ rwCells b := by unfold rwCells; rw [List.flatMap_append]

/-- A row in place: the first i rows are K, those from j on are R. -/
structure Shifts (w : World) (g n c : Nat) (K R : List (Rw × Value)) (i j : Nat) (xs : List Value) : Prop where
  row : w.ownsRow 0 116 5 (.slice (some ⟨g, 0, none⟩) n c) n xs
  hi : K.length = i
  hj : j + R.length = n
  hd : xs.take (i * 5) = rwCells K
  tl : xs.drop (j * 5) = rwCells R
  le : i < j

theorem Shifts.put {w : World} {g n c i j : Nat} {K R : List (Rw × Value)} {p : Rw × Value} {xs : List Value} (h : Shifts w g n c K (p :: R) i j xs) : Shifts (w.setCells g (i * 5) (rwV p)) g n c (K ++ [p]) R (i + 1) (j + 1) (putMany xs (i * 5) (rwV p)) := by
  have hlen : xs.length = n * 5 := h.row.1
  have hj := h.hj
  have hle := h.le
  simp only [List.length_cons] at hj
  have hv : (rwV p).length = 5 := rfl
  have e := putMany_eq (rwV p) xs (i * 5) (by rw [hv, hlen]; omega)
  refine ⟨(ownsRow_many (w := w) _ _ _ _ h.row).1, by rw [List.length_append, h.hi]; rfl, by omega, ?_, ?_, by omega⟩
  · rw [e, hv, ← List.append_assoc, List.take_append_of_le_length (by simp [hv, hlen]; omega), List.take_of_length_le (by simp [hv]; omega), h.hd, rwCells_app]
    simp [rwCells]
  · rw [e, hv, ← List.append_assoc, List.drop_append]
    have h1 : (xs.take (i * 5) ++ rwV p).length = i * 5 + 5 := by simp [hv, hlen]; omega
    rw [List.drop_eq_nil_of_le (by rw [h1]; omega), h1, List.nil_append, List.drop_drop, show i * 5 + 5 + ((j + 1) * 5 - (i * 5 + 5)) = j * 5 + 5 by omega, ← List.drop_drop, h.tl, rwCells_cons, List.drop_left' hv]

theorem Shifts.skip {w : World} {g n c i j : Nat} {K R : List (Rw × Value)} {p : Rw × Value} {xs : List Value} (h : Shifts w g n c K (p :: R) i j xs) : Shifts w g n c K R i (j + 1) xs := by
  have hj := h.hj
  simp only [List.length_cons] at hj
  refine ⟨h.row, h.hi, by omega, h.hd, ?_, by have := h.le; omega⟩
  have hv : (rwV p).length = 5 := rfl
  rw [show (j + 1) * 5 = j * 5 + 5 by omega, ← List.drop_drop, h.tl, rwCells_cons, List.drop_left' hv]

theorem Shifts.same {w w' : World} {g n c i j : Nat} {K R : List (Rw × Value)} {xs : List Value} (h : Shifts w g n c K R i j xs) (hs : w'.heap[g]? = w.heap[g]?) : Shifts w' g n c K R i j xs :=
  ⟨ownsRow_same h.row fun k hk => by cases hk; exact hs, h.hi, h.hj, h.hd, h.tl, h.le⟩

/-- The next row's cells. -/
theorem Shifts.cell {w : World} {g n c i j : Nat} {K R : List (Rw × Value)} {p : Rw × Value} {xs : List Value} (h : Shifts w g n c K (p :: R) i j xs) (t : Nat) (ht : t < 5) : w.cell? ⟨g, j * 5 + t, none⟩ = (rwV p)[t]? := by
  have hlen : xs.length = n * 5 := h.row.1
  have hj := h.hj
  simp only [List.length_cons] at hj
  rw [h.row.cellAt _ (by omega), ← List.getElem?_drop, h.tl, rwCells_cons, List.getElem?_append_left ht]

theorem Shifts.init {w : World} {g n c a : Nat} {rv : List (Rw × Value)} (h : w.ownsRow 0 116 5 (.slice (some ⟨g, 0, none⟩) n c) n (rwCells rv)) (hn : n = rv.length) (ha : a < n) : Shifts w g n c (rv.take a) (rv.drop (a + 1)) a (a + 1) (rwCells rv) := by
  subst hn
  refine ⟨h, by rw [List.length_take]; omega, by rw [List.length_drop]; omega, ?_, ?_, by omega⟩
  · have e : rwCells rv = rwCells (rv.take a) ++ rwCells (rv.drop a) := by rw [← rwCells_app, List.take_append_drop]
    rw [e, List.take_left' (by rw [rwCells_length, List.length_take]; omega)]
  · have e : rwCells rv = rwCells (rv.take (a + 1)) ++ rwCells (rv.drop (a + 1)) := by rw [← rwCells_app, List.take_append_drop]
    conv => lhs; rw [e]
    rw [List.drop_left' (by rw [rwCells_length, List.length_take]; omega)]
end Go.Proofs.YtbcpcopapbgcdaaGreatDoor.M

/- Part: SegDlf. -/
namespace Go.Proofs.YtbcpcopapbgcdaaGreatDoor.M
open Go.RowKit Go.Maps
open D (Fl Dk)

theorem zero_sgRow (w : World) : (zeroValue 116).run Tryz.prog w = .ok (.agg #[.int .i64 0, .int .i64 0, .int .i64 0, .slice none 0 0, .int .i64 0]) w := by
  obtain ⟨ib, hib, hib0, hib1, hib2⟩ := info_parts infoSgRow
  simp [zeroValue, typeInfo, hib, hib0]

theorem only_grown {w w' : World} {g : Nat} (h : w.grownBy w' (some g)) : Only (fun k => some g = some k) w w' := ⟨h.os, h.tape, h.output, h.size, fun k hk hn => h.block k hk fun e => hn e.symm⟩

set_option maxRecDepth 20000 in
set_option maxHeartbeats 3200000 in
theorem DeleteFunc_any (rv : List (Rw × Value)) (v : Value) (gm : Nat) (mi mt : Int) (w : World) (hrow : w.ownsRow 0 116 5 v rv.length (rwCells rv)) (hsl : ∀ p ∈ rv, ∃ a n c, p.2 = .slice a n c) (hm : w.heap[gm]? = some (.cells #[.int .i64 mi, .int .i64 mt] 32)) (hg : v.ownBlock ≠ some gm) (hl : rv.length ≤ 1000000) :
    Calls Tryz.prog 122 #[v, .func (.func 123) #[] #[.pointer (some ⟨gm, 0, none⟩)]] w fun e w' => ∃ u, e = .returned u ∧ u.ownBlock = v.ownBlock ∧ w'.ownsRow 0 116 5 u (rv.filter (stays mi)).length (rwCells (rv.filter (stays mi))) ∧ Only (fun k => v.ownBlock = some k) w w' := by
  have HIX := Lib.hid (IndexFunc_any rv v gm mi mt w hrow hsl hm hl)
  have HROW := Lib.hid hrow
  have HSL := Lib.hid hsl
  have HM := Lib.hid hm
  have HG := Lib.hid hg
  obtain ⟨ra, rc, rfl, hrl, hrm⟩ := row5_slice hrow
  obtain ⟨R, hR⟩ : ∃ R, R = rv.filter (stays mi) := ⟨_, rfl⟩
  rw [← hR]
  have HR := Lib.hid hR
  by_cases hA : firstAhead mi rv 0 = -1
  · have HE : Hid (R = rv) := Lib.hid (by rw [hR]; exact firstAhead_none rv 0 hA)
    rw [hA] at HIX
    obtain ⟨nr, hnr⟩ : ∃ nr, nr = rv.length := ⟨_, rfl⟩
    rw [← hnr] at hrl hl HIX ⊢
    have HNR := Lib.hid hnr
    clear hrow hsl hm hg hnr hR hA
    go_enter Tryz.func122, Tryz.ntmps122
    go_wp2_with fail
    refine HIX.out.mono ?_
    rintro e w1 ⟨rfl, hb1⟩
    have HB1 := Lib.hid hb1
    clear hb1
    go_wp2_with fail
    go_ret
    refine ⟨_, rfl, rfl, ?_, Only.of_below HB1.out⟩
    rw [HE.out, HNR.out]
    exact ownsRow_same HROW.out fun k hk => HB1.out.block k (HROW.out.lt k hk).2
  · obtain ⟨a, ea, ha, hf⟩ := firstAhead_some rv 0 hA
    rw [ea, Nat.zero_add] at HIX
    obtain ⟨g0, c0, hv0, hgz, -, -, -, -⟩ := row5_elem (f := rwV) (fun _ => rfl) hrow a ha
    have hra : ra = some ⟨g0, 0, none⟩ := by cases hv0; rfl
    subst hra
    obtain ⟨nr, hnr⟩ : ∃ nr, nr = rv.length := ⟨_, rfl⟩
    rw [← hnr] at hrl hl HIX ha HROW HG ⊢
    have HNR := Lib.hid hnr
    have HF := Lib.hid hf
    have HGZ := Lib.hid hgz
    have hne : (((a : Nat) : Int) == -1) = false := beq_eq_false_iff_ne.2 (by omega)
    have hgne : g0 ≠ gm := fun e => HG.out (by rw [e]; rfl)
    have HGNE := Lib.hid hgne
    clear hrow hsl hm hg hnr hR hA hv0 ea hf hgz hgne
    go_enter Tryz.func122, Tryz.ntmps122
    go_wp2_with fail
    refine HIX.out.mono ?_
    rintro e w1 ⟨rfl, hb1⟩
    have HSH : Hid (Shifts w1 g0 nr rc (rv.take a) (rv.drop (a + 1)) a (a + 1) (rwCells rv)) := Lib.hid ((Shifts.init HROW.out HNR.out ha).same (hb1.block g0 HGZ.out))
    have HM1 := Lib.hid (old_below HM.out hb1)
    have HO1 : Hid (Only (fun k => (Value.slice (some ⟨g0, 0, none⟩) nr rc).ownBlock = some k) w w1) := Lib.hid (Only.of_below hb1)
    clear hb1
    go_wp2_with fail
    go_loopg [5, 6, 7] nr (fun gk i j _ wr => ∃ (ii jj : Nat) (K T : List (Rw × Value)) (xs : List Value), i = .int .i64 (ii : Int) ∧ j = .int .i64 (jj : Int) ∧ jj + gk = nr + a + 1 ∧ Shifts wr g0 nr rc K T ii jj xs ∧ T = rv.drop jj ∧ R = K ++ T.filter (stays mi) ∧ Only (fun k => (Value.slice (some ⟨g0, 0, none⟩) nr rc).ownBlock = some k) w wr ∧ wr.heap[gm]? = some (.cells #[.int .i64 mi, .int .i64 mt] 32))
    case atStart =>
      refine ⟨a, a + 1, _, _, _, rfl, by go_num, by omega, HSH.out, rfl, ?_, HO1.out, HM1.out⟩
      have e : rv = rv.take (a + 1) ++ rv.drop (a + 1) := (List.take_append_drop _ _).symm
      rw [HR.out]
      conv => lhs; rw [e]
      rw [List.filter_append, HF.out]
    case round =>
      obtain ⟨ii, jj, K, T, xs, rfl, rfl, hkg, hsh, hT, hR, hon, hmw⟩ := hrel
      have HSH2 := Lib.hid hsh
      have HT := Lib.hid hT
      have HR2 := Lib.hid hR
      have HON := Lib.hid hon
      have HMW := Lib.hid hmw
      have hij := hsh.le
      have hjl := hsh.hj
      cases T with
      | nil =>
        simp only [List.length_nil, Nat.add_zero] at hjl
        subst hjl
        have hkk : ¬ (jj : Int) < (jj : Int) := by omega
        have hKR : Hid (R = K) := Lib.hid (by rw [HR2.out]; simp)
        have hi1 : (ii : Int) ≤ (jj : Int) := by omega
        have hi2 : (ii : Int) ≤ (rc : Int) := by omega
        have hlx : xs.length = jj * 5 := hsh.row.1
        obtain ⟨Z, hZ⟩ : ∃ Z, Z = (Builtin.zeroCells ([.int .i64 0, .int .i64 0, .int .i64 0, .slice none 0 0, .int .i64 0] : List Value).toArray (jj - ii)).toList := ⟨_, rfl⟩
        have hclr := run_clear_any wr 98 116 0 _ [.int .i64 0, .int .i64 0, .int .i64 0, .slice none 0 0, .int .i64 0] Tryz.underlying98 zero_sgRow rfl (by decide) g0 (ii * 5) (jj - ii) (rc - ii) (by omega)
          (fun t ht => by
            simp only [List.length_cons, List.length_nil] at ht
            rw [hsh.row.cellAt _ (by omega), List.getElem?_eq_getElem (by omega)]
            rfl) (fun t ht => hsh.row.frozenAt _)
        rw [← hZ] at hclr
        obtain ⟨h1, h2⟩ := ownsRow_many (w := wr) Z (ii * 5) xs wr hsh.row
        have h3 := ownsRow_first h1 (k := ii) (by omega)
        rw [putMany_take _ _ _ _ (Nat.le_refl _), hsh.hd] at h3
        have HON2 := Lib.hid (hon.then (only_grown h2))
        have HKL := Lib.hid hsh.hi
        obtain ⟨W2, hW2⟩ : ∃ W2, W2 = wr.setCells g0 (ii * 5) Z := ⟨_, rfl⟩
        rw [← hW2] at hclr h3 HON2
        have H3 := Lib.hid h3
        clear hsh hT hR hon hmw h1 h2 h3 hW2 hZ hlx
        go_wp2_with fail
        go_ret
        refine ⟨_, rfl, rfl, ?_, HON2.out⟩
        rw [hKR.out, HKL.out]
        exact H3.out
      | cons p T =>
        have hjn : jj < nr := by simp only [List.length_cons] at hjl; omega
        have hkk : (jj : Int) < (nr : Int) := by omega
        have e0 := hsh.cell 0 (by omega)
        have e1 := hsh.cell 1 (by omega)
        have e2 := hsh.cell 2 (by omega)
        have e3 := hsh.cell 3 (by omega)
        have e4 := hsh.cell 4 (by omega)
        simp only [rwV, List.getElem?_cons_zero, List.getElem?_cons_succ, Nat.add_zero] at e0 e1 e2 e3 e4
        have hgw := hsh.row.lt g0 rfl
        have hgz := hgw.2
        have hpm : p ∈ rv := by
          have : p ∈ rv.drop jj := by rw [← hT]; simp
          exact List.mem_of_mem_drop this
        obtain ⟨pa, pn, pc, hpv⟩ := HSL.out p hpm
        have hTT : T = rv.drop (jj + 1) := by
          rw [← List.drop_drop, ← hT]; rfl
        have HTT := Lib.hid hTT
        obtain ⟨W, hW⟩ : ∃ W, W = wr.alloc (.cells #[.int .i64 p.1.e.idx, .int .i64 p.1.e.term, .int .i64 p.1.e.kind, p.2, .int .i64 p.1.pos] 116) := ⟨_, rfl⟩
        have hbw : Below wr.heap.size wr W := by rw [hW]; exact below_alloc _ _
        have hbx : W.heap[wr.heap.size]? = some (.cells #[.int .i64 p.1.e.idx, .int .i64 p.1.e.term, .int .i64 p.1.e.kind, p.2, .int .i64 p.1.pos] 116) := by rw [hW]; exact heap_new _ _ _ rfl
        have hcall := ahead_any p pa pn pc hpv gm mi mt W (old_below hmw hbw)
        unfold rwAgg at hcall
        have HCALL := Lib.hid hcall
        have HBW := Lib.hid hbw
        have HBX := Lib.hid hbx
        have HW := Lib.hid hW
        obtain ⟨⟨⟨xi, xt, xk, xb⟩, po⟩, pv⟩ := p
        simp only at hpv e0 e1 e2 e3 e4 HCALL HBX HW
        subst hpv
        clear hcall hbw hbx hW hsh hT hR hon hmw hgw hpm hTT hjl
        go_wp2_with fail
        rw [← HW.out]
        refine HCALL.out.mono ?_
        rintro e w2 ⟨rfl, hb2⟩
        have HB2 : Hid (Below wr.heap.size wr w2) := Lib.hid (HBW.out.trans (hb2.mono HBW.out.size))
        have HX2 := Lib.hid (old_below HBX.out hb2)
        clear hb2
        by_cases hle : xi ≤ mi
        · have q : decide (xi ≤ mi) = true := decide_eq_true hle
          clear e0 e1 e2 e3 e4
          go_wp2_with fail
          go_roundg (gk - 1)
          case measure => omega
          case rel =>
            refine ⟨ii, jj + 1, K, T, xs, rfl, by go_num, by omega, HSH2.out.skip.same (HB2.out.block g0 hgz), HTT.out, ?_, HON.out.next HB2.out, old_below HMW.out HB2.out⟩
            rw [HR2.out, List.filter_cons_of_neg (by simp [stays]; omega)]
        · have q : decide (xi ≤ mi) = false := decide_eq_false hle
          have hii : (ii : Int) < (nr : Int) := by omega
          have hs2 := HSH2.out.same (HB2.out.block g0 hgz)
          have hlx : xs.length = nr * 5 := hs2.row.1
          have hcc : ∀ t, t < 5 → ∃ u, w2.cell? ⟨g0, ii * 5 + t, none⟩ = some u := fun t ht => ⟨_, (hs2.row.cellAt _ (by omega)).trans (List.getElem?_eq_getElem (by omega))⟩
          obtain ⟨u0, s0⟩ := hcc 0 (by omega)
          obtain ⟨u1, s1⟩ := hcc 1 (by omega)
          obtain ⟨u2, s2⟩ := hcc 2 (by omega)
          obtain ⟨u3, s3⟩ := hcc 3 (by omega)
          obtain ⟨u4, s4⟩ := hcc 4 (by omega)
          have fz := fun t => hs2.row.frozenAt t
          have z0 := fz (ii * 5)
          have z1 := fz (ii * 5 + 1)
          have z2 := fz (ii * 5 + 2)
          have z3 := fz (ii * 5 + 3)
          have z4 := fz (ii * 5 + 4)
          have hgz2 := Nat.lt_of_lt_of_le hgz HB2.out.size
          have HPUT := Lib.hid hs2.put
          have hgr := (ownsRow_many (w := w2) (rwV (⟨⟨⟨xi, xt, xk, xb⟩, po⟩, .slice pa pn pc⟩ : Rw × Value)) (ii * 5) xs w2 hs2.row).2
          have HON2 : Hid (Only (fun k => (Value.slice (some ⟨g0, 0, none⟩) nr rc).ownBlock = some k) w (w2.setCells g0 (ii * 5) (rwV (⟨⟨⟨xi, xt, xk, xb⟩, po⟩, .slice pa pn pc⟩ : Rw × Value)))) := Lib.hid ((HON.out.next HB2.out).then (only_grown hgr))
          have HMW2 : Hid ((w2.setCells g0 (ii * 5) (rwV (⟨⟨⟨xi, xt, xk, xb⟩, po⟩, .slice pa pn pc⟩ : Rw × Value))).heap[gm]? = some (.cells #[.int .i64 mi, .int .i64 mt] 32)) := Lib.hid (by
            rw [hgr.block gm (lt_of_heap (old_below HMW.out HB2.out)) (fun e => HGNE.out (Option.some.inj e).symm)]
            exact old_below HMW.out HB2.out)
          have x2 := HX2.out
          obtain ⟨x0, x1, x2', x3, x4, -, xz⟩ := five_cells x2
          simp only [Nat.add_zero] at s0
          clear e0 e1 e2 e3 e4 hs2 hlx hcc fz hgr x2
          go_wp2_with fail
          go_roundg (gk - 1)
          case measure => omega
          case rel =>
            refine ⟨ii + 1, jj + 1, _, T, _, by go_num, by go_num, by omega, HPUT.out, HTT.out, ?_, HON2.out, HMW2.out⟩
            rw [HR2.out, List.filter_cons_of_pos (by simp [stays]; omega), List.append_assoc]
            rfl
end Go.Proofs.YtbcpcopapbgcdaaGreatDoor.M

/- Part: SegBeg. -/
namespace Go.Proofs.YtbcpcopapbgcdaaGreatDoor.M
open Go.RowKit Go.Maps
open D (Fl Dk)

/-- The log begins behind a mark. -/
def begun (h : Hd) (mi mt : Int) : Hd := { h with rows := h.rows.filter (fun r => decide (mi < r.e.idx)), mi := mi, mt := mt, synced := max h.synced mi }

theorem LS.setBegin {K : Nat → Obj → Prop} {w wr w1 w' : World} {X Xd : Nat → Prop} {g gd : Nat} {least : Int} {h : Hd} {d : Dk} (l : LS K w X Xd g gd least h d wr) (mi mt : Int) {vr vf u : Value} {rv : List (Rw × Value)} (la : LgAt wr X g gd least h vr vf rv)
    (ho1 : Only (fun k => vr.ownBlock = some k) wr w1) (hr : w1.ownsRow 0 116 5 u (rv.filter (stays mi)).length (rwCells (rv.filter (stays mi)))) (hu : u.ownBlock = vr.ownBlock) (ho2 : Only (fun k => k = g) w1 w')
    (hbox : w'.heap[g]? = some (.cells #[.int .i64 mi, .int .i64 mt, u, vf, .int .i64 (max h.synced mi), .pointer (some ⟨gd, 0, none⟩), .int .i64 least] 104)) : LS K w X Xd g gd least (begun h mi mt) d w' := by
  have lz := l.lg.2
  have oX : Only X wr w' := (ho1.mono fun k hk => (la.fr k hk).1).then (ho2.mono fun k hk => by rw [hk]; exact la.fg)
  have bl : ∀ q, q < wr.heap.size → q ≠ g → vr.ownBlock ≠ some q → w'.heap[q]? = wr.heap[q]? := fun q hq h1 h2 => (ho2.block q (Nat.lt_of_lt_of_le hq ho1.size) h1).trans (ho1.block q hq h2)
  refine l.self oX (fun q hq => .inl hq) ⟨⟨u, vf, rv.filter (stays mi), hbox, ?_, ownsRow_same hr fun q hq => ho2.block q (Nat.lt_of_lt_of_le (lz q (la.fr q (hu ▸ hq)).1) ho1.size) (la.fr q (hu ▸ hq)).2.1,
    ownsRow_same la.frow fun q hq => bl q (lz q (la.ff q hq).1) (la.ff q hq).2 fun e => (la.fr q e).2.2 hq, fun p hp => ?_, la.fg, fun k hk => la.fr k (hu ▸ hk), la.ff⟩, fun q hq => Nat.lt_of_lt_of_le (lz q hq) oX.size⟩
  · show _ = h.rows.filter _
    rw [← la.rows, List.filter_map]
    rfl
  · obtain ⟨B, b1, b2⟩ := la.bod p (List.mem_filter.1 hp).1
    exact ⟨B, b1.same (fun _ h => h) fun q hq => bl q (lz q (b2 q hq).1) (b2 q hq).2.1 (b2 q hq).2.2.1, fun q hq => ⟨(b2 q hq).1, (b2 q hq).2.1, by rw [hu]; exact (b2 q hq).2.2.1, (b2 q hq).2.2.2⟩⟩

set_option maxRecDepth 20000 in
set_option maxHeartbeats 3200000 in
theorem begin_any (K : Nat → Obj → Prop) (w wa : World) (X Xd : Nat → Prop) (g gd : Nat) (least : Int) (h : Hd) (d : Dk) (l : LS K w X Xd g gd least h d wa) (hrl : h.rows.length ≤ 1000000) (mi mt : Int) :
    Calls Tryz.prog 62 #[.pointer (some ⟨g, 0, none⟩), .agg #[.int .i64 mi, .int .i64 mt]] wa fun e w' => e = .returned (.tuple #[]) ∧ LS K w X Xd g gd least (begun h mi mt) d w' := by
  obtain ⟨W, hW⟩ : ∃ W, W = wa.alloc (.cells #[.int .i64 mi, .int .i64 mt] 32) := ⟨_, rfl⟩
  have hb0 : Below wa.heap.size wa W := by rw [hW]; exact below_alloc _ _
  have hx0 : W.heap[wa.heap.size]? = some (.cells #[.int .i64 mi, .int .i64 mt] 32) := by rw [hW]; exact heap_new _ _ _ rfl
  have hnx : ¬ X wa.heap.size := fun hx => Nat.lt_irrefl _ (l.lt hx)
  have l0 := l.next hb0
  obtain ⟨gb, hgb⟩ : ∃ gb, gb = wa.heap.size := ⟨_, rfl⟩
  rw [← hgb] at hx0 hnx
  have HW := Lib.hid hW
  have HGB := Lib.hid hgb
  obtain ⟨⟨vr, vf, rv, la9⟩, lz9⟩ := l.lg
  have la : LgAt W X g gd least h vr vf rv := la9.same (fun _ h => h) fun k hk => hb0.block k (lz9 k hk)
  have hrv : rv.length ≤ 1000000 := by rw [← la.rows, List.length_map] at hrl; exact hrl
  have HDEL := Lib.hid (DeleteFunc_any rv vr gb mi mt W la.rrow la.slices hx0 (fun e => hnx (la.fr gb e).1) hrv)
  have HLA := Lib.hid la
  have HL := Lib.hid l0
  have HX := Lib.hid hx0
  have HNX := Lib.hid hnx
  obtain ⟨ra, rc, rfl, -, -⟩ := row5_slice la.rrow
  obtain ⟨c0, c1, c2, c3, c4, c5, c6, cz⟩ := seven_cells la9.box
  have hne : g ≠ gb := fun e => hnx (e ▸ la.fg)
  have hne2 : gb ≠ g := fun e => hne e.symm
  have HCZ := Lib.hid (lt_of_heap la.box)
  clear l0 l la la9 lz9 hx0 hW hgb hb0 hnx hrl hrv c0 c1 c3 c4 c5 c6
  go_enter Tryz.func62, Tryz.ntmps62
  go_wp2_with fail
  rw [← HW.out]
  rw [← HGB.out]
  refine HDEL.out.mono ?_
  rintro e w1 ⟨u, rfl, hu, hrow, hon⟩
  obtain ⟨ua, uc, rfl, -, -⟩ := row5_slice hrow
  have HU := Lib.hid hu
  have HROW := Lib.hid hrow
  have HON := Lib.hid hon
  obtain ⟨nk, hnk⟩ : ∃ nk, nk = (rv.filter (stays mi)).length := ⟨_, rfl⟩
  rw [← hnk] at HU HROW ⊢
  have HNK := Lib.hid hnk
  have hbox1 : w1.heap[g]? = _ := (hon.block g HCZ.out fun e => (HLA.out.fr g e).2.1 rfl).trans HLA.out.box
  have hmk1 := (hon.block gb (lt_of_heap HX.out) fun e => HNX.out (HLA.out.fr gb e).1).trans HX.out
  obtain ⟨k0, k1, k2, k3, k4, k5, k6, kz⟩ := seven_cells hbox1
  obtain ⟨b0, b1, f0, f1, bz⟩ := block2 hmk1
  have fd : ∀ j, w1.frozen? ⟨g, j, none⟩ = false := fun j => frozen_of_row _ _ j _ _ hbox1
  have i0 := fd 0
  have i1 := fd 1
  have i2 := fd 2
  have i4 := fd 4
  have HBOX1 := Lib.hid hbox1
  clear hu hrow hon hnk hbox1 hmk1 fd c2 cz
  go_wp2_with fail
  go_region
  go_wp2_with fail
  go_end0
  exact ⟨rfl, HL.out.setBegin mi mt HLA.out HON.out (by rw [← HNK.out]; exact HROW.out) HU.out (Only.drawn (Only.set (g := g) (Only.set (g := g) (Only.set (g := g) (Only.set (g := g) (Only.refl (fun k => k = g) w1) (.inl rfl) _) (.inl rfl) _) (.inl rfl) _) (.inl rfl) _)) (heap_sevenE HBOX1.out)⟩
end Go.Proofs.YtbcpcopapbgcdaaGreatDoor.M

/- Part: SegSet. -/
namespace Go.Proofs.YtbcpcopapbgcdaaGreatDoor.M
open Go.RowKit Go.Maps
open D (Fl Dk)

set_option maxRecDepth 20000 in
set_option maxHeartbeats 3200000 in
theorem settle_none (K : Nat → Obj → Prop) (w wa : World) (X Xd : Nat → Prop) (g gd : Nat) (least : Int) (h : Hd) (d : Dk) (l : LS K w X Xd g gd least h d wa) (hr : h.rows = []) (hf : h.files = []) (mi mt : Int) :
    Calls Tryz.prog 53 #[.pointer (some ⟨g, 0, none⟩), .agg #[.int .i64 mi, .int .i64 mt]] wa fun e w' => e = .returned (.func (.func 112) #[] #[]) ∧ LS K w X Xd g gd least (emptied h mi mt) d w' := by
  obtain ⟨W, hW⟩ : ∃ W, W = wa.alloc (.cells #[.int .i64 mi, .int .i64 mt] 32) := ⟨_, rfl⟩
  have hb0 : Below wa.heap.size wa W := by rw [hW]; exact below_alloc _ _
  have hx0 : W.heap[wa.heap.size]? = some (.cells #[.int .i64 mi, .int .i64 mt] 32) := by rw [hW]; exact heap_new _ _ _ rfl
  have l0 := l.next hb0
  have HFIT := Lib.hid (fits_none X g gd least h W l0.lg hr hf mi mt)
  have HL := Lib.hid l0
  have HX := Lib.hid hx0
  have HW := Lib.hid hW
  clear hb0 hx0 l0 l hW hr hf
  go_enter Tryz.func53, Tryz.ntmps53
  go_wp2_with fail
  rw [← HW.out]
  refine HFIT.out.mono ?_
  rintro e w1 ⟨rfl, hb1⟩
  have HL1 := Lib.hid (HL.out.next hb1)
  obtain ⟨b0, b1, f0, f1, bz⟩ := block2 (old_below HX.out hb1)
  clear hb1
  go_wp2_with fail
  refine (empty_any K w w1 X Xd g gd least h d HL1.out mi mt).mono ?_
  rintro e w2 ⟨rfl, hl2⟩
  have HL2 := Lib.hid hl2
  clear hl2 b0 b1 f0 f1 bz
  go_wp2_with fail
  go_ret
  exact ⟨rfl, HL2.out⟩

set_option maxRecDepth 20000 in
set_option maxHeartbeats 3200000 in
theorem settle_fits (K : Nat → Obj → Prop) (w wa : World) (X Xd : Nat → Prop) (g gd : Nat) (least : Int) (h : Hd) (d : Dk) (l : LS K w X Xd g gd least h d wa) (hrl : h.rows.length ≤ 1000000) (mi mt : Int)
    (hfit : ∀ W, Lg W X g gd least h → Calls Tryz.prog 110 #[.pointer (some ⟨g, 0, none⟩), .agg #[.int .i64 mi, .int .i64 mt]] W fun e w' => e = .returned (.bool true) ∧ Below W.heap.size W w') (hlast : 0 ≤ (begun h mi mt).last.1 ∧ (begun h mi mt).last.1 < 10000000000) :
    Calls Tryz.prog 53 #[.pointer (some ⟨g, 0, none⟩), .agg #[.int .i64 mi, .int .i64 mt]] wa fun e w' => ∃ gn, e = .returned (.func (.func 113) #[] #[.pointer (some ⟨gn, 0, none⟩)]) ∧ w'.heap[gn]? = some (.cells #[.int .i64 ((begun h mi mt).last.1 + 1)] 3) ∧ ¬ X gn ∧ ¬ Xd gn ∧ LS K w X Xd g gd least (begun h mi mt) d w' := by
  obtain ⟨W, hW⟩ : ∃ W, W = wa.alloc (.cells #[.int .i64 mi, .int .i64 mt] 32) := ⟨_, rfl⟩
  have hb0 : Below wa.heap.size wa W := by rw [hW]; exact below_alloc _ _
  have hx0 : W.heap[wa.heap.size]? = some (.cells #[.int .i64 mi, .int .i64 mt] 32) := by rw [hW]; exact heap_new _ _ _ rfl
  have l0 := l.next hb0
  have HFIT := Lib.hid (hfit W l0.lg)
  have HL := Lib.hid l0
  have HX := Lib.hid hx0
  have HW := Lib.hid hW
  clear hb0 hx0 l0 l hW hfit
  go_enter Tryz.func53, Tryz.ntmps53
  go_wp2_with fail
  rw [← HW.out]
  refine HFIT.out.mono ?_
  rintro e w1 ⟨rfl, hb1⟩
  have HL1 := Lib.hid (HL.out.next hb1)
  obtain ⟨b0, b1, f0, f1, bz⟩ := block2 (old_below HX.out hb1)
  clear hb1
  go_wp2_with fail
  refine (begin_any K w w1 X Xd g gd least h d HL1.out hrl mi mt).mono ?_
  rintro e w2 ⟨rfl, hl2⟩
  have HL2 := Lib.hid hl2
  clear hl2 b0 b1 f0 f1 bz
  go_wp2_with fail
  refine HL2.out.lg.last_any.mono ?_
  rintro e w3 ⟨rfl, hb3⟩
  have HL3 := Lib.hid (HL2.out.next hb3)
  obtain ⟨⟨l1, l2⟩, hl⟩ : ∃ ll, ll = (begun h mi mt).last := ⟨_, rfl⟩
  rw [← hl] at hlast ⊢
  have HB4 : Hid (LS K w X Xd g gd least (begun h mi mt) d (w3.alloc (.cells #[.int .i64 (l1 + 1)] 3))) := Lib.hid (HL3.out.next (below_alloc _ _))
  have HN : Hid (¬ X w3.heap.size ∧ ¬ Xd w3.heap.size) := Lib.hid ⟨fun hx => Nat.lt_irrefl _ (HL3.out.lt hx), fun hx => Nat.lt_irrefl _ (HL3.out.ds.lt _ hx)⟩
  simp only at hlast
  have q1 := hlast.1
  have q2 := hlast.2
  have HLL := Lib.hid hl
  have hfm := mark_idx l1 l2
  clear hb3 hl hlast
  go_wp2_with fail
  go_ret
  refine ⟨_, rfl, ?_, HN.out.1, HN.out.2, HB4.out⟩
  rw [← HLL.out]
  exact heap_new _ _ _ rfl
end Go.Proofs.YtbcpcopapbgcdaaGreatDoor.M

/- Part: SegDlt. -/
namespace Go.Proofs.YtbcpcopapbgcdaaGreatDoor.M
open Go.RowKit Go.Maps
open D (Fl Dk)

theorem zero_sgFile (w : World) : (zeroValue 114).run Tryz.prog w = .ok (.agg #[.int .i64 0, .int .i64 0, .int .i64 0, .int .i64 0, .bool false]) w := by
  obtain ⟨ib, hib, hib0, hib1, hib2⟩ := info_parts infoSgFile
  simp [zeroValue, typeInfo, hib, hib0]

/-- An append whose run is known. -/
theorem wp_append_run {P : Program} (w : World) {o : Oper} {a : Act} {K : Act → World → Prop} {Q : Exit → Act → World → Prop} (s y : Operand) (t : TypeId)
    (ho : o.op = .call { callee := .builtin .append, args := #[s, y], argTypes := #[t, t] }) (v x v' : Value) (w' : World) (hs : a.eval s = v) (hy : a.eval y = x)
    (hr : (Builtin.append_ #[t, t] o.type #[v, x]).run P w = .ok v' w') (h : K (a.put o.dst v') w') : o.wp P a w K Q := by
  unfold Oper.wp execOp
  simp only [ho, resolve, invoke, builtin, Sem.run_bind, Sem.run_pure, Result.andThen_ok, List.map_toArray, List.map_cons, List.map_nil, hs, hy, hr]
  exact h

theorem fiV_one (fs : List Fi) : ∀ u ∈ fiCells fs, u.oneCell' = true := by
  intro u hu
  obtain ⟨f, -, hf⟩ := List.mem_flatMap.1 hu
  simp only [fiV, List.mem_cons, List.not_mem_nil, or_false] at hf
  rcases hf with rfl | rfl | rfl | rfl | rfl <;> rfl

theorem fiCells_app (a b : List Fi) : fiCells (a ++ b) = fiCells a ++ fiCells b := by unfold fiCells; rw [List.flatMap_append]

set_option maxRecDepth 20000 in
set_option maxHeartbeats 3200000 in
theorem DeleteFi_any (fs : List Fi) (v : Value) (i m : Nat) (hn : fs.length = i + 1 + m) (w : World) (hrow : w.ownsRow 0 114 5 v fs.length (fiCells fs)) (hl : fs.length ≤ 1000000) :
    Calls Tryz.prog 124 #[v, .int .i64 (i : Int), .int .i64 ((i : Int) + 1)] w fun e w' => ∃ u, e = .returned u ∧ u.ownBlock = v.ownBlock ∧ w'.ownsRow 0 114 5 u (i + m) (fiCells (fs.eraseIdx i)) ∧ Only (fun k => v.ownBlock = some k) w w' := by
  obtain ⟨g0, c0, rfl, hgz, hlc, hcm, -, hfz⟩ := row5_elem (f := fiV) (fun _ => rfl) hrow i (by omega)
  have HROW := Lib.hid hrow
  have hsz : (fiCells fs).length = (i + 1 + m) * 5 := by rw [fiCells_length, hn]
  obtain ⟨news, hnw⟩ : ∃ L, L = fiCells (fs.drop (i + 1)) := ⟨_, rfl⟩
  have hnl : news.length = m * 5 := by rw [hnw, fiCells_length, List.length_drop]; congr 1; omega
  have hcells : ∀ j, j < (i + 1 + m) * 5 → w.cell? ⟨g0, j, none⟩ = some ((fiCells fs)[j]?.getD undef) := fun j hj => by
    rw [hrow.cellAt j (by omega), List.getElem?_eq_getElem (by omega)]
    rfl
  have hnews : ∀ j u, news[j]? = some u → w.cell? ⟨g0, (i + 1) * 5 + j, none⟩ = some u := fun j u hj => by
    obtain ⟨h1, -⟩ := List.getElem?_eq_some_iff.1 hj
    have e : fiCells fs = fiCells (fs.take (i + 1)) ++ news := by rw [hnw, ← fiCells_app, List.take_append_drop]
    have h2 : (fiCells (fs.take (i + 1))).length = (i + 1) * 5 := by rw [fiCells_length, List.length_take]; congr 1; omega
    rw [hrow.cellAt _ (by omega), e, List.getElem?_append_right (by omega), h2, Nat.add_sub_cancel_left, hj]
  obtain ⟨ib, hib, hib0, hib1, hib2⟩ := info_parts infoSgFile
  have happ : ∀ (W : World), W.heap = w.heap → ∀ (a : Addr) (cc : Nat), (m ≠ 0 → a = ⟨g0, (i + 1) * 5, none⟩) → (Builtin.append_ #[99, 99] 99 #[.slice (some ⟨g0, 0, none⟩) i c0, .slice (some a) m cc]).run Tryz.prog W = .ok (.slice (some ⟨g0, 0, none⟩) (i + m) c0) (W.setCells g0 (i * 5) news) := fun W hW a cc ha => by
    have hce : ∀ a : Addr, W.cell? a = w.cell? a := fun a => World.cell?_of_block (by rw [hW])
    have hfe : ∀ a : Addr, W.frozen? a = w.frozen? a := fun a => by unfold World.frozen?; rw [hW]
    have := run_append_room_cells (P := Tryz.prog) W 99 99 114 ib Tryz.underlying99 hib g0 0 i c0 a m cc news (by rw [hib1]; exact hnl) (fun j u hj => by
      have hm : m ≠ 0 := fun e => by
        have := (List.getElem?_eq_some_iff.1 hj).1
        omega
      rw [ha hm, hce]
      rw [addr_add]
      exact hnews j u hj) (fun u hu => fiV_one (fs.drop (i + 1)) u (by rw [← hnw]; exact hu)) (by omega) (fun j hj => by rw [hce, hib1, Nat.zero_add, hcells _ (by omega)]; rfl) (fun j hj => by rw [hfe, hib1, Nat.zero_add]; exact hfz _)
    rw [hib1, Nat.zero_add] at this
    exact this
  have HAPP := Lib.hid happ
  obtain ⟨h1, h2⟩ := ownsRow_many (w := w.drew) news (i * 5) (fiCells fs) w.drew (ownsRow_same hrow fun _ _ => rfl)
  have HS1 : Hid (Only (fun k => k = g0) w (w.drew.setCells g0 (i * 5) news)) := Lib.hid (((Only.refl _ w).drawn).then ((only_grown h2).mono fun k hk => (Option.some.inj hk).symm))
  obtain ⟨W1, hW1⟩ : ∃ W1, W1 = w.drew.setCells g0 (i * 5) news := ⟨_, rfl⟩
  rw [← hW1] at h1 h2 HS1
  have HW1 := Lib.hid hW1
  clear hW1
  obtain ⟨Z, hZ⟩ : ∃ Z, Z = (Builtin.zeroCells ([.int .i64 0, .int .i64 0, .int .i64 0, .int .i64 0, .bool false] : List Value).toArray 1).toList := ⟨_, rfl⟩
  obtain ⟨h3, h4⟩ := ownsRow_many (w := W1) Z ((i + m) * 5) _ _ h1
  have h5 := ownsRow_first h3 (k := i + m) (by omega)
  have h6 : (putMany (putMany (fiCells fs) (i * 5) news) ((i + m) * 5) Z).take ((i + m) * 5) = fiCells (fs.eraseIdx i) := by
    rw [putMany_take _ _ _ _ (Nat.le_refl _), putMany_eq _ _ _ (by omega), ← List.append_assoc, List.take_append_of_le_length (by simp; omega), List.take_of_length_le (by simp; omega), List.eraseIdx_eq_take_drop_succ, fiCells_app, ← hnw]
    congr 1
    have e : fiCells fs = fiCells (fs.take i) ++ fiCells (fs.drop i) := by rw [← fiCells_app, List.take_append_drop]
    have h2 : (fiCells (fs.take i)).length = i * 5 := by rw [fiCells_length, List.length_take]; congr 1; omega
    rw [e, ← h2, List.take_left]
  rw [h6] at h5
  have hclr := run_clear_any W1 99 114 0 _ [.int .i64 0, .int .i64 0, .int .i64 0, .int .i64 0, .bool false] Tryz.underlying99 zero_sgFile rfl (by decide) g0 ((i + m) * 5) 1 (c0 - (i + m)) (by omega)
    (fun t ht => by
      simp only [List.length_cons, List.length_nil] at ht
      rw [h1.cellAt _ (by omega), List.getElem?_eq_getElem (by rw [putMany_length]; omega)]
      rfl) (fun t ht => h1.frozenAt _)
  rw [← hZ] at hclr
  obtain ⟨nn, hnn⟩ : ∃ nn, nn = fs.length := ⟨_, rfl⟩
  rw [← hnn] at hlc hn ⊢
  have q0 : ((i : Int) == (i : Int) + 1) = false := beq_eq_false_iff_ne.2 (by omega)
  have q1 : (i : Int) ≤ (i : Int) + 1 := by omega
  have q2 : (i : Int) + 1 ≤ (nn : Int) := by omega
  have q3 : (nn : Int) ≤ (c0 : Int) := by omega
  have q4 : (i : Int) ≤ 1000000 := by omega
  have q5 : nn - (i + 1) = m := by omega
  have q6 : ((i + m : Nat) : Int) = (i : Int) + (m : Int) := by omega
  have q7 : nn - (i + m) = 1 := by omega
  have q8 : (i : Int) ≤ (c0 : Int) := by omega
  have HN := Lib.hid hn
  have HCL := Lib.hid hclr
  have H5 := Lib.hid h5
  have HON : Hid (Only (fun k => (Value.slice (some ⟨g0, 0, none⟩) nn c0).ownBlock = some k) w (W1.setCells g0 ((i + m) * 5) Z)) := Lib.hid ((HS1.out.mono fun k hk => by rw [hk]; rfl).then (only_grown h4))
  clear hrow hsz hnl hcells hnews happ h1 h2 h3 h4 h5 h6 hclr hnn hn hib hib0 hib1 hib2 hfz
  go_enter Tryz.func124, Tryz.ntmps124
  go_wp2_with fail
  have q9 : (0 : Int) ≤ (i : Int) + 1 := by omega
  have hS : Only (fun k => k = g0) w w.drew := (Only.refl _ w).drawn
  clear hnw
  by_cases hc : c0 = i + 1
  · have e1 := HAPP.out w.drew rfl ⟨g0, 0, none⟩ (c0 - (i + 1)) (fun e => absurd HN.out (by omega))
    rw [← HW1.out] at e1
    subst hc
    refine wp_region_held (S := fun w' => Only (fun k => k = g0) w w') (by kernel_rfl) ?_
    refine H_take (i := 0) (v := ?_) rfl (by as_aux_lemma => kernel_rfl) (by as_aux_lemma => kernel_rfl) (by as_aux_lemma => kernel_rfl) (fun _ _ _ h => h) (by rfl) hS ?_ ?_
    rotate_left
    · intro w' hw'; go_simp; with_reducible rfl
    go_simp
    refine H_take (i := 1) (v := ?_) rfl (by as_aux_lemma => kernel_rfl) (by as_aux_lemma => kernel_rfl) (by as_aux_lemma => kernel_rfl) (fun _ _ _ h => h) (by rfl) hS ?_ ?_
    rotate_left
    · intro w' hw'; go_simp; with_reducible rfl
    go_simp
    refine H_take (i := 2) (v := ?_) rfl (by as_aux_lemma => kernel_rfl) (by as_aux_lemma => kernel_rfl) (by as_aux_lemma => kernel_rfl) (fun _ _ _ h => h) (by rfl) hS ?_ ?_
    rotate_left
    · intro w' hw'; go_simp; with_reducible rfl
    go_simp
    refine H_take (i := 3) (v := ?_) rfl (by as_aux_lemma => kernel_rfl) (by as_aux_lemma => kernel_rfl) (by as_aux_lemma => kernel_rfl) (fun _ _ _ h => h) (by rfl) hS ?_ ?_
    rotate_left
    · intro w' hw'; go_simp; with_reducible rfl
    go_simp
    refine H_take (i := 4) (v := ?_) rfl (by as_aux_lemma => kernel_rfl) (by as_aux_lemma => kernel_rfl) (by as_aux_lemma => kernel_rfl) (fun _ _ _ h => h) (by rfl) hS ?_ ?_
    rotate_left
    · intro w' hw'; go_simp; with_reducible rfl
    go_simp
    refine H_take (i := 5) (v := ?_) rfl (by as_aux_lemma => kernel_rfl) (by as_aux_lemma => kernel_rfl) (by as_aux_lemma => kernel_rfl) (fun _ _ _ h => h) (by rfl) hS ?_ ?_
    rotate_left
    · intro w' hw'; go_simp; with_reducible rfl
    go_simp
    refine H_one (i := 6) (by as_aux_lemma => kernel_rfl) rfl (by rfl) ?_
    refine wp_append_run _ _ _ 99 rfl _ _ _ _ rfl rfl e1 ?_
    refine ⟨HS1.out, ?_⟩
    go_simp
    have hS1 := HS1.out
    refine H_take (i := 7) (v := ?_) rfl (by as_aux_lemma => kernel_rfl) (by as_aux_lemma => kernel_rfl) (by as_aux_lemma => kernel_rfl) (fun _ _ _ h => h) (by rfl) hS1 ?_ ?_
    rotate_left
    · intro w' hw'; go_simp; with_reducible rfl
    go_simp
    refine wpAnyH_done (by as_aux_lemma => kernel_rfl) ?_ _
    clear hS hS1 e1
    clear hZ
    have hclr := HCL.out
    go_wp2_with fail
    go_ret
    exact ⟨_, rfl, rfl, H5.out, HON.out⟩
  · have e1 := HAPP.out w.drew rfl ⟨g0, (i + 1) * 5, none⟩ (c0 - (i + 1)) (fun _ => rfl)
    rw [← HW1.out] at e1
    refine wp_region_held (S := fun w' => Only (fun k => k = g0) w w') (by kernel_rfl) ?_
    refine H_take (i := 0) (v := ?_) rfl (by as_aux_lemma => kernel_rfl) (by as_aux_lemma => kernel_rfl) (by as_aux_lemma => kernel_rfl) (fun _ _ _ h => h) (by rfl) hS ?_ ?_
    rotate_left
    · intro w' hw'; go_simp; with_reducible rfl
    go_simp
    refine H_take (i := 1) (v := ?_) rfl (by as_aux_lemma => kernel_rfl) (by as_aux_lemma => kernel_rfl) (by as_aux_lemma => kernel_rfl) (fun _ _ _ h => h) (by rfl) hS ?_ ?_
    rotate_left
    · intro w' hw'; go_simp; with_reducible rfl
    go_simp
    refine H_take (i := 2) (v := ?_) rfl (by as_aux_lemma => kernel_rfl) (by as_aux_lemma => kernel_rfl) (by as_aux_lemma => kernel_rfl) (fun _ _ _ h => h) (by rfl) hS ?_ ?_
    rotate_left
    · intro w' hw'; go_simp; with_reducible rfl
    go_simp
    refine H_take (i := 3) (v := ?_) rfl (by as_aux_lemma => kernel_rfl) (by as_aux_lemma => kernel_rfl) (by as_aux_lemma => kernel_rfl) (fun _ _ _ h => h) (by rfl) hS ?_ ?_
    rotate_left
    · intro w' hw'; go_simp; with_reducible rfl
    go_simp
    refine H_take (i := 4) (v := ?_) rfl (by as_aux_lemma => kernel_rfl) (by as_aux_lemma => kernel_rfl) (by as_aux_lemma => kernel_rfl) (fun _ _ _ h => h) (by rfl) hS ?_ ?_
    rotate_left
    · intro w' hw'; go_simp; with_reducible rfl
    go_simp
    refine H_take (i := 5) (v := ?_) rfl (by as_aux_lemma => kernel_rfl) (by as_aux_lemma => kernel_rfl) (by as_aux_lemma => kernel_rfl) (fun _ _ _ h => h) (by rfl) hS ?_ ?_
    rotate_left
    · intro w' hw'; go_simp; with_reducible rfl
    go_simp
    refine H_one (i := 6) (by as_aux_lemma => kernel_rfl) rfl (by rfl) ?_
    refine wp_append_run _ _ _ 99 rfl _ _ _ _ rfl rfl e1 ?_
    refine ⟨HS1.out, ?_⟩
    go_simp
    have hS1 := HS1.out
    refine H_take (i := 7) (v := ?_) rfl (by as_aux_lemma => kernel_rfl) (by as_aux_lemma => kernel_rfl) (by as_aux_lemma => kernel_rfl) (fun _ _ _ h => h) (by rfl) hS1 ?_ ?_
    rotate_left
    · intro w' hw'; go_simp; with_reducible rfl
    go_simp
    refine wpAnyH_done (by as_aux_lemma => kernel_rfl) ?_ _
    clear hS hS1 e1
    clear hZ
    have hclr := HCL.out
    go_wp2_with fail
    go_ret
    exact ⟨_, rfl, rfl, H5.out, HON.out⟩
end Go.Proofs.YtbcpcopapbgcdaaGreatDoor.M

/- Part: SegDlr. -/
namespace Go.Proofs.YtbcpcopapbgcdaaGreatDoor.M
open Go.RowKit Go.Maps
open D (Fl Dk)

set_option maxRecDepth 20000 in
set_option maxHeartbeats 3200000 in
theorem DeleteRw_any (rv : List (Rw × Value)) (v : Value) (i : Nat) (hi : i ≤ rv.length) (w : World) (hrow : w.ownsRow 0 116 5 v rv.length (rwCells rv)) (hl : rv.length ≤ 1000000) :
    Calls Tryz.prog 146 #[v, .int .i64 (i : Int), .int .i64 (rv.length : Int)] w fun e w' => ∃ u, e = .returned u ∧ u.ownBlock = v.ownBlock ∧ w'.ownsRow 0 116 5 u i (rwCells (rv.take i)) ∧ Only (fun k => v.ownBlock = some k) w w' := by
  obtain ⟨nn, hnn⟩ : ∃ nn, nn = rv.length := ⟨_, rfl⟩
  by_cases hin : i = rv.length
  · have HE : Hid (rwCells (rv.take i) = rwCells rv) := Lib.hid (by rw [hin, List.take_length])
    have HROW := Lib.hid hrow
    obtain ⟨ra, rc, rfl, hrl, hrm⟩ := row5_slice hrow
    rw [← hnn] at hrl hl hin HROW ⊢
    subst hin
    have q1 : (i : Int) ≤ (rc : Int) := by omega
    have q2 : (i : Int) ≤ 1000000 := by omega
    clear hnn hrow hi
    go_enter Tryz.func146, Tryz.ntmps146
    go_wp2_with fail
    go_ret
    refine ⟨_, rfl, rfl, ?_, Only.refl _ _⟩
    rw [HE.out]
    exact HROW.out
  · obtain ⟨g0, c0, rfl, hgz, hlc, hcm, -, hfz⟩ := row5_elem (f := rwV) (fun _ => rfl) hrow i (by omega)
    have hsz : (rwCells rv).length = rv.length * 5 := rwCells_length rv
    obtain ⟨r, hr⟩ : ∃ r, rv.length = i + r := ⟨rv.length - i, by omega⟩
    obtain ⟨ib, hib, hib0, hib1, hib2⟩ := info_parts infoSgRow
    have HAPP : Hid (∀ (a : Addr) (cc : Nat), (Builtin.append_ #[98, 98] 98 #[.slice (some ⟨g0, 0, none⟩) i c0, .slice (some a) 0 cc]).run Tryz.prog w.drew = .ok (.slice (some ⟨g0, 0, none⟩) i c0) w.drew) := Lib.hid fun a cc =>
      run_append_room_cells (P := Tryz.prog) w.drew 98 98 116 ib Tryz.underlying98 hib g0 0 i c0 a 0 cc [] (by simp) (fun j u hj => by simp at hj) (fun u hu => by simp at hu) (by omega) (fun j hj => by simp at hj) (fun j hj => by simp at hj)
    obtain ⟨Z, hZ⟩ : ∃ Z, Z = (Builtin.zeroCells ([.int .i64 0, .int .i64 0, .int .i64 0, .slice none 0 0, .int .i64 0] : List Value).toArray r).toList := ⟨_, rfl⟩
    obtain ⟨h3, h4⟩ := ownsRow_many (w := w.drew) Z (i * 5) (rwCells rv) w.drew (ownsRow_same hrow fun _ _ => rfl)
    have h5 := ownsRow_first h3 (k := i) (by omega)
    have h6 : (putMany (rwCells rv) (i * 5) Z).take (i * 5) = rwCells (rv.take i) := by
      rw [putMany_take _ _ _ _ (Nat.le_refl _)]
      have e : rwCells rv = rwCells (rv.take i) ++ rwCells (rv.drop i) := by rw [← rwCells_app, List.take_append_drop]
      have h2 : (rwCells (rv.take i)).length = i * 5 := by rw [rwCells_length, List.length_take]; congr 1; omega
      rw [e, ← h2, List.take_left]
    rw [h6] at h5
    have hclr := run_clear_any w.drew 98 116 0 _ [.int .i64 0, .int .i64 0, .int .i64 0, .slice none 0 0, .int .i64 0] Tryz.underlying98 zero_sgRow rfl (by decide) g0 (i * 5) r (c0 - i) (by omega)
      (fun t ht => by
        simp only [List.length_cons, List.length_nil] at ht
        have := hrow.cellAt (i * 5 + t) (by omega)
        rw [show w.drew.cell? ⟨g0, i * 5 + t, none⟩ = w.cell? ⟨g0, i * 5 + t, none⟩ from rfl, this, List.getElem?_eq_getElem (by omega)]
        rfl) (fun t ht => hfz _)
    rw [← hZ] at hclr
    rw [← hnn] at hlc hr ⊢
    have q0 : ((i : Int) == (nn : Int)) = false := beq_eq_false_iff_ne.2 (by omega)
    have q5 : ¬ nn = i := by omega
    have q1 : (i : Int) ≤ (nn : Int) := by omega
    have q3 : (nn : Int) ≤ (c0 : Int) := by omega
    have q4 : (nn : Int) ≤ 1000000 := by omega
    have q7 : nn - i = r := by omega
    have q8 : (i : Int) ≤ (c0 : Int) := by omega
    have HCL := Lib.hid hclr
    have H5 := Lib.hid h5
    have HON : Hid (Only (fun k => (Value.slice (some ⟨g0, 0, none⟩) nn c0).ownBlock = some k) w (w.drew.setCells g0 (i * 5) Z)) := Lib.hid (((Only.refl _ w).drawn).then (only_grown h4))
    have hS : Only (fun k => k = g0) w w.drew := (Only.refl _ w).drawn
    clear hrow hsz h3 h4 h5 h6 hclr hib hib0 hib1 hib2 hfz hnn hi hin hZ hr
    go_enter Tryz.func146, Tryz.ntmps146
    go_wp2_with fail
    by_cases hc : c0 = nn
    · have e1 := HAPP.out ⟨g0, 0, none⟩ 0
      subst hc
      refine wp_region_held (S := fun w' => Only (fun k => k = g0) w w') (by kernel_rfl) ?_
      refine H_take (i := 0) (v := ?_) rfl (by as_aux_lemma => kernel_rfl) (by as_aux_lemma => kernel_rfl) (by as_aux_lemma => kernel_rfl) (fun _ _ _ h => h) (by rfl) hS ?_ ?_
      rotate_left
      · intro w' hw'; go_simp; with_reducible rfl
      go_simp
      refine H_take (i := 1) (v := ?_) rfl (by as_aux_lemma => kernel_rfl) (by as_aux_lemma => kernel_rfl) (by as_aux_lemma => kernel_rfl) (fun _ _ _ h => h) (by rfl) hS ?_ ?_
      rotate_left
      · intro w' hw'; go_simp; with_reducible rfl
      go_simp
      refine H_take (i := 2) (v := ?_) rfl (by as_aux_lemma => kernel_rfl) (by as_aux_lemma => kernel_rfl) (by as_aux_lemma => kernel_rfl) (fun _ _ _ h => h) (by rfl) hS ?_ ?_
      rotate_left
      · intro w' hw'; go_simp; with_reducible rfl
      go_simp
      refine H_take (i := 3) (v := ?_) rfl (by as_aux_lemma => kernel_rfl) (by as_aux_lemma => kernel_rfl) (by as_aux_lemma => kernel_rfl) (fun _ _ _ h => h) (by rfl) hS ?_ ?_
      rotate_left
      · intro w' hw'; go_simp; with_reducible rfl
      go_simp
      refine H_take (i := 4) (v := ?_) rfl (by as_aux_lemma => kernel_rfl) (by as_aux_lemma => kernel_rfl) (by as_aux_lemma => kernel_rfl) (fun _ _ _ h => h) (by rfl) hS ?_ ?_
      rotate_left
      · intro w' hw'; go_simp; with_reducible rfl
      go_simp
      refine H_take (i := 5) (v := ?_) rfl (by as_aux_lemma => kernel_rfl) (by as_aux_lemma => kernel_rfl) (by as_aux_lemma => kernel_rfl) (fun _ _ _ h => h) (by rfl) hS ?_ ?_
      rotate_left
      · intro w' hw'; go_simp; with_reducible rfl
      go_simp
      refine H_one (i := 6) (by as_aux_lemma => kernel_rfl) rfl (by rfl) ?_
      refine wp_append_run _ _ _ 98 rfl _ _ _ _ rfl rfl e1 ?_
      refine ⟨hS, ?_⟩
      go_simp
      refine H_take (i := 7) (v := ?_) rfl (by as_aux_lemma => kernel_rfl) (by as_aux_lemma => kernel_rfl) (by as_aux_lemma => kernel_rfl) (fun _ _ _ h => h) (by rfl) hS ?_ ?_
      rotate_left
      · intro w' hw'; go_simp; with_reducible rfl
      go_simp
      refine wpAnyH_done (by as_aux_lemma => kernel_rfl) ?_ _
      clear hS e1
      have hclr := HCL.out
      try simp only [q7] at hclr
      go_wp2_with fail
      go_ret
      exact ⟨_, rfl, rfl, H5.out, HON.out⟩
    · have e1 := HAPP.out ⟨g0, nn * 5, none⟩ (c0 - nn)
      refine wp_region_held (S := fun w' => Only (fun k => k = g0) w w') (by kernel_rfl) ?_
      refine H_take (i := 0) (v := ?_) rfl (by as_aux_lemma => kernel_rfl) (by as_aux_lemma => kernel_rfl) (by as_aux_lemma => kernel_rfl) (fun _ _ _ h => h) (by rfl) hS ?_ ?_
      rotate_left
      · intro w' hw'; go_simp; with_reducible rfl
      go_simp
      refine H_take (i := 1) (v := ?_) rfl (by as_aux_lemma => kernel_rfl) (by as_aux_lemma => kernel_rfl) (by as_aux_lemma => kernel_rfl) (fun _ _ _ h => h) (by rfl) hS ?_ ?_
      rotate_left
      · intro w' hw'; go_simp; with_reducible rfl
      go_simp
      refine H_take (i := 2) (v := ?_) rfl (by as_aux_lemma => kernel_rfl) (by as_aux_lemma => kernel_rfl) (by as_aux_lemma => kernel_rfl) (fun _ _ _ h => h) (by rfl) hS ?_ ?_
      rotate_left
      · intro w' hw'; go_simp; with_reducible rfl
      go_simp
      refine H_take (i := 3) (v := ?_) rfl (by as_aux_lemma => kernel_rfl) (by as_aux_lemma => kernel_rfl) (by as_aux_lemma => kernel_rfl) (fun _ _ _ h => h) (by rfl) hS ?_ ?_
      rotate_left
      · intro w' hw'; go_simp; with_reducible rfl
      go_simp
      refine H_take (i := 4) (v := ?_) rfl (by as_aux_lemma => kernel_rfl) (by as_aux_lemma => kernel_rfl) (by as_aux_lemma => kernel_rfl) (fun _ _ _ h => h) (by rfl) hS ?_ ?_
      rotate_left
      · intro w' hw'; go_simp; with_reducible rfl
      go_simp
      refine H_take (i := 5) (v := ?_) rfl (by as_aux_lemma => kernel_rfl) (by as_aux_lemma => kernel_rfl) (by as_aux_lemma => kernel_rfl) (fun _ _ _ h => h) (by rfl) hS ?_ ?_
      rotate_left
      · intro w' hw'; go_simp; with_reducible rfl
      go_simp
      refine H_one (i := 6) (by as_aux_lemma => kernel_rfl) rfl (by rfl) ?_
      refine wp_append_run _ _ _ 98 rfl _ _ _ _ rfl rfl e1 ?_
      refine ⟨hS, ?_⟩
      go_simp
      refine H_take (i := 7) (v := ?_) rfl (by as_aux_lemma => kernel_rfl) (by as_aux_lemma => kernel_rfl) (by as_aux_lemma => kernel_rfl) (fun _ _ _ h => h) (by rfl) hS ?_ ?_
      rotate_left
      · intro w' hw'; go_simp; with_reducible rfl
      go_simp
      refine wpAnyH_done (by as_aux_lemma => kernel_rfl) ?_ _
      clear hS e1
      have hclr := HCL.out
      try simp only [q7] at hclr
      go_wp2_with fail
      go_ret
      exact ⟨_, rfl, rfl, H5.out, HON.out⟩
end Go.Proofs.YtbcpcopapbgcdaaGreatDoor.M
