/- Package segment: loose, tighten, Sync. Package segment: Last, Term, At. Package segment: At. Package segment: empty. Package segment: fits. Package segment: fits, with rows. Package segment: what stays. Package segment: what a scan reads. Snapshots on a disk, over plain lists: their bytes, their files' names, the newest, a put, a cleaning. Names of snapshots' files, and which snapshot is the newest. What calls on a disk do to its files, one by one. Package shelf: marks, whether there is one, copies. Package shelf: a sum as bytes, a snapshot's form, its bytes. Package shelf: bytes read as a snapshot. Package segment: a row read back, over plain lists and values. Package segment: the Index that a segment's name says. Rows whose cells are stored and cleared in place. Package segment: which rows lie ahead of a mark. Package segment: the rows ahead of a mark are taken away. -/
import Derived.Test.YtamgjlegcegmeaaGreatDoorSD33
import Derived.BigRegion
import Derived.Deep.QuietTactic
import Derived.BigQuiet
import Derived.Test.YtamgjlegcegmeaaGreatDoorSD29
import Derived.Test.YtamgjlegcegmeaaGreatDoorSD23
import Derived.Test.YtamgjlegcegmeaaGreatDoorSD2
import Derived.Test.YtamgjlegcegmeaaGreatDoorSD12
import Derived.Test.YtamgjlegcegmeaaGreatDoorSD27
import Derived.Test.YtamgjlegcegmeaaGreatDoorSD9
import Derived.Shelf.Small.Wraps
import Derived.Lib.SliceRun
/- Part: SegSync. -/
namespace Go.Proofs.YtamgjlegcegmeaaGreatDoor.M
open Go.RowKit Go.Maps
open D (Fl Dk)

theorem infoStrS : (Tryz.prog.info? 9).map (fun i => (i.zero, i.size, i.bytes)) = some (some (.string ⟨#[]⟩), 1, 16) := by kernel_rfl

theorem yields_str {w : World} {s : ByteArray} {t : TypeId} {g : Nat} (hg : g = w.heap.size) : Yields (w.alloc (.cells #[.string s] t)) (.slice (some ⟨g, 0, none⟩) 1 1) 1 1 [.string s] := by
  subst hg
  refine ⟨rfl, fun u hu => ?_, .inr ⟨_, _, rfl, fun j u hj => ?_⟩⟩
  · simp at hu
    rw [hu]; rfl
  · have h := cell_of_row _ w.heap.size j _ t _ (heap_alloc_new w (.cells #[.string s] t))
    rw [addr_add, Nat.zero_add, h]
    simpa using hj

theorem looseNames_succ (fs : List Fi) (k : Nat) (h : k < fs.length) : looseNames (fs.take (k + 1)) = looseNames (fs.take k) ++ (if fs[k].loose then [sgName fs[k].first] else []) := by
  unfold looseNames
  rw [List.take_succ_eq_append_getElem h, List.filter_append, List.map_append]
  cases hb : fs[k].loose <;> simp [hb]

theorem looseNames_len (fs : List Fi) : (looseNames fs).length ≤ fs.length := by
  unfold looseNames
  rw [List.length_map]
  exact List.length_filter_le _ _

set_option maxRecDepth 20000 in
set_option maxHeartbeats 3200000 in
theorem loose_any (X : Nat → Prop) (g gd : Nat) (least : Int) (h : Hd) (w : World) (l : Lg w X g gd least h) (ho : HdOk h) (hP : Hid (Pow10 w)) :
    Calls Tryz.prog 28 #[.pointer (some ⟨g, 0, none⟩)] w fun e w' => ∃ v, e = .returned v ∧ Below w.heap.size w w' ∧ w'.ownsRow w.heap.size 9 1 v (looseNames h.files).length ((looseNames h.files).map .string) := by
  obtain ⟨⟨vr, vf, rv, la⟩, lz⟩ := l
  obtain ⟨c0, c1, c2, c3, c4, c5, c6, cz⟩ := seven_cells la.box
  obtain ⟨fa, fc, rfl, hfl, hfm⟩ := row5_slice la.frow
  have HLA := Lib.hid la
  have HO := Lib.hid ho
  obtain ⟨nf, hnf⟩ : ∃ nf, nf = h.files.length := ⟨_, rfl⟩
  rw [← hnf] at c3 hfl
  have HNF := Lib.hid hnf
  have hfn : nf ≤ 1000000 := by rw [hnf]; exact ho.fl
  clear la ho hnf c0 c1 c2 c4 c5 c6 lz
  go_enter Tryz.func28, Tryz.ntmps28
  go_wp2_with fail
  obtain ⟨w0, hw0⟩ : ∃ w0 : World, w0 = w := ⟨_, rfl⟩
  subst hw0
  go_loopg [3, 5, 11] nf (fun gk v _ i wr => ∃ k : Nat, i = .int .i64 (k : Int) ∧ k + gk = nf ∧ Below w0.heap.size w0 wr ∧ wr.ownsRow w0.heap.size 9 1 v (looseNames (h.files.take k)).length ((looseNames (h.files.take k)).map .string))
  case atStart => exact ⟨0, rfl, by omega, Below.refl _ _, World.ownsRow_nil _ _ _ _⟩
  case round =>
    obtain ⟨k, rfl, hkg, hbw, hrow⟩ := hrel
    have HBW := Lib.hid hbw
    have HROW := Lib.hid hrow
    by_cases hlt : k < nf
    · have hkk : (k : Int) < (nf : Int) := by omega
      have hlt2 : k < h.files.length := by rw [← HNF.out]; exact hlt
      obtain ⟨ga, c, hv, hgz, -, -, hel, -⟩ := row5_elem (f := fiV) (fun _ => rfl) HLA.out.frow k hlt2
      cases hv
      have hga : ga < wr.heap.size := Nat.lt_of_lt_of_le hgz hbw.size
      have e0 := (hbw.cell (p := ⟨ga, k * 5 + 0, none⟩) hgz).trans (hel 0 (by omega))
      have e1 := (hbw.cell (p := ⟨ga, k * 5 + 1, none⟩) hgz).trans (hel 1 (by omega))
      have e2 := (hbw.cell (p := ⟨ga, k * 5 + 2, none⟩) hgz).trans (hel 2 (by omega))
      have e3 := (hbw.cell (p := ⟨ga, k * 5 + 3, none⟩) hgz).trans (hel 3 (by omega))
      have e4 := (hbw.cell (p := ⟨ga, k * 5 + 4, none⟩) hgz).trans (hel 4 (by omega))
      have hsu := looseNames_succ h.files k hlt2
      have hfb := HO.out.fb _ (List.getElem_mem hlt2)
      simp only [fiV, List.getElem?_cons_zero, List.getElem?_cons_succ, Nat.add_zero] at e0 e1 e2 e3 e4
      obtain ⟨f, hf⟩ : ∃ f, f = h.files[k] := ⟨_, rfl⟩
      rw [← hf] at e0 e1 e2 e3 e4 hsu hfb
      obtain ⟨ff, fl, fs, fo, fb⟩ := f
      simp only at e0 e1 e2 e3 e4 hsu hfb
      have HSU := Lib.hid hsu
      have HFB := Lib.hid hfb
      have hlen := looseNames_len (h.files.take k)
      rw [List.length_take] at hlen
      obtain ⟨va, vc, rfl⟩ := owned_slice hrow
      obtain ⟨nk, hnk⟩ : ∃ nk, nk = looseNames (h.files.take k) := ⟨_, rfl⟩
      rw [← hnk] at HROW HSU hlen
      have HNK := Lib.hid hnk
      obtain ⟨mk, hmk⟩ : ∃ mk, mk = nk.length := ⟨_, rfl⟩
      rw [← hnk, ← hmk]
      rw [← hmk] at hlen HROW
      have HMK := Lib.hid hmk
      clear hel hsu hfb hf hnk hmk hrow hbw hlt2
      cases fb with
      | false =>
        go_wp2_with fail
        go_roundg (gk - 1)
        case measure => omega
        case rel =>
          have hsu := HSU.out
          simp only [Bool.false_eq_true, if_false, List.append_nil] at hsu
          refine ⟨k + 1, by go_num, by omega, HBW.out.alloc HBW.out.size _, ?_⟩
          rw [hsu, ← HMK.out]
          exact ownsRow_same HROW.out fun q hq => Below.heap_alloc _ _ _ (HROW.out.lt q hq).2
      | true =>
        go_wp2_with fail
        obtain ⟨W, hW⟩ : ∃ W, W = wr.alloc (.cells #[.int .i64 ff, .int .i64 fl, .int .i64 fs, .int .i64 fo, .bool true] 75) := ⟨_, rfl⟩
        have HBW2 : Hid (Below wr.heap.size wr W) := Lib.hid (by rw [hW]; exact below_alloc _ _)
        rw [← hW]
        clear hW e0 e1 e2 e3 e4
        refine (nameOf_any ff W HFB.out.1.1 HFB.out.1.2 (Lib.hid (hP.out.next (HBW.out.trans (HBW2.out.mono HBW.out.size))))).mono ?_
        rintro e w7 ⟨rfl, hb7⟩
        have HB7 : Hid (Below wr.heap.size wr w7) := Lib.hid (HBW2.out.trans (hb7.mono HBW2.out.size))
        have HZ7 : Hid (w0.heap.size ≤ w7.heap.size) := Lib.hid (Nat.le_trans HBW.out.size HB7.out.size)
        obtain ⟨sn, hsn⟩ : ∃ sn, sn = sgName ff := ⟨_, rfl⟩
        rw [← hsn]
        have HSN := Lib.hid hsn
        clear hb7 hsn
        have HR7 : Hid ((w7.alloc (.cells #[.string sn] 9)).ownsRow w0.heap.size 9 1 (.slice va mk vc) mk (nk.map .string)) := Lib.hid (ownsRow_same HROW.out fun q hq => by
          have hqz := (HROW.out.lt q hq).2
          rw [Below.heap_alloc _ _ _ (by have := HB7.out.size; omega)]
          exact HB7.out.block q hqz)
        obtain ⟨ib, hib, hib0, hib1, hib2⟩ := info_parts infoStrS
        go_wp2_with (at_builtin; refine wpList_append_any _ rfl (.tmp 17) (.tmp 21) 43 rfl w0.heap.size 9 ib (.string ⟨#[]⟩) 1 16 Tryz.underlying43 hib hib0 hib1 hib2 rfl (by decide) (.slice va mk vc) mk (nk.map .string) rfl HR7.out (.slice (some ⟨w7.heap.size, 0, none⟩) 1 1) rfl 1 [.string sn] (yields_str rfl) (by unfold maxLen; omega) (by omega) (by have := HZ7.out; simp; omega) ?_)
        intro v8 w8 happ
        obtain ⟨la8, lc8, rfl⟩ := owned_slice happ.1
        have HB8 : Hid (Below w0.heap.size w0 w8) := Lib.hid (((HBW.out.trans (HB7.out.mono HBW.out.size)).alloc HZ7.out _).grown happ.2.1 (by have := HZ7.out; simp; omega) (fun q hq => (HR7.out.lt q hq).1))
        have HROW8 := Lib.hid happ.1
        clear happ
        go_wp2_with fail
        go_roundg (gk - 1)
        case measure => omega
        case rel =>
          have hsu := HSU.out
          simp only [if_true] at hsu
          refine ⟨k + 1, by go_num, by omega, HB8.out, ?_⟩
          rw [hsu, List.length_append, List.map_append, ← HMK.out, ← HSN.out]
          exact HROW8.out
    · have hkk : ¬ (k : Int) < (nf : Int) := by omega
      obtain rfl : k = nf := by omega
      have e : h.files.take k = h.files := by rw [HNF.out, List.take_length]
      rw [e] at HROW
      clear hlt hrow e
      go_wp2_with fail
      go_ret
      exact ⟨_, rfl, HBW.out, HROW.out⟩

def tightF (f : Fi) : Fi := { f with loose := false }

/-- The first ones are tightened. -/
def tightTo (fs : List Fi) (k : Nat) : List Fi := (fs.take k).map tightF ++ fs.drop k

theorem tightTo_length (fs : List Fi) (k : Nat) : (tightTo fs k).length = fs.length := by
  unfold tightTo
  rw [List.length_append, List.length_map, ← List.length_append, List.take_append_drop]

theorem tightTo_all (fs : List Fi) : tightTo fs fs.length = fs.map tightF := by
  unfold tightTo
  rw [List.take_length, List.drop_length, List.append_nil]

theorem fiCells_append (a b : List Fi) : fiCells (a ++ b) = fiCells a ++ fiCells b := by unfold fiCells; rw [List.flatMap_append]

theorem tightTo_succ (fs : List Fi) (k : Nat) (h : k < fs.length) : fiCells (tightTo fs (k + 1)) = (fiCells (tightTo fs k)).set (k * 5 + 4) (.bool false) := by
  have h1 : fs.drop k = fs[k] :: fs.drop (k + 1) := List.drop_eq_getElem_cons h
  have hl : (fiCells ((fs.take k).map tightF)).length = k * 5 := by rw [fiCells_length, List.length_map, List.length_take, Nat.min_eq_left (by omega)]
  have e1 : fiCells (tightTo fs (k + 1)) = fiCells ((fs.take k).map tightF) ++ (fiV (tightF fs[k]) ++ fiCells (fs.drop (k + 1))) := by
    unfold tightTo
    rw [List.take_succ_eq_append_getElem h, List.map_append, fiCells_append, fiCells_append, List.append_assoc]
    simp [fiCells]
  have e2 : fiCells (tightTo fs k) = fiCells ((fs.take k).map tightF) ++ (fiV fs[k] ++ fiCells (fs.drop (k + 1))) := by
    unfold tightTo
    rw [h1, fiCells_append]
    unfold fiCells
    rw [List.flatMap_cons]
  rw [e1, e2, List.set_append_right _ _ (by omega), hl, show k * 5 + 4 - k * 5 = 4 by omega]
  rfl

theorem heap_seven4 {w : World} {g : Nat} {x0 x1 x2 x3 x4 x5 x6 y : Value} {t : TypeId} (h : w.heap[g]? = some (.cells #[x0, x1, x2, x3, x4, x5, x6] t)) : (w.setCell ⟨g, 4, none⟩ y).heap[g]? = some (.cells #[x0, x1, x2, x3, y, x5, x6] t) := by
  simp [World.setCell, Array.getElem?_modify, h]

/-- Up to where it is synced is stored. -/
theorem LS.setSync {K : Nat → Obj → Prop} {w wr : World} {X Xd : Nat → Prop} {g gd : Nat} {least : Int} {h : Hd} {d : Dk} (l : LS K w X Xd g gd least h d wr) (x : Int) : LS K w X Xd g gd least { h with synced := x } d (wr.setCell ⟨g, 4, none⟩ (.int .i64 x)) := by
  obtain ⟨⟨vr, vf, rv, la⟩, lz⟩ := l.lg
  have ne : ∀ q, q ≠ g → (wr.setCell ⟨g, 4, none⟩ (.int .i64 x)).heap[q]? = wr.heap[q]? := fun q hq => heap_ne hq
  refine l.self ((Only.refl X wr).set (.inl la.fg) _) (fun q hq => .inl hq) ⟨⟨vr, vf, rv, heap_seven4 la.box, la.rows, ownsRow_same la.rrow fun q hq => ne q (la.fr q hq).2.1, ownsRow_same la.frow fun q hq => ne q (la.ff q hq).2, fun p hp => ?_, la.fg, la.fr, la.ff⟩, fun q hq => by rw [World.size_setCell]; exact lz q hq⟩
  obtain ⟨B, h1, h2⟩ := la.bod p hp
  exact ⟨B, h1.same (fun _ h => h) fun q hq => ne q (h2 q hq).2.1, h2⟩

set_option maxRecDepth 20000 in
set_option maxHeartbeats 3200000 in
theorem tighten_any (K : Nat → Obj → Prop) (w wa : World) (X Xd : Nat → Prop) (g gd : Nat) (least : Int) (h : Hd) (d : Dk) (l : LS K w X Xd g gd least h d wa) (ho : HdOk h) :
    Calls Tryz.prog 30 #[.pointer (some ⟨g, 0, none⟩)] wa fun e w' => e = .returned (.tuple #[]) ∧ LS K w X Xd g gd least (tighten h) d w' := by
  obtain ⟨⟨vr, vf, rv, la⟩, lz⟩ := l.lg
  obtain ⟨c0, c1, c2, c3, c4, c5, c6, cz⟩ := seven_cells la.box
  obtain ⟨fa, fc, rfl, hfl, hfm⟩ := row5_slice la.frow
  have HLA := Lib.hid la
  have HL := Lib.hid l
  have HLZ := Lib.hid lz
  obtain ⟨nf, hnf⟩ : ∃ nf, nf = h.files.length := ⟨_, rfl⟩
  rw [← hnf] at c3 hfl
  have HNF := Lib.hid hnf
  have hfn : nf ≤ 1000000 := by rw [hnf]; exact ho.fl
  clear la l ho hnf c0 c1 c2 c4 c5 c6 lz
  go_enter Tryz.func30, Tryz.ntmps30
  go_wp2_with fail
  go_loopg [2, 8] nf (fun gk _ i wr => ∃ k : Nat, i = .int .i64 (k : Int) ∧ k + gk = nf ∧ Only X wa wr ∧ wr.heap.size = wa.heap.size ∧ LgAt wr X g gd least { h with files := tightTo h.files k } vr (.slice fa nf fc) rv)
  case atStart => exact ⟨0, rfl, by omega, Only.refl _ _, rfl, by
    have := HLA.out
    rw [← HNF.out] at this
    exact this⟩
  case round =>
    obtain ⟨k, rfl, hkg, honly, hsz, hla⟩ := hrel
    have HON := Lib.hid honly
    have HLK := Lib.hid hla
    have HSZ := Lib.hid hsz
    by_cases hlt : k < nf
    · have hkk : (k : Int) < (nf : Int) := by omega
      have hlt2 : k < h.files.length := by rw [← HNF.out]; exact hlt
      have d3 := (seven_cells hla.box).2.2.2.1
      have dz := lt_of_heap hla.box
      obtain ⟨ga, c, hv, hgz, -, -, hel, hfz⟩ := row5_elem (f := fiV) (fun _ => rfl) hla.frow k (by show k < (tightTo h.files k).length; rw [tightTo_length]; exact hlt2)
      have hv2 : fa = some ⟨ga, 0, none⟩ := by cases hv; rfl
      subst hv2
      obtain ⟨bb, e4⟩ : ∃ bb, wr.cell? ⟨ga, k * 5 + 4, none⟩ = some (.bool bb) := ⟨_, hel 4 (by omega)⟩
      have f4 := hfz (k * 5 + 4)
      have HGA : Hid (X ga ∧ ga ≠ g ∧ vr.ownBlock ≠ some ga) := Lib.hid ⟨(hla.ff ga rfl).1, (hla.ff ga rfl).2, fun e => (hla.fr ga e).2.2 rfl⟩
      clear hel hfz hla honly hsz hv
      go_wp2_with fail
      go_roundg (gk - 1)
      case measure => omega
      case rel =>
        have hla := HLK.out
        have ne : ∀ q, q ≠ ga → (wr.setCell ⟨ga, k * 5 + 4, none⟩ (.bool false)).heap[q]? = wr.heap[q]? := fun q hq => heap_ne hq
        refine ⟨k + 1, by go_num, by omega, HON.out.set (.inl HGA.out.1) _, by rw [World.size_setCell]; exact HSZ.out, ?_⟩
        have hlt2 : k < h.files.length := by rw [← HNF.out]; exact hlt
        refine ⟨(ne g fun e => HGA.out.2.1 e.symm).trans hla.box, hla.rows, ownsRow_same hla.rrow fun q hq => ne q fun e => HGA.out.2.2 (e ▸ hq), ?_, fun p hp => ?_, hla.fg, hla.fr, hla.ff⟩
        · have hf : wr.ownsRow 0 75 5 (.slice (some ⟨ga, 0, none⟩) nf fc) nf (fiCells (tightTo h.files k)) := by
            have := hla.frow
            simp only [tightTo_length, ← HNF.out] at this
            exact this
          have hs := (hf.stored (k * 5 + 4) (.bool false)).1
          show World.ownsRow _ _ _ _ _ (tightTo h.files (k + 1)).length (fiCells (tightTo h.files (k + 1)))
          rw [tightTo_succ h.files k hlt2, tightTo_length, ← HNF.out]
          exact hs
        · obtain ⟨B, h1, h2⟩ := hla.bod p hp
          exact ⟨B, h1.same (fun _ h => h) fun q hq => ne q fun e => (h2 q hq).2.2.2 (by rw [e]; rfl), h2⟩
    · have hkk : ¬ (k : Int) < (nf : Int) := by omega
      obtain rfl : k = nf := by omega
      have hla2 := hla
      rw [HNF.out, tightTo_all] at hla2
      have HLT : Hid (LS K w X Xd g gd least { h with files := h.files.map tightF } d wr) := Lib.hid (HL.out.self honly (fun q hq => .inl hq) ⟨⟨vr, _, rv, by
        rw [HNF.out, tightTo_all] at hla
        exact hla⟩, fun q hq => by rw [hsz]; exact HLZ.out q hq⟩)
      clear hlt honly hsz hla hla2
      go_wp2_with fail
      refine HLT.out.lg.last_any.mono ?_
      rintro e w9 ⟨rfl, hb9⟩
      have HL9 := Lib.hid (HLT.out.next hb9)
      have hll : ({ h with files := h.files.map tightF } : Hd).last = h.last := rfl
      rw [hll]
      obtain ⟨ll, hl2⟩ : ∃ ll, ll = h.last := ⟨_, rfl⟩
      rw [← hl2]
      have HL2 := Lib.hid hl2
      obtain ⟨l1, l2⟩ := ll
      have hfm := mark_idx l1 l2
      obtain ⟨⟨vr9, vf9, rv9, la9⟩, -⟩ := HL9.out.lg
      have d4 := (seven_cells la9.box).2.2.2.2.1
      have f4 : w9.frozen? ⟨g, 4, none⟩ = false := frozen_of_row _ _ 4 _ _ la9.box
      have dz := lt_of_heap la9.box
      have HFIN : Hid (LS K w X Xd g gd least (tighten h) d (w9.setCell ⟨g, 4, none⟩ (.int .i64 l1))) := Lib.hid (by
        have := HL9.out.setSync l1
        have e : tighten h = { ({ h with files := h.files.map tightF } : Hd) with synced := l1 } := by
          unfold tighten
          rw [← HL2.out]
          rfl
        rw [e]
        exact this)
      clear la9 hl2 hll hb9
      go_wp2_with fail
      go_end0
      exact ⟨rfl, HFIN.out⟩

theorem RepSl.of_row {w : World} {base : Nat} {l : List ByteArray} {v : Value} (h : w.ownsRow base 9 1 v l.length (l.map .string)) : RepSl w (fun b => base ≤ b ∧ b < w.heap.size) l v := by
  obtain ⟨hx, h | ⟨g, cap, cur, hv, hg, hcur, hn, hm, hs, ht⟩⟩ := h
  · obtain ⟨rfl, h2⟩ := h
    rw [List.length_eq_zero_iff] at h2
    exact .inl ⟨h2, Bare.nil⟩
  · refine .inr ⟨g, 0, cap, hv, ⟨hg, lt_of_heap hcur⟩, hn, by unfold maxLen at hm; omega, fun i hi => ?_⟩
    rw [cell_of_row w g (0 + i) _ _ _ hcur]
    have h2 : (cur.toList.take (l.length * 1))[i]? = (l.map Value.string)[i]? := by rw [ht]
    rw [List.getElem?_take, if_pos (by omega), List.getElem?_map, List.getElem?_eq_getElem hi] at h2
    simpa using h2

theorem looseNames_nil {fs : List Fi} (h : (looseNames fs).length = 0) : looseNames fs = [] := List.length_eq_zero_iff.1 h

theorem looseNames_size (fs : List Fi) : ∀ s ∈ looseNames fs, s.size ≤ 9223372036854775807 := by
  intro s hs
  unfold looseNames at hs
  obtain ⟨f, -, rfl⟩ := List.mem_map.1 hs
  have : (sgName f.first).size = 14 := by
    unfold sgName
    show (_ : Array UInt8).size = _
    simp [dg_length]
  omega

set_option maxRecDepth 20000 in
set_option maxHeartbeats 3200000 in
theorem Sync_any (K : Nat → Obj → Prop) (w wa : World) (X Xd : Nat → Prop) (g gd : Nat) (least : Int) (h : Hd) (d : Dk) (l : LS K w X Xd g gd least h d wa) (ho : HdOk h) (hP : Hid (Pow10 w)) :
    Calls Tryz.prog 8 #[.pointer (some ⟨g, 0, none⟩)] wa fun e w' => e = .returned (.int .i64 (syncE h d).1) ∧ ∃ Xd', LS K w X Xd' g gd least (syncE h d).2.1 (syncE h d).2.2 w' := by
  have HL := Lib.hid l
  have HO := Lib.hid ho
  have hloose := loose_any X g gd least h wa l.lg ho (Lib.hid (hP.out.next l.below))
  have HLO := Lib.hid hloose
  clear l ho hloose
  go_enter Tryz.func8, Tryz.ntmps8
  go_wp2_with fail
  refine HLO.out.mono ?_
  rintro e w1 ⟨v, rfl, hb1, hrow⟩
  have HL1 := Lib.hid (HL.out.next hb1)
  have HR1 : Hid (RepSl w1 (fun b => wa.heap.size ≤ b ∧ b < w1.heap.size) (looseNames h.files) v) := Lib.hid (RepSl.of_row hrow)
  obtain ⟨ns, hns⟩ : ∃ ns, ns = looseNames h.files := ⟨_, rfl⟩
  rw [← hns] at HR1 hrow
  have HNS := Lib.hid hns
  obtain ⟨va, vc, rfl⟩ := owned_slice hrow
  obtain ⟨m, hm⟩ : ∃ m, m = ns.length := ⟨_, rfl⟩
  rw [← hm] at HR1 ⊢
  have HM := Lib.hid hm
  clear hb1 hrow hns hm
  by_cases hm0 : m = 0
  · subst hm0
    have HE : Hid (syncE h d = (0, tighten h, d)) := Lib.hid (by
      unfold syncE
      have e0 : looseNames h.files = [] := looseNames_nil (by rw [← HNS.out]; exact HM.out.symm)
      rw [e0]
      rfl)
    go_wp2_with fail
    refine (tighten_any K w w1 X Xd g gd least h d HL1.out HO.out).mono ?_
    rintro e w2 ⟨rfl, h2⟩
    go_wp2_with fail
    go_ret
    rw [HE.out]
    exact ⟨rfl, Xd, h2⟩
  · have hmp : (0 : Int) < (m : Int) := by omega
    obtain ⟨⟨vr5, vf5, rv5, la5⟩, -⟩ := HL1.out.lg
    obtain ⟨d0, d1, d2, d3, d4, d5, d6, dz⟩ := seven_cells la5.box
    clear la5 d0 d1 d2 d3 d4 d6
    have HE : Hid (syncE h d = if (D.sync d ns).1 ≠ 0 then ((D.sync d ns).1, h, (D.sync d ns).2) else (0, tighten h, (D.sync d ns).2)) := Lib.hid (by
      have hne : ns ≠ [] := fun e => by
        have h1 := HM.out
        rw [e] at h1
        exact hm0 h1
      unfold syncE
      simp only [← HNS.out, if_neg hne])
    go_wp2_with fail
    refine (DSync HL1.out.ds ns _ _ (by rw [HNS.out]; exact looseNames_size _) HR1.out (fun q hq => ⟨hq.2, fun hx => by have := HL.out.ds.lt q hx; omega⟩)).mono ?_
    intro e w2 hp
    obtain ⟨rfl, Xd', h2⟩ := HL1.out.disk hp
    have HL2 := Lib.hid h2
    obtain ⟨r, hr⟩ : ∃ r, r = D.sync d ns := ⟨_, rfl⟩
    rw [← hr] at HL2 HE ⊢
    obtain ⟨r1, rd⟩ := r
    simp only at HL2 HE ⊢
    clear hp h2 hr d5 dz
    by_cases hr0 : r1 = 0
    · subst hr0
      have HE2 : Hid (syncE h d = (0, tighten h, rd)) := Lib.hid (by rw [HE.out]; rfl)
      go_wp2_with fail
      refine (tighten_any K w w2 X Xd' g gd least h rd HL2.out HO.out).mono ?_
      rintro e w3 ⟨rfl, h3⟩
      go_wp2_with fail
      go_ret
      rw [HE2.out]
      exact ⟨rfl, Xd', h3⟩
    · have q : (r1 != 0) = true := by simpa using hr0
      have HE2 : Hid (syncE h d = (r1, h, rd)) := Lib.hid (by rw [HE.out, if_pos hr0])
      go_wp2_with fail
      go_ret
      rw [HE2.out]
      exact ⟨rfl, Xd', HL2.out⟩
end Go.Proofs.YtamgjlegcegmeaaGreatDoor.M

/- Part: SegGet. -/
namespace Go.Proofs.YtamgjlegcegmeaaGreatDoor.M
open Go.RowKit Go.Maps
open D (Fl Dk)

/-- Entries without a gap. -/
def Hd.Seq (h : Hd) : Prop := ∀ (i : Nat) (hi : i < h.rows.length), h.rows[i].e.idx = h.mi + 1 + i

theorem Hd.Seq.last {h : Hd} (s : h.Seq) : h.last.1 = h.mi + h.rows.length := by
  unfold Hd.last
  cases hl : h.rows.getLast? with
  | none =>
    rw [List.getLast?_eq_none_iff] at hl
    simp [hl]
  | some r =>
    rw [List.getLast?_eq_getElem?] at hl
    obtain ⟨hlt, hr⟩ := List.getElem?_eq_some_iff.1 hl
    have := s _ hlt
    rw [hr] at this
    simp only
    omega

/-- The row of an index. -/
def Hd.row? (h : Hd) (ix : Int) : Option Rw := if ix ≤ h.mi then none else h.rows[(ix - h.mi - 1).toNat]?

def termAt (h : Hd) (ix : Int) : Int × Bool := if ix = h.mi then (h.mt, true) else match h.row? ix with
  | none => (0, false)
  | some r => (r.e.term, true)

theorem place_row {h : Hd} (s : h.Seq) (ix : Int) : (ix ≤ h.mi ∨ h.last.1 < ix) ↔ h.row? ix = none := by
  unfold Hd.row?
  rw [s.last]
  by_cases h1 : ix ≤ h.mi
  · simp [h1]
  · rw [if_neg h1, List.getElem?_eq_none_iff]
    constructor
    · intro h2; omega
    · intro h2; omega

theorem row_some {h : Hd} {ix : Int} {r : Rw} (hr : h.row? ix = some r) : ¬ ix ≤ h.mi ∧ ∃ (i : Nat) (hi : i < h.rows.length), (i : Int) = ix - h.mi - 1 ∧ h.rows[i] = r := by
  unfold Hd.row? at hr
  by_cases h1 : ix ≤ h.mi
  · rw [if_pos h1] at hr; cases hr
  · rw [if_neg h1] at hr
    obtain ⟨hi, e⟩ := List.getElem?_eq_some_iff.1 hr
    exact ⟨h1, _, hi, by omega, e⟩

set_option maxRecDepth 20000 in
theorem LogLast_any (X : Nat → Prop) (g gd : Nat) (least : Int) (h : Hd) (w : World) (l : Lg w X g gd least h) :
    Calls Tryz.prog 18 #[.pointer (some ⟨g, 0, none⟩)] w fun e w' => e = .returned (.agg #[.int .i64 h.last.1, .int .i64 h.last.2]) ∧ Below w.heap.size w w' := by
  obtain ⟨W, hW⟩ : ∃ W, W = w.alloc (.cells #[.int .i64 0, .int .i64 0] 32) := ⟨_, rfl⟩
  have hb : Below w.heap.size w W := by rw [hW]; exact below_alloc _ _
  have hbox : W.heap[w.heap.size]? = some (.cells #[.int .i64 0, .int .i64 0] 32) := by rw [hW]; exact heap_new _ _ _ rfl
  have HL := Lib.hid (l.next hb).last_any
  have HB := Lib.hid hb
  have HX := Lib.hid hbox
  have HW := Lib.hid hW
  clear l hb hbox hW
  go_enter Tryz.func18, Tryz.ntmps18
  go_wp2_with fail
  rw [← HW.out]
  refine HL.out.mono ?_
  rintro e w1 ⟨rfl, hb1⟩
  obtain ⟨b0, b1, f0, f1, bz⟩ := block2 (old_below HX.out hb1)
  have HB1 := Lib.hid (HB.out.trans (hb1.mono HB.out.size))
  obtain ⟨⟨l1, l2⟩, hl⟩ : ∃ ll, ll = h.last := ⟨_, rfl⟩
  rw [← hl]
  have HLL := Lib.hid hl
  clear hl hb1
  go_wp2_with fail
  refine bodyPost_ret (v := .agg #[.int .i64 l1, .int .i64 l2]) (by simp [results, Tryz.results18, go_sem, b0, b1, f0, f1, bz]) rfl ?_
  rw [← HLL.out]
  exact ⟨rfl, (HB1.out.setCell (by simp) _).setCell (by simp) _⟩

set_option maxRecDepth 20000 in
set_option maxHeartbeats 3200000 in
theorem Term_any (X : Nat → Prop) (g gd : Nat) (least : Int) (h : Hd) (ix : Int) (w : World) (l : Lg w X g gd least h) (ho : HdOk h) (hs : h.Seq) :
    Calls Tryz.prog 17 #[.pointer (some ⟨g, 0, none⟩), .int .i64 ix] w fun e w' => e = .returned (.tuple #[.int .i64 (termAt h ix).1, .bool (termAt h ix).2]) ∧ Below w.heap.size w w' := by
  have HPL := Lib.hid (l.place_any ho ix)
  obtain ⟨⟨vr, vf, rv, la⟩, lz⟩ := l
  obtain ⟨c0, c1, c2, c3, c4, c5, c6, cz⟩ := seven_cells la.box
  obtain ⟨ra, rc, rfl, hrl, hrm⟩ := row5_slice la.rrow
  have HLA := Lib.hid la
  have HS := Lib.hid hs
  have hm := ho.m
  have hrn : rv.length ≤ 1000000 := by
    have h1 := ho.rl
    rw [← la.rows, List.length_map] at h1
    exact h1
  have HRL := Lib.hid la.rows
  obtain ⟨nr, hnr⟩ : ∃ nr, nr = rv.length := ⟨_, rfl⟩
  rw [← hnr] at c2 hrl hrn
  have HNR := Lib.hid hnr
  obtain ⟨T, hT⟩ : ∃ T, T = termAt h ix := ⟨_, rfl⟩
  rw [← hT]
  have HT := Lib.hid hT
  have HC2 := Lib.hid c2
  have HCZ := Lib.hid cz
  clear la ho hs c3 c4 c5 c6 lz hnr hT
  obtain ⟨mi, hmi⟩ : ∃ mi, mi = h.mi := ⟨_, rfl⟩
  obtain ⟨mt, hmt⟩ : ∃ mt, mt = h.mt := ⟨_, rfl⟩
  have HMI := Lib.hid hmi
  have HMT := Lib.hid hmt
  rw [← hmi] at c0 hm
  rw [← hmt] at c1 hm
  by_cases h1 : ix = mi
  · have q : (ix == mi) = true := by simpa using h1
    have HE : Hid (T = (mt, true)) := Lib.hid (by rw [HT.out]; unfold termAt; rw [if_pos (by rw [← hmi]; exact h1), ← hmt])
    clear hmi hmt h1
    go_enter Tryz.func17, Tryz.ntmps17
    go_wp2_with fail
    go_ret2
    rw [HE.out]
    exact ⟨rfl, Below.refl _ _⟩
  · have q : (ix == mi) = false := beq_eq_false_iff_ne.2 h1
    cases hrow : h.row? ix with
    | none =>
      have HE : Hid (T = (0, false)) := Lib.hid (by rw [HT.out]; unfold termAt; rw [if_neg (by rw [← hmi]; exact h1), hrow])
      have HP2 : Hid (Calls Tryz.prog 34 #[.pointer (some ⟨g, 0, none⟩), .int .i64 ix] w fun e w' => e = .returned (.tuple #[.int .i64 0, .bool false]) ∧ Below w.heap.size w w') := Lib.hid (by
        have := HPL.out
        rw [if_pos ((place_row HS.out ix).2 hrow)] at this
        exact this)
      clear hmi hmt h1 hrow HPL
      go_enter Tryz.func17, Tryz.ntmps17
      go_wp2_with fail
      refine HP2.out.mono ?_
      rintro e w1 ⟨rfl, hb1⟩
      have HB1 := Lib.hid hb1
      clear hb1
      go_wp2_with fail
      go_ret2
      rw [HE.out]
      exact ⟨rfl, HB1.out⟩
    | some r =>
      obtain ⟨h2, i, hi, hie, hir⟩ := row_some hrow
      have HE : Hid (T = (r.e.term, true)) := Lib.hid (by rw [HT.out]; unfold termAt; rw [if_neg (by rw [← hmi]; exact h1), hrow])
      have HP2 : Hid (Calls Tryz.prog 34 #[.pointer (some ⟨g, 0, none⟩), .int .i64 ix] w fun e w' => e = .returned (.tuple #[.int .i64 (i : Int), .bool true]) ∧ Below w.heap.size w w') := Lib.hid (by
        have := HPL.out
        rw [if_neg (by rw [place_row HS.out ix, hrow]; simp), ← hie] at this
        exact this)
      have hrl2 : i < rv.length := by rw [← HRL.out, List.length_map] at hi; exact hi
      obtain ⟨ga, c, hv, hgz, -, -, hel, -⟩ := row5_elem (f := rwV) (fun _ => rfl) HLA.out.rrow i hrl2
      have hra : ra = some ⟨ga, 0, none⟩ := by cases hv; rfl
      subst hra
      have e1 : w.cell? ⟨ga, i * 5 + 1, none⟩ = some (.int .i64 r.e.term) := by
        have e := hel 1 (by omega)
        have hrr : rv[i].1 = r := by
          have : (rv.map (·.1))[i]? = some r := by rw [HRL.out, List.getElem?_eq_getElem hi, hir]
          rw [List.getElem?_map, List.getElem?_eq_getElem hrl2] at this
          simpa using this
        simp only [rwV, hrr, List.getElem?_cons_succ, List.getElem?_cons_zero] at e
        exact e
      have hin : (i : Int) < (nr : Int) := by have := HNR.out; omega
      have HE1 := Lib.hid e1
      have HGZ := Lib.hid hgz
      clear hmi hmt h1 hrow HPL hel hv hir hi hie h2 hrl2 e1 c2
      go_enter Tryz.func17, Tryz.ntmps17
      go_wp2_with fail
      refine HP2.out.mono ?_
      rintro e w1 ⟨rfl, hb1⟩
      have HB1 := Lib.hid hb1
      have k2 := (hb1.cell (p := ⟨g, 2, none⟩) HCZ.out).trans HC2.out
      have k1 := (hb1.cell (p := ⟨ga, i * 5 + 1, none⟩) HGZ.out).trans HE1.out
      have kz := Nat.lt_of_lt_of_le HCZ.out hb1.size
      clear hb1
      go_wp2_with fail
      go_ret2
      rw [HE.out]
      exact ⟨rfl, HB1.out⟩
end Go.Proofs.YtamgjlegcegmeaaGreatDoor.M

/- Part: SegAt. -/
namespace Go.Proofs.YtamgjlegcegmeaaGreatDoor.M
open Go.RowKit Go.Maps
open D (Fl Dk)

/-- The entry at an index. -/
def entryAt (h : Hd) (ix : Int) : En × Bool := match h.row? ix with
  | none => (⟨0, 0, 0, []⟩, false)
  | some r => (r.e, true)

set_option maxRecDepth 20000 in
set_option maxHeartbeats 3200000 in
theorem LogAt_any (X : Nat → Prop) (g gd : Nat) (least : Int) (h : Hd) (ix : Int) (w : World) (l : Lg w X g gd least h) (ho : HdOk h) (hs : h.Seq) :
    Calls Tryz.prog 16 #[.pointer (some ⟨g, 0, none⟩), .int .i64 ix] w fun e w' => ∃ v, e = .returned (.tuple #[enAgg (entryAt h ix).1 v, .bool (entryAt h ix).2]) ∧ Own w (entryAt h ix).1.b v w' := by
  obtain ⟨W, hW⟩ : ∃ W, W = w.alloc (.cells #[.int .i64 0, .int .i64 0, .int .i64 0, .slice none 0 0] 36) := ⟨_, rfl⟩
  have hb0 : Below w.heap.size w W := by rw [hW]; exact below_alloc _ _
  have HX0 : Hid (W.heap[w.heap.size]? = some (.cells #[.int .i64 0, .int .i64 0, .int .i64 0, .slice none 0 0] 36)) := Lib.hid (by rw [hW]; exact heap_new _ _ _ rfl)
  have HZ : Hid (w.heap.size + 1 = W.heap.size) := Lib.hid (by rw [hW]; simp)
  have HB0 := Lib.hid hb0
  have HW := Lib.hid hW
  have l0 := l.next hb0
  clear hW l hb0
  have HPL := Lib.hid (l0.place_any ho ix)
  have HRB := Lib.hid ho.rb
  have HLT := Lib.hid l0.2
  obtain ⟨⟨vr, vf, rv, la⟩, lz⟩ := l0
  obtain ⟨c0, c1, c2, c3, c4, c5, c6, cz⟩ := seven_cells la.box
  obtain ⟨ra, rc, rfl, hrl, hrm⟩ := row5_slice la.rrow
  have HLA := Lib.hid la
  have HS := Lib.hid hs
  have hrn : rv.length ≤ 1000000 := by
    have h1 := ho.rl
    rw [← la.rows, List.length_map] at h1
    exact h1
  have HRL := Lib.hid la.rows
  obtain ⟨nr, hnr⟩ : ∃ nr, nr = rv.length := ⟨_, rfl⟩
  rw [← hnr] at c2 hrl hrn
  have HNR := Lib.hid hnr
  obtain ⟨T, hT⟩ : ∃ T, T = entryAt h ix := ⟨_, rfl⟩
  rw [← hT]
  have HT := Lib.hid hT
  have HC2 := Lib.hid c2
  have HCZ := Lib.hid cz
  clear la ho hs c0 c1 c3 c4 c5 c6 lz hnr hT
  cases hrow : h.row? ix with
  | none =>
    have HE : Hid (T = (⟨0, 0, 0, []⟩, false)) := Lib.hid (by rw [HT.out]; unfold entryAt; rw [hrow])
    have HP2 : Hid (Calls Tryz.prog 34 #[.pointer (some ⟨g, 0, none⟩), .int .i64 ix] W fun e w' => e = .returned (.tuple #[.int .i64 0, .bool false]) ∧ Below W.heap.size W w') := Lib.hid (by
      have := HPL.out
      rw [if_pos ((place_row HS.out ix).2 hrow)] at this
      exact this)
    clear hrow HPL
    go_enter Tryz.func16, Tryz.ntmps16
    go_wp2_with fail
    rw [← HW.out]
    refine HP2.out.mono ?_
    rintro e w1 ⟨rfl, hb1⟩
    have HB1 := Lib.hid (HB0.out.trans (hb1.mono HB0.out.size))
    have k1 := old_below HX0.out hb1
    obtain ⟨d0, d1, d2, d3, dz⟩ : w1.cell? ⟨w.heap.size, 0, none⟩ = some (.int .i64 0) ∧ w1.cell? ⟨w.heap.size, 1, none⟩ = some (.int .i64 0) ∧ w1.cell? ⟨w.heap.size, 2, none⟩ = some (.int .i64 0) ∧ w1.cell? ⟨w.heap.size, 3, none⟩ = some (.slice none 0 0) ∧ w.heap.size < w1.heap.size :=
      ⟨cell_of_row _ _ 0 _ _ _ k1, cell_of_row _ _ 1 _ _ _ k1, cell_of_row _ _ 2 _ _ _ k1, cell_of_row _ _ 3 _ _ _ k1, lt_of_heap k1⟩
    have fd : ∀ j, w1.frozen? ⟨w.heap.size, j, none⟩ = false := fun j => frozen_of_row _ _ j _ _ k1
    have fd0 := fd 0
    have fd1 := fd 1
    have fd2 := fd 2
    have fd3 := fd 3
    clear hb1 k1 fd
    go_wp2_with fail
    refine bodyPost_ret (v := .tuple #[.agg #[.int .i64 0, .int .i64 0, .int .i64 0, .slice none 0 0], .bool false]) (by simp [results, Tryz.results16, go_sem, d0, d1, d2, d3, dz]) rfl ?_
    rw [HE.out]
    exact ⟨_, rfl, Own.bare ((((HB1.out.setCell (by simp) _).setCell (by simp) _).setCell (by simp) _).setCell (by simp) _)⟩
  | some r =>
    obtain ⟨h2, i, hi, hie, hir⟩ := row_some hrow
    have HE : Hid (T = (r.e, true)) := Lib.hid (by rw [HT.out]; unfold entryAt; rw [hrow])
    have HP2 : Hid (Calls Tryz.prog 34 #[.pointer (some ⟨g, 0, none⟩), .int .i64 ix] W fun e w' => e = .returned (.tuple #[.int .i64 (i : Int), .bool true]) ∧ Below W.heap.size W w') := Lib.hid (by
      have := HPL.out
      rw [if_neg (by rw [place_row HS.out ix, hrow]; simp), ← hie] at this
      exact this)
    have hbl := (HRB.out r (by rw [← hir]; exact List.getElem_mem hi)).2.2.2
    have hrl2 : i < rv.length := by rw [← HRL.out, List.length_map] at hi; exact hi
    obtain ⟨ga, c, hv, hgz, -, -, hel, -⟩ := row5_elem (f := rwV) (fun _ => rfl) HLA.out.rrow i hrl2
    have hra : ra = some ⟨ga, 0, none⟩ := by cases hv; rfl
    subst hra
    have hrr : rv[i].1 = r := by
      have : (rv.map (·.1))[i]? = some r := by rw [HRL.out, List.getElem?_eq_getElem hi, hir]
      rw [List.getElem?_map, List.getElem?_eq_getElem hrl2] at this
      simpa using this
    have e0 := hel 0 (by omega)
    have e1 := hel 1 (by omega)
    have e2 := hel 2 (by omega)
    have e3 := hel 3 (by omega)
    obtain ⟨B, hB1, hB2⟩ := HLA.out.bod rv[i] (List.getElem_mem hrl2)
    simp only [rwV, hrr, List.getElem?_cons_succ, List.getElem?_cons_zero, Nat.add_zero] at e0 e1 e2 e3
    rw [hrr] at hB1
    obtain ⟨pv, hpv⟩ : ∃ pv, pv = rv[i].2 := ⟨_, rfl⟩
    rw [← hpv] at hB1 e3
    have hBz : ∀ k, B k → k < W.heap.size := fun k hk => HLT.out k (hB2 k hk).1
    obtain ⟨⟨xi, xt, xk, xb⟩, po⟩ := r
    simp only at hB1 e0 e1 e2 e3 hbl HE
    have HBL := Lib.hid hbl
    have HRB1 := Lib.hid hB1
    have HBZ := Lib.hid hBz
    obtain ⟨pa, pc, hpv2, hpl⟩ := hB1.slice
    obtain ⟨n, hn⟩ : ∃ n, n = xb.length := ⟨_, rfl⟩
    rw [← hn] at hpv2 hpl
    have HN := Lib.hid hn
    have HPV := Lib.hid hpv2
    have hin : (i : Int) < (nr : Int) := by have := HNR.out; omega
    have HE0 := Lib.hid e0
    have HE1 := Lib.hid e1
    have HE2 := Lib.hid e2
    have HE3 := Lib.hid (hpv2 ▸ e3)
    have HGZ := Lib.hid hgz
    clear hrow HPL hel hv hir hi hie h2 hrl2 e0 e1 e2 e3 c2 hrr hB1 hB2 hBz hpv hpv2 hn hbl hgz
    go_enter Tryz.func16, Tryz.ntmps16
    go_wp2_with fail
    rw [← HW.out]
    refine HP2.out.mono ?_
    rintro e w1 ⟨rfl, hb1⟩
    have HB1 := Lib.hid hb1
    have k2 := (hb1.cell (p := ⟨g, 2, none⟩) HCZ.out).trans HC2.out
    have kz := Nat.lt_of_lt_of_le HCZ.out hb1.size
    have a0 := (hb1.cell (p := ⟨ga, i * 5 + 0, none⟩) HGZ.out).trans HE0.out
    have a1 := (hb1.cell (p := ⟨ga, i * 5 + 1, none⟩) HGZ.out).trans HE1.out
    have a2 := (hb1.cell (p := ⟨ga, i * 5 + 2, none⟩) HGZ.out).trans HE2.out
    have a3 := (hb1.cell (p := ⟨ga, i * 5 + 3, none⟩) HGZ.out).trans HE3.out
    have az := Nat.lt_of_lt_of_le HGZ.out hb1.size
    simp only [Nat.add_zero] at a0
    have HV1 : Hid (RepB w1 B xb (.slice pa n pc) ∧ ∀ k, B k → k < w1.heap.size) := Lib.hid ⟨by
      have := HRB1.out
      rw [HPV.out] at this
      exact this.same (fun _ h => h) fun j hj => HB1.out.block j (HBZ.out j hj), fun k hk => Nat.lt_of_lt_of_le (HBZ.out k hk) HB1.out.size⟩
    clear hb1
    go_wp2_with fail
    refine (copied_any ⟨xi, xt, xk, xb⟩ _ B _ HV1.out.1 HV1.out.2 (by have := HBL.out; show xb.length ≤ _; omega)).mono ?_
    rintro e w2 ⟨u, rfl, ho2⟩
    obtain ⟨ua, uc, rfl⟩ := ho2.slice
    have ho3 := ho2.base (HB0.out.trans (HB1.out.mono HB0.out.size))
    unfold enAgg
    simp only at ho2 ho3 ⊢
    rw [← HN.out] at ho2 ho3 ⊢
    have HO2 := Lib.hid ho2
    have HO3 := Lib.hid ho3
    have k1 := old_below (old_below HX0.out HB1.out) ho2.1
    obtain ⟨d0, d1, d2, d3, dz⟩ : w2.cell? ⟨w.heap.size, 0, none⟩ = some (.int .i64 0) ∧ w2.cell? ⟨w.heap.size, 1, none⟩ = some (.int .i64 0) ∧ w2.cell? ⟨w.heap.size, 2, none⟩ = some (.int .i64 0) ∧ w2.cell? ⟨w.heap.size, 3, none⟩ = some (.slice none 0 0) ∧ w.heap.size < w2.heap.size :=
      ⟨cell_of_row _ _ 0 _ _ _ k1, cell_of_row _ _ 1 _ _ _ k1, cell_of_row _ _ 2 _ _ _ k1, cell_of_row _ _ 3 _ _ _ k1, lt_of_heap k1⟩
    have fd : ∀ j, w2.frozen? ⟨w.heap.size, j, none⟩ = false := fun j => frozen_of_row _ _ j _ _ k1
    have fd0 := fd 0
    have fd1 := fd 1
    have fd2 := fd 2
    have fd3 := fd 3
    clear ho2 ho3 k1 fd
    go_wp2_with fail
    refine bodyPost_ret (v := .tuple #[.agg #[.int .i64 xi, .int .i64 xt, .int .i64 xk, .slice ua n uc], .bool true]) (by simp [results, Tryz.results16, go_sem, d0, d1, d2, d3, dz]) rfl ?_
    rw [HE.out]
    refine ⟨_, rfl, ?_⟩
    have hne : (Value.slice ua n uc).ownBlock ≠ some w.heap.size := fun e => by
      have := (HO2.out.2.lt _ e).1
      have := HZ.out
      have := HB1.out.size
      omega
    exact (((HO3.out.far (Nat.le_refl _) hne _).far (Nat.le_refl _) hne _).far (Nat.le_refl _) hne _).far (Nat.le_refl _) hne _
end Go.Proofs.YtamgjlegcegmeaaGreatDoor.M

/- Part: SegEmp. -/
namespace Go.Proofs.YtamgjlegcegmeaaGreatDoor.M
open Go.RowKit Go.Maps
open D (Fl Dk)

def emptied (h : Hd) (mi mt : Int) : Hd := { h with rows := [], mi := mi, mt := mt, synced := mi }

/-- The log without entries, behind a mark. -/
theorem LS.setEmpty {K : Nat → Obj → Prop} {w wr w' : World} {X Xd : Nat → Prop} {g gd : Nat} {least : Int} {h : Hd} {d : Dk} (l : LS K w X Xd g gd least h d wr) (mi mt : Int) {vr vf : Value} {rv : List (Rw × Value)} (la : LgAt wr X g gd least h vr vf rv) (ho : Only (fun k => k = g) wr w') (hz : w'.heap.size = wr.heap.size)
    (hbox : w'.heap[g]? = some (.cells #[.int .i64 mi, .int .i64 mt, .slice none 0 0, vf, .int .i64 mi, .pointer (some ⟨gd, 0, none⟩), .int .i64 least] 63)) : LS K w X Xd g gd least (emptied h mi mt) d w' := by
  have lz := l.lg.2
  refine l.self (ho.mono fun k hk => by rw [hk]; exact la.fg) (fun q hq => .inl hq) ⟨⟨.slice none 0 0, vf, [], hbox, rfl, World.ownsRow_nil _ _ _ _, ownsRow_same la.frow fun q hq => ho.block q (lz q (la.ff q hq).1) (la.ff q hq).2, fun p hp => (List.not_mem_nil hp).elim, la.fg, fun k hk => ?_, la.ff⟩, fun q hq => by rw [hz]; exact lz q hq⟩
  cases hk

theorem heap_sevenE {w : World} {g : Nat} {x0 x1 x2 x3 x4 x5 x6 y0 y1 y2 y4 : Value} {t : TypeId} (h : w.heap[g]? = some (.cells #[x0, x1, x2, x3, x4, x5, x6] t)) :
    ((((w.setCell ⟨g, 2, none⟩ y2).setCell ⟨g, 0, none⟩ y0).setCell ⟨g, 1, none⟩ y1).setCell ⟨g, 4, none⟩ y4).heap[g]? = some (.cells #[y0, y1, y2, x3, y4, x5, x6] t) := by
  simp [World.setCell, Array.getElem?_modify, h]

set_option maxRecDepth 20000 in
set_option maxHeartbeats 3200000 in
theorem empty_any (K : Nat → Obj → Prop) (w wa : World) (X Xd : Nat → Prop) (g gd : Nat) (least : Int) (h : Hd) (d : Dk) (l : LS K w X Xd g gd least h d wa) (mi mt : Int) :
    Calls Tryz.prog 47 #[.pointer (some ⟨g, 0, none⟩), .agg #[.int .i64 mi, .int .i64 mt]] wa fun e w' => e = .returned (.tuple #[]) ∧ LS K w X Xd g gd least (emptied h mi mt) d w' := by
  obtain ⟨W, hW⟩ : ∃ W, W = wa.alloc (.cells #[.int .i64 mi, .int .i64 mt] 32) := ⟨_, rfl⟩
  have hb0 : Below wa.heap.size wa W := by rw [hW]; exact below_alloc _ _
  have hx0 : W.heap[wa.heap.size]? = some (.cells #[.int .i64 mi, .int .i64 mt] 32) := by rw [hW]; exact heap_new _ _ _ rfl
  have hga := lt_of_heap l.lg.1.choose_spec.choose_spec.choose_spec.box
  have l0 := l.next hb0
  obtain ⟨gb, hgb⟩ : ∃ gb, gb = wa.heap.size := ⟨_, rfl⟩
  rw [← hgb] at hx0
  have HW := Lib.hid hW
  have HGB := Lib.hid hgb
  obtain ⟨⟨vr, vf, rv, la⟩, lz⟩ := l0.lg
  have HLA := Lib.hid la
  have HL := Lib.hid l0
  have HX := Lib.hid hx0
  obtain ⟨c0, c1, c2, c3, c4, c5, c6, cz⟩ := seven_cells la.box
  obtain ⟨b0, b1, f0, f1, bz⟩ := block2 hx0
  have fd : ∀ j, W.frozen? ⟨g, j, none⟩ = false := fun j => frozen_of_row _ _ j _ _ la.box
  have k0 := fd 0
  have k1 := fd 1
  have k2 := fd 2
  have k4 := fd 4
  have hne : g ≠ gb := by omega
  have hne2 : gb ≠ g := by omega
  clear l0 l la lz hx0 hW hgb hb0 fd hga
  go_enter Tryz.func47, Tryz.ntmps47
  go_wp2_with fail
  rw [← HW.out]
  rw [← HGB.out]
  go_region
  go_wp2_with fail
  go_end0
  exact ⟨rfl, HL.out.setEmpty mi mt HLA.out (Only.drawn (Only.set (g := g) (Only.set (g := g) (Only.set (g := g) (Only.set (g := g) (Only.refl (fun k => k = g) W) (.inl rfl) _) (.inl rfl) _) (.inl rfl) _) (.inl rfl) _)) (by show (World.heap (World.setCell _ _ _)).size = _; simp) (heap_sevenE HLA.out.box)⟩
end Go.Proofs.YtamgjlegcegmeaaGreatDoor.M

/- Part: SegFit. -/
namespace Go.Proofs.YtamgjlegcegmeaaGreatDoor.M
open Go.RowKit Go.Maps
open D (Fl Dk)

theorem _root_.Go.RowKit.Below.drewMany {n : Nat} {w w' : World} (h : Below n w w') (k : Nat) : Below n w (w'.drewN k) := ⟨h.os, h.tape, h.output, h.size, h.block⟩

/-- Does what was scanned fit a mark? -/
def fitsE (h : Hd) (mi mt : Int) : Bool := match h.rows with
  | [] => match h.files with
    | [] => false
    | f :: _ => f.hollow && decide (f.first = mi + 1)
  | r :: _ => if r.e.idx = mi + 1 then decide (mt ≤ r.e.term) else if mi - r.e.idx < 0 then false else match h.rows[(mi - r.e.idx).toNat]? with
    | none => false
    | some q => decide (q.e.term = mt)

set_option maxRecDepth 20000 in
set_option maxHeartbeats 3200000 in
theorem fits_none (X : Nat → Prop) (g gd : Nat) (least : Int) (h : Hd) (w : World) (l : Lg w X g gd least h) (hr : h.rows = []) (hf : h.files = []) (mi mt : Int) :
    Calls Tryz.prog 46 #[.pointer (some ⟨g, 0, none⟩), .agg #[.int .i64 mi, .int .i64 mt]] w fun e w' => e = .returned (.bool false) ∧ Below w.heap.size w w' := by
  obtain ⟨⟨vr, vf, rv, la⟩, lz⟩ := l
  obtain ⟨c0, c1, c2, c3, c4, c5, c6, cz⟩ := seven_cells la.box
  have hl : rv.length = 0 := by
    have := la.rows
    rw [hr] at this
    rw [← List.length_map (f := (·.1)), this]; rfl
  obtain ⟨ra, rc, rfl, -, -⟩ := row5_slice la.rrow
  obtain ⟨fa, fc, rfl, -, -⟩ := row5_slice la.frow
  rw [hl] at c2
  rw [hf, List.length_nil] at c3
  clear la lz c0 c1 c4 c5 c6 hl hr hf
  go_enter Tryz.func46, Tryz.ntmps46
  go_wp2_with fail
  go_quiet (fail)
  go_wp2_with fail
  go_ret
  exact ⟨rfl, (below_alloc _ _).drewMany _⟩
set_option maxRecDepth 20000 in
set_option maxHeartbeats 3200000 in
theorem fits_hollow (X : Nat → Prop) (g gd : Nat) (least : Int) (h : Hd) (f : Fi) (fs : List Fi) (w : World) (l : Lg w X g gd least h) (ho : HdOk h) (hr : h.rows = []) (hf : h.files = f :: fs) (mi mt : Int) (hm : 0 ≤ mi ∧ mi < 10000000000) :
    Calls Tryz.prog 46 #[.pointer (some ⟨g, 0, none⟩), .agg #[.int .i64 mi, .int .i64 mt]] w fun e w' => e = .returned (.bool (f.hollow && decide (f.first = mi + 1))) ∧ Below w.heap.size w w' := by
  obtain ⟨⟨vr, vf, rv, la⟩, lz⟩ := l
  obtain ⟨c0, c1, c2, c3, c4, c5, c6, cz⟩ := seven_cells la.box
  have hl : rv.length = 0 := by
    have := la.rows
    rw [hr] at this
    rw [← List.length_map (f := (·.1)), this]; rfl
  obtain ⟨ra, rc, rfl, -, -⟩ := row5_slice la.rrow
  obtain ⟨ga, fc, rfl, hgz, hfl, hfm, hel, -⟩ := row5_elem (f := fiV) (fun _ => rfl) la.frow 0 (by rw [hf]; simp)
  have hff := ho.fl
  obtain ⟨nf, hnf⟩ : ∃ nf, nf = h.files.length := ⟨_, rfl⟩
  rw [← hnf] at c3 hfl hff
  have hnf1 : 0 < nf := by rw [hnf, hf]; simp
  have hnf2 : (0 : Int) < (nf : Int) := by omega
  rw [hl] at c2
  have e0 := hel 0 (by omega)
  have e1 := hel 1 (by omega)
  have e2 := hel 2 (by omega)
  have e3 := hel 3 (by omega)
  have e4 := hel 4 (by omega)
  simp only [hf, List.getElem_cons_zero, fiV, List.getElem?_cons_succ, List.getElem?_cons_zero, Nat.zero_mul, Nat.zero_add] at e0 e1 e2 e3 e4
  have HC := Lib.hid (And.intro c3 (And.intro e0 (And.intro e1 (And.intro e2 (And.intro e3 e4)))))
  have HZ := Lib.hid (And.intro cz hgz)
  have HHO := fun w => Lib.hid (SgHollow_any f w)
  obtain ⟨ff, fl, fz, fo, fb⟩ := f
  simp only at HC ⊢
  have hw1 : IntKind.i64.wrap (mi + 1) = mi + 1 := IntWalk.i64_in _ (by omega)
  clear la lz c0 c1 c4 c5 c6 hl hr hf hnf hel e0 e1 e2 e3 e4 hgz
  go_enter Tryz.func46, Tryz.ntmps46
  go_wp2_with fail
  obtain ⟨W, hW⟩ : ∃ W, W = w.alloc (.cells #[.int .i64 mi, .int .i64 mt] 32) := ⟨_, rfl⟩
  rw [← hW]
  have hb0 : Below w.heap.size w W := by rw [hW]; exact below_alloc _ _
  have hx : W.heap[w.heap.size]? = some (.cells #[.int .i64 mi, .int .i64 mt] 32) := by rw [hW]; exact heap_new _ _ _ rfl
  have HB0 := Lib.hid hb0
  have d3 : ∀ w', Below W.heap.size W w' → w'.cell? ⟨g, 3, none⟩ = some (.slice (some ⟨ga, 0, none⟩) nf fc) := fun w' hw' => ((HB0.out.trans (hw'.mono HB0.out.size)).cell (p := ⟨g, 3, none⟩) HZ.out.1).trans HC.out.1
  have d0 : ∀ w', Below W.heap.size W w' → w'.cell? ⟨ga, 0, none⟩ = some (.int .i64 ff) := fun w' hw' => ((HB0.out.trans (hw'.mono HB0.out.size)).cell (p := ⟨ga, 0, none⟩) HZ.out.2).trans HC.out.2.1
  have d1 : ∀ w', Below W.heap.size W w' → w'.cell? ⟨ga, 1, none⟩ = some (.int .i64 fl) := fun w' hw' => ((HB0.out.trans (hw'.mono HB0.out.size)).cell (p := ⟨ga, 1, none⟩) HZ.out.2).trans HC.out.2.2.1
  have d2 : ∀ w', Below W.heap.size W w' → w'.cell? ⟨ga, 2, none⟩ = some (.int .i64 fz) := fun w' hw' => ((HB0.out.trans (hw'.mono HB0.out.size)).cell (p := ⟨ga, 2, none⟩) HZ.out.2).trans HC.out.2.2.2.1
  have d5 : ∀ w', Below W.heap.size W w' → w'.cell? ⟨ga, 3, none⟩ = some (.int .i64 fo) := fun w' hw' => ((HB0.out.trans (hw'.mono HB0.out.size)).cell (p := ⟨ga, 3, none⟩) HZ.out.2).trans HC.out.2.2.2.2.1
  have d4 : ∀ w', Below W.heap.size W w' → w'.cell? ⟨ga, 4, none⟩ = some (.bool fb) := fun w' hw' => ((HB0.out.trans (hw'.mono HB0.out.size)).cell (p := ⟨ga, 4, none⟩) HZ.out.2).trans HC.out.2.2.2.2.2
  have m0 : ∀ w', Below W.heap.size W w' → w'.cell? ⟨w.heap.size, 0, none⟩ = some (.int .i64 mi) := fun w' hw' => cell_of_row _ _ 0 _ _ _ (old_below hx hw')
  clear hb0 hx hW c2 c3
  refine wp_region_held (S := fun w' => Below W.heap.size W w') (by kernel_rfl) ?_
  have hS : Below W.heap.size W W.drew := (Below.refl _ _).drew
  refine H_take (i := 0) (v := ?_) rfl (by as_aux_lemma => kernel_rfl) (by as_aux_lemma => kernel_rfl) (by as_aux_lemma => kernel_rfl) (fun _ _ _ h => h) (by rfl) hS ?_ ?_
  rotate_left
  · intro w' hw'; go_simp; with_reducible rfl
  go_simp
  refine H_take (i := 1) (v := ?_) rfl (by as_aux_lemma => kernel_rfl) (by as_aux_lemma => kernel_rfl) (by as_aux_lemma => kernel_rfl) (fun _ _ _ h => h) (by rfl) hS ?_ ?_
  rotate_left
  · intro w' hw'; go_simp; with_reducible rfl
  go_simp
  refine H_take (i := 2) (v := ?_) rfl (by as_aux_lemma => kernel_rfl) (by as_aux_lemma => kernel_rfl) (by as_aux_lemma => kernel_rfl) (fun _ _ _ h => h) (by rfl) hS ?_ ?_
  rotate_left
  · intro w' hw'; go_simp; with_reducible rfl
  go_simp
  refine H_take (i := 3) (v := ?_) rfl (by as_aux_lemma => kernel_rfl) (by as_aux_lemma => kernel_rfl) (by as_aux_lemma => kernel_rfl) (fun _ _ _ h => h) (by rfl) hS ?_ ?_
  rotate_left
  · intro w' hw'; go_simp; with_reducible rfl
  go_simp
  refine H_take (i := 4) (v := ?_) rfl (by as_aux_lemma => kernel_rfl) (by as_aux_lemma => kernel_rfl) (by as_aux_lemma => kernel_rfl) (fun _ _ _ h => h) (by rfl) hS ?_ ?_
  rotate_left
  · intro w' hw'; go_simp; with_reducible rfl
  go_simp
  refine H_take (i := 5) (v := ?_) rfl (by as_aux_lemma => kernel_rfl) (by as_aux_lemma => kernel_rfl) (by as_aux_lemma => kernel_rfl) (fun _ _ _ h => h) (by rfl) hS ?_ ?_
  rotate_left
  · intro w' hw'; go_simp; with_reducible rfl
  go_simp
  refine H_take (i := 6) (v := ?_) rfl (by as_aux_lemma => kernel_rfl) (by as_aux_lemma => kernel_rfl) (by as_aux_lemma => kernel_rfl) (fun _ _ _ h => h) (by rfl) hS ?_ ?_
  rotate_left
  · intro w' hw'; go_simp; with_reducible rfl
  go_simp
  refine H_take (i := 7) (v := ?_) rfl (by as_aux_lemma => kernel_rfl) (by as_aux_lemma => kernel_rfl) (by as_aux_lemma => kernel_rfl) (fun _ _ _ h => h) (by rfl) hS ?_ ?_
  rotate_left
  · intro w' hw'; go_simp; with_reducible rfl
  go_simp
  refine H_take (i := 8) (v := ?_) rfl (by as_aux_lemma => kernel_rfl) (by as_aux_lemma => kernel_rfl) (by as_aux_lemma => kernel_rfl) (fun _ _ _ h => h) (by rfl) hS ?_ ?_
  rotate_left
  · intro w' hw'; go_simp; with_reducible rfl
  go_simp
  refine H_take (i := 9) (v := ?_) rfl (by as_aux_lemma => kernel_rfl) (by as_aux_lemma => kernel_rfl) (by as_aux_lemma => kernel_rfl) (fun _ _ _ h => h) (by rfl) hS ?_ ?_
  rotate_left
  · intro w' hw'; go_simp; with_reducible rfl
  go_simp
  refine H_take (i := 10) (v := ?_) rfl (by as_aux_lemma => kernel_rfl) (by as_aux_lemma => kernel_rfl) (by as_aux_lemma => kernel_rfl) (fun _ _ _ h => h) (by rfl) hS ?_ ?_
  rotate_left
  · intro w' hw'; go_simp; with_reducible rfl
  go_simp
  refine H_take (i := 11) (v := ?_) rfl (by as_aux_lemma => kernel_rfl) (by as_aux_lemma => kernel_rfl) (by as_aux_lemma => kernel_rfl) (fun _ _ _ h => h) (by rfl) hS ?_ ?_
  rotate_left
  · intro w' hw'; go_simp; with_reducible rfl
  go_simp
  refine H_take (i := 12) (v := ?_) rfl (by as_aux_lemma => kernel_rfl) (by as_aux_lemma => kernel_rfl) (by as_aux_lemma => kernel_rfl) (fun _ _ _ h => h) (by rfl) hS ?_ ?_
  rotate_left
  · intro w' hw'; go_simp; with_reducible rfl
  go_simp
  refine H_one (i := 13) (by as_aux_lemma => kernel_rfl) rfl (by rfl) ?_
  go_simp
  refine ((HHO _).out).mono ?_
  rintro e w1 ⟨rfl, hb1⟩
  have hS1 : Below W.heap.size W w1 := (Below.refl _ _).drew.trans (hb1.mono (Nat.le_refl _))
  refine ⟨hS1, ?_⟩
  cases hq : (Fi.hollow ⟨ff, fl, fz, fo, fb⟩) with
  | false =>
    go_simp
    refine H_take (i := 14) (v := ?_) rfl (by as_aux_lemma => kernel_rfl) (by as_aux_lemma => kernel_rfl) (by as_aux_lemma => kernel_rfl) (fun _ _ _ h => h) (by rfl) hS1 ?_ ?_
    rotate_left
    · intro w' hw'; go_simp; with_reducible rfl
    go_simp
    refine H_take (i := 15) (v := ?_) rfl (by as_aux_lemma => kernel_rfl) (by as_aux_lemma => kernel_rfl) (by as_aux_lemma => kernel_rfl) (fun _ _ _ h => h) (by rfl) hS1 ?_ ?_
    rotate_left
    · intro w' hw'; go_simp; with_reducible rfl
    go_simp
    refine H_skip (i := 16) rfl (by as_aux_lemma => kernel_rfl) (by as_aux_lemma => kernel_rfl) (by as_aux_lemma => kernel_rfl) (fun _ _ _ h => h) (by rfl) hS1 ?_
    go_simp
    refine H_skip (i := 17) rfl (by as_aux_lemma => kernel_rfl) (by as_aux_lemma => kernel_rfl) (by as_aux_lemma => kernel_rfl) (fun _ _ _ h => h) (by rfl) hS1 ?_
    go_simp
    refine H_skip (i := 18) rfl (by as_aux_lemma => kernel_rfl) (by as_aux_lemma => kernel_rfl) (by as_aux_lemma => kernel_rfl) (fun _ _ _ h => h) (by rfl) hS1 ?_
    go_simp
    refine H_skip (i := 19) rfl (by as_aux_lemma => kernel_rfl) (by as_aux_lemma => kernel_rfl) (by as_aux_lemma => kernel_rfl) (fun _ _ _ h => h) (by rfl) hS1 ?_
    go_simp
    refine H_skip (i := 20) rfl (by as_aux_lemma => kernel_rfl) (by as_aux_lemma => kernel_rfl) (by as_aux_lemma => kernel_rfl) (fun _ _ _ h => h) (by rfl) hS1 ?_
    go_simp
    refine H_skip (i := 21) rfl (by as_aux_lemma => kernel_rfl) (by as_aux_lemma => kernel_rfl) (by as_aux_lemma => kernel_rfl) (fun _ _ _ h => h) (by rfl) hS1 ?_
    go_simp
    refine H_skip (i := 22) rfl (by as_aux_lemma => kernel_rfl) (by as_aux_lemma => kernel_rfl) (by as_aux_lemma => kernel_rfl) (fun _ _ _ h => h) (by rfl) hS1 ?_
    go_simp
    refine H_skip (i := 23) rfl (by as_aux_lemma => kernel_rfl) (by as_aux_lemma => kernel_rfl) (by as_aux_lemma => kernel_rfl) (fun _ _ _ h => h) (by rfl) hS1 ?_
    go_simp
    refine H_skip (i := 24) rfl (by as_aux_lemma => kernel_rfl) (by as_aux_lemma => kernel_rfl) (by as_aux_lemma => kernel_rfl) (fun _ _ _ h => h) (by rfl) hS1 ?_
    go_simp
    refine H_skip (i := 25) rfl (by as_aux_lemma => kernel_rfl) (by as_aux_lemma => kernel_rfl) (by as_aux_lemma => kernel_rfl) (fun _ _ _ h => h) (by rfl) hS1 ?_
    go_simp
    refine H_skip (i := 26) rfl (by as_aux_lemma => kernel_rfl) (by as_aux_lemma => kernel_rfl) (by as_aux_lemma => kernel_rfl) (fun _ _ _ h => h) (by rfl) hS1 ?_
    go_simp
    refine H_take (i := 27) (v := ?_) rfl (by as_aux_lemma => kernel_rfl) (by as_aux_lemma => kernel_rfl) (by as_aux_lemma => kernel_rfl) (fun _ _ _ h => h) (by rfl) hS1 ?_ ?_
    rotate_left
    · intro w' hw'; go_simp; with_reducible rfl
    go_simp
    refine H_take (i := 28) (v := ?_) rfl (by as_aux_lemma => kernel_rfl) (by as_aux_lemma => kernel_rfl) (by as_aux_lemma => kernel_rfl) (fun _ _ _ h => h) (by rfl) hS1 ?_ ?_
    rotate_left
    · intro w' hw'; go_simp; with_reducible rfl
    go_simp
    refine wpAnyH_done (by as_aux_lemma => kernel_rfl) ?_ _
    go_wp2_with fail
    go_ret
    rw [hq]
    exact ⟨rfl, HB0.out.trans (hS1.mono HB0.out.size)⟩
  | true =>
    go_simp
    refine H_take (i := 14) (v := ?_) rfl (by as_aux_lemma => kernel_rfl) (by as_aux_lemma => kernel_rfl) (by as_aux_lemma => kernel_rfl) (fun _ _ _ h => h) (by rfl) hS1 ?_ ?_
    rotate_left
    · intro w' hw'; go_simp; with_reducible rfl
    go_simp
    refine H_take (i := 15) (v := ?_) rfl (by as_aux_lemma => kernel_rfl) (by as_aux_lemma => kernel_rfl) (by as_aux_lemma => kernel_rfl) (fun _ _ _ h => h) (by rfl) hS1 ?_ ?_
    rotate_left
    · intro w' hw'; go_simp; with_reducible rfl
    go_simp
    refine H_take (i := 16) (v := ?_) rfl (by as_aux_lemma => kernel_rfl) (by as_aux_lemma => kernel_rfl) (by as_aux_lemma => kernel_rfl) (fun _ _ _ h => h) (by rfl) hS1 ?_ ?_
    rotate_left
    · intro w' hw'; go_simp; with_reducible rfl
    go_simp
    refine H_take (i := 17) (v := ?_) rfl (by as_aux_lemma => kernel_rfl) (by as_aux_lemma => kernel_rfl) (by as_aux_lemma => kernel_rfl) (fun _ _ _ h => h) (by rfl) hS1 ?_ ?_
    rotate_left
    · intro w' hw'; go_simp; with_reducible rfl
    go_simp
    refine H_take (i := 18) (v := ?_) rfl (by as_aux_lemma => kernel_rfl) (by as_aux_lemma => kernel_rfl) (by as_aux_lemma => kernel_rfl) (fun _ _ _ h => h) (by rfl) hS1 ?_ ?_
    rotate_left
    · intro w' hw'; go_simp; with_reducible rfl
    go_simp
    refine H_take (i := 19) (v := ?_) rfl (by as_aux_lemma => kernel_rfl) (by as_aux_lemma => kernel_rfl) (by as_aux_lemma => kernel_rfl) (fun _ _ _ h => h) (by rfl) hS1 ?_ ?_
    rotate_left
    · intro w' hw'; go_simp; with_reducible rfl
    go_simp
    refine H_take (i := 20) (v := ?_) rfl (by as_aux_lemma => kernel_rfl) (by as_aux_lemma => kernel_rfl) (by as_aux_lemma => kernel_rfl) (fun _ _ _ h => h) (by rfl) hS1 ?_ ?_
    rotate_left
    · intro w' hw'; go_simp; with_reducible rfl
    go_simp
    refine H_take (i := 21) (v := ?_) rfl (by as_aux_lemma => kernel_rfl) (by as_aux_lemma => kernel_rfl) (by as_aux_lemma => kernel_rfl) (fun _ _ _ h => h) (by rfl) hS1 ?_ ?_
    rotate_left
    · intro w' hw'; go_simp; with_reducible rfl
    go_simp
    refine H_take (i := 22) (v := ?_) rfl (by as_aux_lemma => kernel_rfl) (by as_aux_lemma => kernel_rfl) (by as_aux_lemma => kernel_rfl) (fun _ _ _ h => h) (by rfl) hS1 ?_ ?_
    rotate_left
    · intro w' hw'; go_simp; with_reducible rfl
    go_simp
    refine H_take (i := 23) (v := ?_) rfl (by as_aux_lemma => kernel_rfl) (by as_aux_lemma => kernel_rfl) (by as_aux_lemma => kernel_rfl) (fun _ _ _ h => h) (by rfl) hS1 ?_ ?_
    rotate_left
    · intro w' hw'; go_simp; with_reducible rfl
    go_simp
    refine H_take (i := 24) (v := ?_) rfl (by as_aux_lemma => kernel_rfl) (by as_aux_lemma => kernel_rfl) (by as_aux_lemma => kernel_rfl) (fun _ _ _ h => h) (by rfl) hS1 ?_ ?_
    rotate_left
    · intro w' hw'; go_simp; with_reducible rfl
    go_simp
    refine H_take (i := 25) (v := ?_) rfl (by as_aux_lemma => kernel_rfl) (by as_aux_lemma => kernel_rfl) (by as_aux_lemma => kernel_rfl) (fun _ _ _ h => h) (by rfl) hS1 ?_ ?_
    rotate_left
    · intro w' hw'; go_simp; with_reducible rfl
    go_simp
    refine H_take (i := 26) (v := ?_) rfl (by as_aux_lemma => kernel_rfl) (by as_aux_lemma => kernel_rfl) (by as_aux_lemma => kernel_rfl) (fun _ _ _ h => h) (by rfl) hS1 ?_ ?_
    rotate_left
    · intro w' hw'; go_simp; with_reducible rfl
    go_simp
    refine H_take (i := 27) (v := ?_) rfl (by as_aux_lemma => kernel_rfl) (by as_aux_lemma => kernel_rfl) (by as_aux_lemma => kernel_rfl) (fun _ _ _ h => h) (by rfl) hS1 ?_ ?_
    rotate_left
    · intro w' hw'; go_simp; with_reducible rfl
    go_simp
    refine H_take (i := 28) (v := ?_) rfl (by as_aux_lemma => kernel_rfl) (by as_aux_lemma => kernel_rfl) (by as_aux_lemma => kernel_rfl) (fun _ _ _ h => h) (by rfl) hS1 ?_ ?_
    rotate_left
    · intro w' hw'; go_simp; with_reducible rfl
    go_simp
    refine wpAnyH_done (by as_aux_lemma => kernel_rfl) ?_ _
    go_wp2_with fail
    go_ret
    rw [hq]
    refine ⟨?_, HB0.out.trans (hS1.mono HB0.out.size)⟩
    have hbe : (ff == mi + 1) = decide (ff = mi + 1) := Bool.eq_iff_iff.2 (by simp)
    rw [Bool.true_and, ← hbe]
    rfl
end Go.Proofs.YtamgjlegcegmeaaGreatDoor.M

/- Part: SegFiu. -/
namespace Go.Proofs.YtamgjlegcegmeaaGreatDoor.M
open Go.RowKit Go.Maps
open D (Fl Dk)

set_option maxRecDepth 20000 in
set_option maxHeartbeats 3200000 in
theorem fits_rows (X : Nat → Prop) (g gd : Nat) (least : Int) (h : Hd) (r : Rw) (rs : List Rw) (w : World) (l : Lg w X g gd least h) (ho : HdOk h) (hr : h.rows = r :: rs) (mi mt : Int) (hm : 0 ≤ mi ∧ mi < 10000000000) (hmt : 0 ≤ mt ∧ mt < 10000000000) :
    Calls Tryz.prog 46 #[.pointer (some ⟨g, 0, none⟩), .agg #[.int .i64 mi, .int .i64 mt]] w fun e w' => e = .returned (.bool (fitsE h mi mt)) ∧ Below w.heap.size w w' := by
  have hT : fitsE h mi mt = (if r.e.idx = mi + 1 then decide (mt ≤ r.e.term) else if mi - r.e.idx < 0 then false else match h.rows[(mi - r.e.idx).toNat]? with
    | none => false
    | some q => decide (q.e.term = mt)) := by unfold fitsE; simp only [hr] <;> rfl
  obtain ⟨T, hTT⟩ : ∃ T, T = fitsE h mi mt := ⟨_, rfl⟩
  rw [← hTT] at hT ⊢
  clear hTT
  obtain ⟨⟨vr, vf, rv, la⟩, lz⟩ := l
  obtain ⟨c0, c1, c2, c3, c4, c5, c6, cz⟩ := seven_cells la.box
  have hlen : rv.length = h.rows.length := by rw [← la.rows, List.length_map]
  have h0 : 0 < rv.length := by rw [hlen, hr]; simp
  have hrl := ho.rl
  rw [← hlen] at hrl
  obtain ⟨ga, rc, rfl, hgz, hcl, hcm, hel, -⟩ := row5_elem (f := rwV) (fun _ => rfl) la.rrow 0 h0
  have hterm : ∀ k (hk : k < rv.length), w.cell? ⟨ga, k * 5 + 1, none⟩ = some (.int .i64 rv[k].1.e.term) ∧ h.rows[k]? = some rv[k].1 := fun k hk => by
    obtain ⟨g2, c, hv, -, -, -, he, -⟩ := row5_elem (f := rwV) (fun _ => rfl) la.rrow k hk
    cases hv
    have e := he 1 (by omega)
    simp only [rwV, List.getElem?_cons_succ, List.getElem?_cons_zero] at e
    refine ⟨e, ?_⟩
    rw [← la.rows, List.getElem?_map, List.getElem?_eq_getElem hk]
    rfl
  have hr0 : rv[0].1 = r := by
    have := (hterm 0 h0).2
    rw [hr] at this
    simpa using this.symm
  have hsl := (LgAt.slices la) rv[0] (List.getElem_mem h0)
  have hrb := ho.rb r (by rw [hr]; simp)
  obtain ⟨pv, hpv⟩ : ∃ pv, pv = rv[0].2 := ⟨_, rfl⟩
  rw [← hpv] at hsl
  have e0 := hel 0 (by omega)
  have e1 := hel 1 (by omega)
  have e2 := hel 2 (by omega)
  have e3 := hel 3 (by omega)
  have e4 := hel 4 (by omega)
  simp only [rwV, hr0, ← hpv, List.getElem?_cons_succ, List.getElem?_cons_zero, Nat.zero_mul, Nat.zero_add] at e0 e1 e2 e3 e4
  obtain ⟨nr, hnr⟩ : ∃ nr, nr = rv.length := ⟨_, rfl⟩
  have HTM := Lib.hid hterm
  have HNR := Lib.hid hnr
  have HLEN := Lib.hid hlen
  rw [← hnr] at c2 hcl hrl h0
  obtain ⟨⟨xi, xt, xk, xb⟩, po⟩ := r
  simp only at e0 e1 e2 e3 e4 hrb hT
  obtain ⟨pa, pn, pc, rfl⟩ := hsl
  have hn0 : (0 : Int) < (nr : Int) := by omega
  have hb1 := hrb.1
  have hb2 := hrb.2.1
  clear la lz c0 c1 c3 c4 c5 c6 hr hpv hel hterm hr0 hlen hnr hrb
  have hne : ((nr : Int) == 0) = false := beq_eq_false_iff_ne.2 (by omega)
  by_cases t1 : xi = mi + 1
  · have q1 : (xi == mi + 1) = true := by simpa using t1
    have HE : Hid (T = decide (mt ≤ xt)) := Lib.hid (by rw [hT, if_pos t1])
    clear hT t1
    go_enter Tryz.func46, Tryz.ntmps46
    go_wp2_with fail
    go_ret
    rw [HE.out]
    exact ⟨rfl, (below_alloc _ _).alloc (by simp) _⟩
  · have q1 : (xi == mi + 1) = false := beq_eq_false_iff_ne.2 t1
    rw [if_neg t1] at hT
    clear t1
    by_cases t2 : mi - xi < 0
    · have q2 : decide (0 ≤ mi - xi) = false := decide_eq_false (by omega)
      have HE : Hid (T = false) := Lib.hid (by rw [hT, if_pos t2])
      clear hT
      go_enter Tryz.func46, Tryz.ntmps46
      go_wp2_with fail
      obtain ⟨di, hdi⟩ : ∃ di, di = mi - xi := ⟨_, rfl⟩
      rw [← hdi] at q2 ⊢
      clear t2 hdi
      go_quiet (fail)
      go_wp2_with fail
      go_ret
      rw [HE.out]
      exact ⟨rfl, ((below_alloc _ _).alloc (by simp) _).drewMany _⟩
    · have q2 : decide (0 ≤ mi - xi) = true := decide_eq_true (by omega)
      rw [if_neg t2] at hT
      obtain ⟨k, hk⟩ : ∃ k : Nat, (k : Int) = mi - xi := ⟨(mi - xi).toNat, by omega⟩
      rw [← hk] at hT q2
      rw [Int.toNat_natCast] at hT
      by_cases t3 : k < nr
      · have hkr : k < rv.length := by rw [← HNR.out]; exact t3
        have q3 : (k : Int) < (nr : Int) := by omega
        have HE : Hid (T = decide (rv[k].1.e.term = mt)) := Lib.hid (by rw [hT, (HTM.out k hkr).2])
        have ek := (HTM.out k hkr).1
        obtain ⟨tk, htk⟩ : ∃ tk, tk = rv[k].1.e.term := ⟨_, rfl⟩
        rw [← htk] at ek HE
        have hkc : k < rc := by omega
        clear hT htk hkr
        go_enter Tryz.func46, Tryz.ntmps46
        go_wp2_with fail
        rw [← hk]
        clear t2 hk
        go_quiet (fail)
        go_wp2_with fail
        go_ret
        have hbe : (tk == mt) = decide (tk = mt) := Bool.eq_iff_iff.2 (by simp)
        rw [HE.out, ← hbe]
        exact ⟨rfl, ((below_alloc _ _).alloc (by simp) _).drewMany _⟩
      · have q3 : decide ((k : Int) < (nr : Int)) = false := decide_eq_false (by omega)
        have q4 : decide (k < nr) = false := decide_eq_false t3
        have HE : Hid (T = false) := Lib.hid (by rw [hT, List.getElem?_eq_none (by rw [← HLEN.out, ← HNR.out]; omega)])
        clear hT
        go_enter Tryz.func46, Tryz.ntmps46
        go_wp2_with fail
        rw [← hk]
        clear t2 t3 hk
        go_quiet (fail)
        go_wp2_with fail
        go_ret
        rw [HE.out]
        exact ⟨rfl, ((below_alloc _ _).alloc (by simp) _).drewMany _⟩
end Go.Proofs.YtamgjlegcegmeaaGreatDoor.M

/- Part: SegClo. -/
namespace Go.Proofs.YtamgjlegcegmeaaGreatDoor.M
open Go.RowKit Go.Maps
open D (Fl Dk)

set_option maxRecDepth 20000 in
theorem settle2_has (f : Fi) (gn : Nat) (w : World) (hf : f.has = true) :
    Calls Tryz.prog 49 #[fiAgg f, .pointer (some ⟨gn, 0, none⟩)] w fun e w' => e = .returned (.bool true) ∧ Below w.heap.size w w' := by
  have HH := fun w => Lib.hid (SgHas_any f w)
  have HF := Lib.hid hf
  obtain ⟨a, b, c, d, l⟩ := f
  unfold fiAgg at HH ⊢
  simp only at HH ⊢
  clear hf
  go_enter Tryz.func49, Tryz.ntmps49
  go_wp2_with fail
  refine ((HH _).out).mono ?_
  rintro e w1 ⟨rfl, hb1⟩
  rw [HF.out]
  have HB1 : Hid (Below w.heap.size w w1) := Lib.hid ((below_alloc _ _).trans (hb1.mono (by simp)))
  clear hb1
  go_wp2_with fail
  go_ret
  exact ⟨rfl, HB1.out⟩

set_option maxRecDepth 20000 in
theorem settle1_any (f : Fi) (w : World) :
    Calls Tryz.prog 48 #[fiAgg f] w fun e w' => e = .returned (.bool false) ∧ Below w.heap.size w w' := by
  obtain ⟨a, b, c, d, l⟩ := f
  unfold fiAgg
  simp only
  go_enter Tryz.func48, Tryz.ntmps48
  go_wp2_with fail
  go_ret
  exact ⟨rfl, below_alloc _ _⟩

set_option maxRecDepth 20000 in
/-- A segment that has entries doesn't go. -/
theorem mend1_has (f : Fi) (gs gn : Nat) (t : TypeId) (w : World) (hf : f.has = true) (hs : w.heap[gs]? = some (.cells #[.func (.func 49) #[] #[.pointer (some ⟨gn, 0, none⟩)]] t)) :
    Calls Tryz.prog 45 #[fiAgg f, .pointer (some ⟨gs, 0, none⟩)] w fun e w' => e = .returned (.bool false) ∧ Below w.heap.size w w' := by
  have HH := fun w => Lib.hid (settle2_has f gn w hf)
  have c0 := cell_of_row _ _ 0 _ _ _ hs
  have cz := lt_of_heap hs
  obtain ⟨a, b, c, d, l⟩ := f
  unfold fiAgg at HH ⊢
  simp only at HH ⊢
  simp only [List.getElem?_toArray, List.getElem?_cons_zero] at c0
  clear hf hs
  go_enter Tryz.func45, Tryz.ntmps45
  go_wp2_with fail
  refine ((HH _).out).mono ?_
  rintro e w1 ⟨rfl, hb1⟩
  have HB1 : Hid (Below w.heap.size w w1) := Lib.hid ((below_alloc _ _).trans (hb1.mono (by simp)))
  clear hb1
  go_wp2_with fail
  go_ret
  exact ⟨rfl, HB1.out⟩
end Go.Proofs.YtamgjlegcegmeaaGreatDoor.M

/- Part: SegTak. -/
namespace Go.Proofs.YtamgjlegcegmeaaGreatDoor.M
open Go.RowKit Go.Maps
open D (Fl Dk)

set_option maxRecDepth 20000 in
theorem isNumber_any (n : Nat) (w : World) :
    Calls Tryz.prog 105 #[.int .u64 (n : Int)] w fun e w' => e = .returned (.bool (decide (1 ≤ n ∧ n < 10000000000))) ∧ w' = w := by
  by_cases h1 : (1 : Int) ≤ (n : Int)
  · have q1 : decide ((1 : Int) ≤ (n : Int)) = true := decide_eq_true h1
    by_cases h2 : (n : Int) < 10000000000
    · have q2 : decide ((n : Int) < 10000000000) = true := decide_eq_true h2
      have HE : Hid (decide (1 ≤ n ∧ n < 10000000000) = true) := Lib.hid (decide_eq_true (by omega))
      rw [HE.out]
      go_enter Tryz.func105, Tryz.ntmps105
      go_wp2_with fail
      go_ret
      exact ⟨rfl, rfl⟩
    · have q2 : decide ((n : Int) < 10000000000) = false := decide_eq_false h2
      have HE : Hid (decide (1 ≤ n ∧ n < 10000000000) = false) := Lib.hid (decide_eq_false (by omega))
      rw [HE.out]
      go_enter Tryz.func105, Tryz.ntmps105
      go_wp2_with fail
      go_ret
      exact ⟨rfl, rfl⟩
  · have q1 : decide ((1 : Int) ≤ (n : Int)) = false := decide_eq_false h1
    have HE : Hid (decide (1 ≤ n ∧ n < 10000000000) = false) := Lib.hid (decide_eq_false (by omega))
    rw [HE.out]
    go_enter Tryz.func105, Tryz.ntmps105
    go_wp2_with fail
    go_ret
    exact ⟨rfl, rfl⟩

theorem u32_or (x y : Nat) (hx : x < 4294967296) (hy : y < 4294967296) : bits .or .u32 (x : Int) (y : Int) = ((x ||| y : Nat) : Int) := by
  exact u32_or_nat x y hx hy

theorem or_four (a b c d : Nat) (ha : a < 256) (hb : b < 256) (hc : c < 256) (hd : d < 256) :
    bits BinOp.or .u32 (bits BinOp.or .u32 (bits BinOp.or .u32 ((a : Int) % 4294967296 * 16777216 % 4294967296) ((b : Int) % 4294967296 * 65536 % 4294967296)) ((c : Int) % 4294967296 * 256 % 4294967296)) ((d : Int) % 4294967296) = ((a * 16777216 + b * 65536 + c * 256 + d : Nat) : Int) := by
  have e0 : (a : Int) % 4294967296 * 16777216 % 4294967296 = ((2 ^ 24 * a : Nat) : Int) := by omega
  have e1 : (b : Int) % 4294967296 * 65536 % 4294967296 = ((b * 65536 : Nat) : Int) := by omega
  have e2 : (c : Int) % 4294967296 * 256 % 4294967296 = ((c * 256 : Nat) : Int) := by omega
  have e3 : (d : Int) % 4294967296 = ((d : Nat) : Int) := by omega
  rw [e0, e1, e2, e3, u32_or _ _ (by omega) (by omega), ← Nat.two_pow_add_eq_or_of_lt (i := 24) (by omega)]
  have f1 : 2 ^ 24 * a + b * 65536 = 2 ^ 16 * (a * 256 + b) := by omega
  rw [f1, u32_or _ _ (by omega) (by omega), ← Nat.two_pow_add_eq_or_of_lt (i := 16) (by omega)]
  have f2 : 2 ^ 16 * (a * 256 + b) + c * 256 = 2 ^ 8 * ((a * 256 + b) * 256 + c) := by omega
  rw [f2, u32_or _ _ (by omega) (by omega), ← Nat.two_pow_add_eq_or_of_lt (i := 8) (by omega)]
  congr 1
  omega

set_option maxRecDepth 20000 in
theorem word_any (F : Nat → Prop) (a b c d : UInt8) (L : List UInt8) (v : Value) (w : World) (hv : RepB w F (a :: b :: c :: d :: L) v) :
    Calls Tryz.prog 102 #[v] w fun e w' => e = .returned (.int .u32 ((a.toNat * 16777216 + b.toNat * 65536 + c.toNat * 256 + d.toNat : Nat) : Int)) ∧ Below w.heap.size w w' := by
  obtain ⟨va, vc, rfl, hl⟩ := hv.slice
  obtain ⟨gb, off, rfl, hF, he⟩ := RepB.elem2 hv (i := 0) (by simp)
  obtain ⟨n, hn⟩ : ∃ n, n = (a :: b :: c :: d :: L).length := ⟨_, rfl⟩
  have h4 : 4 ≤ n := by rw [hn]; simp
  have e0 := he 0 (by simp)
  have e1 := he 1 (by simp)
  have e2 := he 2 (by simp)
  have e3 := he 3 (by simp)
  simp only [List.getElem_cons_zero, List.getElem_cons_succ, Nat.add_zero] at e0 e1 e2 e3
  rw [← hn] at hl ⊢
  have i0 : (0 : Int) < (n : Int) := by omega
  have i1 : (1 : Int) < (n : Int) := by omega
  have i2 : (2 : Int) < (n : Int) := by omega
  have i3 : (3 : Int) < (n : Int) := by omega
  clear he hn hv
  go_enter Tryz.func102, Tryz.ntmps102
  go_wp2_with fail
  go_quiet (fail)
  go_wp2_with fail
  go_ret
  refine ⟨?_, (Below.refl _ _).drewMany _⟩
  rw [or_four a.toNat b.toNat c.toNat d.toNat a.toNat_lt b.toNat_lt c.toNat_lt d.toNat_lt]
  rfl
end Go.Proofs.YtamgjlegcegmeaaGreatDoor.M

/- Part: ShelfPure. -/
namespace Go.Proofs.YtamgjlegcegmeaaGreatDoor.M
open Go.RowKit
open D (Fl Dk)

/-- A snapshot. -/
structure Sn where
  idx : Int
  term : Int
  conf : List UInt8
  body : List UInt8

def Sn.zero : Sn := ⟨0, 0, [], []⟩

theorem Sn.ext {x y : Sn} (h1 : x.idx = y.idx) (h2 : x.term = y.term) (h3 : x.conf = y.conf) (h4 : x.body = y.body) : x = y := by
  obtain ⟨a, b, c, d⟩ := x
  obtain ⟨a', b', c', d'⟩ := y
  simp only at h1 h2 h3 h4
  subst h1 h2 h3 h4
  rfl

/-- An int as bits. -/
def u64 (n : Int) : Nat := (n % 18446744073709551616).toNat

theorem u64_lt (n : Int) : u64 n < 18446744073709551616 := by unfold u64; omega
theorem u64_nn {n : Int} (h : 0 ≤ n) (h2 : n < 18446744073709551616) : u64 n = n.toNat := by unfold u64; omega

def snForm (x : Sn) : List UInt8 := num (u64 x.idx) ++ (num (u64 x.term) ++ (num x.conf.length ++ (x.conf ++ (num x.body.length ++ x.body))))

def snBytes (x : Sn) : List UInt8 := four (C.sumOf (snForm x)) ++ snForm x

def okSn (m : Int × Int) : Bool := decide (1 ≤ m.1 ∧ m.1 < 10000000000 ∧ 1 ≤ m.2 ∧ m.2 < 10000000000)

/-- Bytes at the front, behind their number. -/
def takeB (b : List UInt8) : Except Int (List UInt8 × List UInt8) :=
  match takeNum b with
  | .error e => .error e
  | .ok (n, r) => if r.length < n then .error 11 else .ok (r.take n, r.drop n)

/-- A form at the front. -/
def snParts (b : List UInt8) : Except Int ((Nat × Nat × List UInt8 × List UInt8) × List UInt8) :=
  match takeNum b with
  | .error e => .error e
  | .ok (x, b1) => match takeNum b1 with
    | .error e => .error e
    | .ok (y, b2) => match takeB b2 with
      | .error e => .error e
      | .ok (c, b3) => match takeB b3 with
        | .error e => .error e
        | .ok (d, b4) => .ok ((x, y, c, d), b4)

def snTake (b : List UInt8) : Except Int Sn :=
  match snParts b with
  | .error e => .error e
  | .ok (_, _ :: _) => .error 12
  | .ok ((x, y, c, d), []) => if 1 ≤ x ∧ x < 10000000000 ∧ 1 ≤ y ∧ y < 10000000000 then .ok ⟨x, y, c, d⟩ else .error 13

def snParse (b : List UInt8) : Except Int Sn :=
  if b.length < 4 then .error 11
  else if b.take 4 ≠ four (C.sumOf (b.drop 4)) then .error 51
  else snTake (b.drop 4)

def snName (i : Int) : ByteArray := ⟨([115, 110, 97, 112, 45] ++ dg 10 i.toNat).toArray⟩

/-- What is aside. -/
def nmNew : ByteArray := ⟨#[115, 110, 97, 112, 45, 110, 101, 119]⟩

/-- A row of digits as a number. -/
def digs (l : List UInt8) : Nat := l.foldl (fun n c => 10 * n + (c.toNat - 48)) 0

def isDig (c : UInt8) : Bool := decide (48 ≤ c.toNat ∧ c.toNat ≤ 57)

/-- The Index that a file's name says. -/
def snIdx (s : ByteArray) : Option Nat :=
  if s.size = 15 ∧ s.data.toList.take 5 = [115, 110, 97, 112, 45] ∧ (s.data.toList.drop 5).all isDig = true then some (digs (s.data.toList.drop 5)) else none

/-- What a file has, if it is whole. -/
def readF (f : Fl) : Option Sn :=
  match snIdx f.nm with
  | none => none
  | some n => match snParse f.b with
    | .error _ => none
    | .ok x => if x.idx = n then some x else none

def newestF (fs : List Fl) : Option Sn := (fs.filterMap readF).getLast?

/-- .. as it is kept: of Index 0, if there is none. -/
def newestS (fs : List Fl) : Sn := (newestF fs).getD Sn.zero

def dropNew (d : Dk) : Int × Dk := if D.isThere d.fs nmNew then D.remove d [nmNew] else (0, d)

def writeF (d : Dk) (nm : ByteArray) (b : List UInt8) : Int × Dk :=
  let s := saveF d nmNew b
  if s.1 ≠ 0 then s else D.rename s.2 nmNew nm

def hasS (top : Sn) (i : Int) : Bool := decide (top.idx ≠ 0 ∧ i ≤ top.idx)

def putS (d : Dk) (top x : Sn) : Int × Dk :=
  if okSn (x.idx, x.term) = false ∨ hasS top x.idx = true then (2, d) else writeF d (snName x.idx) (snBytes x)

def elder (top : Int) (s : ByteArray) : Bool := match snIdx s with
  | none => false
  | some n => decide ((n : Int) < top)

def removeEach (d : Dk) : List ByteArray → Int × Dk
  | [] => (0, d)
  | s :: l =>
    let r := D.remove d [s]
    if r.1 ≠ 0 then r else removeEach r.2 l

def cleanS (d : Dk) (top : Int) : Int × Dk :=
  let r := removeEach d ((d.fs.map (·.nm)).filter (elder top))
  if r.1 ≠ 0 then r else dropNew r.2

/-! There and back. -/

theorem dig_fold : ∀ (k : Nat) (l : List UInt8), l.length ≤ k → l.head? ≠ some 0 → dig k (fold256 l) = l
  | 0, l, h, _ => by
    obtain rfl : l = [] := List.eq_nil_of_length_eq_zero (by omega)
    rfl
  | k + 1, l, h, h0 => by
    rcases List.eq_nil_or_concat l with rfl | ⟨t, c, rfl⟩
    · simp [fold256, dig]
    · simp only [List.concat_eq_append] at h h0 ⊢
      rw [List.length_append, List.length_singleton] at h
      have hc := c.toNat_lt
      have ht : t.head? ≠ some 0 := by
        cases t with
        | nil => simp
        | cons a t => simpa using h0
      have ih := dig_fold k t (by omega) ht
      rw [fold256_snoc, dig]
      have hne : fold256 t * 256 + c.toNat ≠ 0 := by
        intro h1
        have h2 : fold256 t = 0 := by omega
        have h3 : c.toNat = 0 := by omega
        rw [h2] at ih
        have h4 : t = [] := by rw [← ih]; cases k <;> simp [dig]
        rw [h4] at h0
        apply h0
        simp only [List.nil_append, List.head?_cons, Option.some.injEq]
        exact UInt8.toNat_inj.1 (by rw [h3]; rfl)
      rw [if_neg hne, show (fold256 t * 256 + c.toNat) / 256 = fold256 t by omega, show (fold256 t * 256 + c.toNat) % 256 = c.toNat by omega, ih]
      simp

/-- A number that is read off bytes stands there in its form. -/
theorem takeNum_inv {b r : List UInt8} {n : Nat} (h : takeNum b = .ok (n, r)) : b = num n ++ r := by
  cases b with
  | nil => rw [takeNum] at h; cases h
  | cons c b =>
    rw [takeNum] at h
    split at h
    · cases h
    · rename_i h1
      split at h
      · cases h
      · rename_i h2
        split at h
        · cases h
        · rename_i h3
          simp only [Except.ok.injEq, Prod.mk.injEq] at h
          obtain ⟨rfl, rfl⟩ := h
          have hd := dig_fold 8 (b.take c.toNat) (by rw [List.length_take]; omega) (by
            rw [List.head?_take]
            split
            · simp
            · intro h4
              exact h2 ⟨by omega, h4⟩)
          have hf : (b.take c.toNat).foldl (fun n d => n * 256 + d.toNat) 0 = fold256 (b.take c.toNat) := rfl
          rw [hf, num, hd, List.length_take, Nat.min_eq_left (by omega)]
          simp

theorem takeB_inv {b r c : List UInt8} (h : takeB b = .ok (c, r)) : b = num c.length ++ (c ++ r) := by
  unfold takeB at h
  cases h1 : takeNum b with
  | error e => rw [h1] at h; cases h
  | ok p =>
    obtain ⟨n, q⟩ := p
    rw [h1] at h
    simp only at h
    split at h
    · cases h
    · rename_i h2
      simp only [Except.ok.injEq, Prod.mk.injEq] at h
      obtain ⟨rfl, rfl⟩ := h
      rw [takeNum_inv h1, List.length_take, Nat.min_eq_left (by omega), List.take_append_drop]

theorem takeB_form {c r : List UInt8} (h : c.length < 18446744073709551616) : takeB (num c.length ++ (c ++ r)) = .ok (c, r) := by
  unfold takeB
  rw [take_num _ _ h]
  simp only
  rw [if_neg (by simp), List.take_left, List.drop_left]

theorem snParts_form (x y : Nat) (c d r : List UInt8) (hx : x < 18446744073709551616) (hy : y < 18446744073709551616) (hc : c.length < 18446744073709551616) (hd : d.length < 18446744073709551616) :
    snParts (num x ++ (num y ++ (num c.length ++ (c ++ (num d.length ++ (d ++ r)))))) = .ok ((x, y, c, d), r) := by
  unfold snParts
  rw [take_num x _ hx]
  simp only
  rw [take_num y _ hy]
  simp only
  rw [takeB_form hc]
  simp only
  rw [takeB_form hd]

theorem snParts_inv {b r : List UInt8} {x y : Nat} {c d : List UInt8} (h : snParts b = .ok ((x, y, c, d), r)) : b = num x ++ (num y ++ (num c.length ++ (c ++ (num d.length ++ (d ++ r))))) := by
  unfold snParts at h
  cases h1 : takeNum b with
  | error e => rw [h1] at h; cases h
  | ok p =>
    obtain ⟨x', b1⟩ := p
    rw [h1] at h
    simp only at h
    cases h2 : takeNum b1 with
    | error e => rw [h2] at h; cases h
    | ok p =>
      obtain ⟨y', b2⟩ := p
      rw [h2] at h
      simp only at h
      cases h3 : takeB b2 with
      | error e => rw [h3] at h; cases h
      | ok p =>
        obtain ⟨c', b3⟩ := p
        rw [h3] at h
        simp only at h
        cases h4 : takeB b3 with
        | error e => rw [h4] at h; cases h
        | ok p =>
          obtain ⟨d', b4⟩ := p
          rw [h4] at h
          simp only [Except.ok.injEq, Prod.mk.injEq] at h
          obtain ⟨⟨rfl, rfl, rfl, rfl⟩, rfl⟩ := h
          rw [takeNum_inv h1, takeNum_inv h2, takeB_inv h3, takeB_inv h4]

theorem snTake_inv {b : List UInt8} {x : Sn} (h : snTake b = .ok x) : b = snForm x ∧ okSn (x.idx, x.term) = true := by
  unfold snTake at h
  cases h1 : snParts b with
  | error e => rw [h1] at h; cases h
  | ok p =>
    obtain ⟨⟨i, t, c, d⟩, r⟩ := p
    rw [h1] at h
    cases r with
    | cons a r => cases h
    | nil =>
      simp only at h
      split at h
      · rename_i h2
        cases h
        refine ⟨?_, by unfold okSn; simp; omega⟩
        have h3 := snParts_inv h1
        rw [List.append_nil] at h3
        rw [h3]
        unfold snForm
        simp only
        rw [u64_nn (by omega) (by omega), u64_nn (by omega) (by omega)]
        rfl
      · cases h

/-- What is read off bytes has these bytes. -/
theorem snParse_inv {b : List UInt8} {x : Sn} (h : snParse b = .ok x) : b = snBytes x ∧ okSn (x.idx, x.term) = true := by
  unfold snParse at h
  split at h
  · cases h
  · split at h
    · cases h
    · rename_i h1 h2
      obtain ⟨h3, h4⟩ := snTake_inv h
      refine ⟨?_, h4⟩
      unfold snBytes
      rw [← h3]
      have h5 : b.take 4 = four (C.sumOf (b.drop 4)) := by
        simp only [ne_eq, Decidable.not_not] at h2
        exact h2
      rw [← h5, List.take_append_drop]

theorem okSn_iff {m : Int × Int} : okSn m = true ↔ 1 ≤ m.1 ∧ m.1 < 10000000000 ∧ 1 ≤ m.2 ∧ m.2 < 10000000000 := by unfold okSn; exact decide_eq_true_iff

/-- A snapshot's bytes are the snapshot's. -/
theorem snParse_back {x : Sn} (h : okSn (x.idx, x.term) = true) (hc : x.conf.length < 18446744073709551616) (hb : x.body.length < 18446744073709551616) : snParse (snBytes x) = .ok x := by
  have h := okSn_iff.1 h
  simp only at h
  have e4 : (snBytes x).drop 4 = snForm x := List.drop_left' rfl
  have e5 : (snBytes x).take 4 = four (C.sumOf (snForm x)) := List.take_left' rfl
  have e6 : snParts (snForm x) = .ok ((u64 x.idx, u64 x.term, x.conf, x.body), []) := by
    have := snParts_form (u64 x.idx) (u64 x.term) x.conf x.body [] (u64_lt _) (u64_lt _) hc hb
    rw [List.append_nil] at this
    exact this
  unfold snParse
  rw [if_neg (by unfold snBytes; rw [List.length_append, four_length]; omega), e4, e5, if_neg (by simp)]
  unfold snTake
  rw [e6]
  simp only
  have h1 := u64_nn (n := x.idx) (by omega) (by omega)
  have h2 := u64_nn (n := x.term) (by omega) (by omega)
  rw [h1, h2, if_pos (by omega)]
  congr 1
  exact Sn.ext (by simp only; omega) (by simp only; omega) rfl rfl

theorem snBytes_le (x : Sn) : (snBytes x).length ≤ 40 + (x.conf.length + x.body.length) := by
  unfold snBytes snForm
  have h1 := num_le (u64 x.idx)
  have h2 := num_le (u64 x.term)
  have h3 := num_le x.conf.length
  have h4 := num_le x.body.length
  simp only [List.length_append, four_length]
  omega

theorem snBytes_ge (x : Sn) : 4 ≤ (snBytes x).length := by
  unfold snBytes
  rw [List.length_append, four_length]; omega
end Go.Proofs.YtamgjlegcegmeaaGreatDoor.M

/- Part: ShelfName. -/
namespace Go.Proofs.YtamgjlegcegmeaaGreatDoor.M
open Go.RowKit
open D (Fl Dk)

theorem digs_snoc (l : List UInt8) (c : UInt8) : digs (l ++ [c]) = 10 * digs l + (c.toNat - 48) := by simp [digs]

theorem digs_dg : ∀ (k n : Nat), n < 10 ^ k → digs (dg k n) = n
  | 0, n, h => by
    obtain rfl : n = 0 := by simpa using h
    rfl
  | k + 1, n, h => by
    rw [dg, digs_snoc, digs_dg k (n / 10) (by rw [Nat.pow_succ] at h; omega)]
    simp only [UInt8.toNat_ofNat']
    omega

theorem dg_isDig : ∀ (k n : Nat), (dg k n).all isDig = true
  | 0, _ => rfl
  | k + 1, n => by
    rw [dg, List.all_append, dg_isDig k]
    simp only [List.all_cons, List.all_nil, Bool.and_true, Bool.true_and]
    unfold isDig
    apply decide_eq_true
    simp only [UInt8.toNat_ofNat']
    omega

/-- Digits, as many as one likes, are those of their number. -/
theorem dg_digs : ∀ (k : Nat) (l : List UInt8), l.length = k → l.all isDig = true → dg k (digs l) = l ∧ digs l < 10 ^ k
  | 0, l, h, _ => by
    obtain rfl : l = [] := List.eq_nil_of_length_eq_zero h
    exact ⟨rfl, by decide⟩
  | k + 1, l, h, hd => by
    rcases List.eq_nil_or_concat l with rfl | ⟨t, c, rfl⟩
    · simp at h
    · simp only [List.concat_eq_append] at h hd ⊢
      rw [List.length_append, List.length_singleton] at h
      rw [List.all_append, Bool.and_eq_true] at hd
      obtain ⟨h1, h2⟩ := dg_digs k t (by omega) hd.1
      have h3 : isDig c = true := by simpa using hd.2
      unfold isDig at h3
      have h3 := of_decide_eq_true h3
      rw [digs_snoc, dg, show (10 * digs t + (c.toNat - 48)) / 10 = digs t by omega, h1, show 48 + (10 * digs t + (c.toNat - 48)) % 10 = c.toNat by omega]
      refine ⟨by simp, ?_⟩
      rw [Nat.pow_succ]; omega

theorem snName_data (i : Int) : (snName i).data.toList = [115, 110, 97, 112, 45] ++ dg 10 i.toNat := by
  unfold snName; simp

theorem snName_size (i : Int) : (snName i).size = 15 := by
  have := congrArg List.length (snName_data i)
  rw [List.length_append, dg_length] at this
  show (snName i).data.size = 15
  simpa using this

theorem snIdx_name {i : Int} (h0 : 0 ≤ i) (h1 : i < 10000000000) : snIdx (snName i) = some i.toNat := by
  unfold snIdx
  have e1 : (snName i).data.toList.take 5 = [115, 110, 97, 112, 45] := by rw [snName_data]; exact List.take_left' rfl
  have e2 : (snName i).data.toList.drop 5 = dg 10 i.toNat := by rw [snName_data]; exact List.drop_left' rfl
  rw [e1, e2, if_pos ⟨snName_size i, rfl, dg_isDig _ _⟩, digs_dg 10 i.toNat (by omega)]

theorem snIdx_inv {s : ByteArray} {n : Nat} (h : snIdx s = some n) : n < 10000000000 ∧ s = snName n := by
  unfold snIdx at h
  split at h
  · rename_i h1
    obtain ⟨h1, h2, h3⟩ := h1
    have h4 := dg_digs 10 (s.data.toList.drop 5) (by rw [List.length_drop]; show s.size - 5 = 10; omega) h3
    cases h
    refine ⟨h4.2, ?_⟩
    have h5 : s.data.toList = (snName ((digs (s.data.toList.drop 5) : Nat) : Int)).data.toList := by
      rw [snName_data, Int.toNat_natCast, h4.1, ← h2, List.take_append_drop]
    apply D.nm_ext
    rw [D.toList_data, D.toList_data]
    exact h5
  · cases h

theorem snIdx_new : snIdx nmNew = none := by decide +kernel

theorem new_ne {s : ByteArray} {n : Nat} (h : snIdx s = some n) : s ≠ nmNew := by
  rintro rfl
  rw [snIdx_new] at h; cases h

theorem snIdx_inj {s t : ByteArray} {n : Nat} (h : snIdx s = some n) (g : snIdx t = some n) : s = t := by
  rw [(snIdx_inv h).2, (snIdx_inv g).2]

theorem isDig_ok {c : UInt8} (h : isDig c = true) : D.okByte c = true := by
  rw [D.okByte_iff]
  unfold isDig at h
  have := of_decide_eq_true h
  omega

theorem snName_ok (i : Int) : D.okName (snName i) = true := by
  unfold D.okName
  rw [snName_data, snName_size, List.all_append, Bool.and_eq_true, Bool.and_eq_true]
  refine ⟨⟨by decide +kernel, ?_⟩, by decide⟩
  rw [List.all_eq_true]
  intro c hc
  exact isDig_ok (List.all_eq_true.1 (dg_isDig 10 i.toNat) c hc)

theorem nmNew_ok : D.okName nmNew = true := by decide +kernel

/-- Of rows with as many digits the lesser number's is ahead. -/
theorem digs_lt : ∀ (a b : List UInt8), a.length = b.length → a.all isDig = true → b.all isDig = true → a < b → digs a < digs b := by
  -- over the first digits
  have key : ∀ (a b : List UInt8) (m n : Nat), a.length = b.length → a.all isDig = true → b.all isDig = true → (m < n ∨ (m = n ∧ a < b)) →
      a.foldl (fun n c => 10 * n + (c.toNat - 48)) m < b.foldl (fun n c => 10 * n + (c.toNat - 48)) n := by
    intro a
    induction a with
    | nil =>
      intro b m n hl _ _ h
      obtain rfl : b = [] := List.eq_nil_of_length_eq_zero hl.symm
      rcases h with h | ⟨_, h⟩
      · exact h
      · exact absurd h (List.lt_irrefl _)
    | cons x a ih =>
      intro b m n hl ha hb h
      cases b with
      | nil => simp at hl
      | cons y b =>
        simp only [List.length_cons, Nat.add_right_cancel_iff] at hl
        rw [List.all_cons, Bool.and_eq_true] at ha hb
        have hx : isDig x = true := ha.1
        have hy : isDig y = true := hb.1
        unfold isDig at hx hy
        have hx := of_decide_eq_true hx
        have hy := of_decide_eq_true hy
        rw [List.foldl_cons, List.foldl_cons]
        apply ih b _ _ hl ha.2 hb.2
        rcases h with h | ⟨rfl, h⟩
        · left; omega
        · rw [List.cons_lt_cons_iff] at h
          rcases h with h | ⟨rfl, h⟩
          · left
            have := UInt8.lt_iff_toNat_lt.1 h
            omega
          · exact .inr ⟨rfl, h⟩
  intro a b hl ha hb h
  exact key a b 0 0 hl ha hb (.inr ⟨rfl, h⟩)

theorem snIdx_lt {s t : ByteArray} {m n : Nat} (hs : snIdx s = some m) (ht : snIdx t = some n) (h : s.toList < t.toList) : m < n := by
  obtain ⟨h1, h2⟩ := snIdx_inv hs
  obtain ⟨h3, h4⟩ := snIdx_inv ht
  rw [D.toList_data, D.toList_data, h2, h4, snName_data, snName_data] at h
  have h5 : dg 10 m < dg 10 n := by
    rw [Int.toNat_natCast, Int.toNat_natCast] at h
    simpa [List.cons_lt_cons_iff] using h
  have h6 := digs_lt _ _ (by rw [dg_length, dg_length]) (dg_isDig _ _) (dg_isDig _ _) h5
  rwa [digs_dg 10 m h1, digs_dg 10 n h3] at h6

theorem readF_some {f : Fl} {x : Sn} (h : readF f = some x) : ∃ n, snIdx f.nm = some n ∧ x.idx = n ∧ snParse f.b = .ok x := by
  unfold readF at h
  cases h1 : snIdx f.nm with
  | none => rw [h1] at h; cases h
  | some n =>
    rw [h1] at h
    simp only at h
    cases h2 : snParse f.b with
    | error e => rw [h2] at h; cases h
    | ok y =>
      rw [h2] at h
      simp only at h
      split at h
      · rename_i h3
        cases h
        exact ⟨n, rfl, h3, rfl⟩
      · cases h

theorem readF_of {f : Fl} {x : Sn} {n : Nat} (h1 : snIdx f.nm = some n) (h2 : x.idx = n) (h3 : snParse f.b = .ok x) : readF f = some x := by
  unfold readF
  rw [h1]
  simp only
  rw [h3]
  simp only
  rw [if_pos h2]

theorem readF_new {f : Fl} (h : f.nm = nmNew) : readF f = none := by
  unfold readF
  rw [h, snIdx_new]

theorem read_rising {fs : List Fl} (h : D.Rising fs) : (fs.filterMap readF).Pairwise fun x y => x.idx < y.idx := by
  refine List.Pairwise.filterMap readF (fun a a' hlt b hb b' hb' => ?_) h
  obtain ⟨m, h1, h2, -⟩ := readF_some hb
  obtain ⟨n, h3, h4, -⟩ := readF_some hb'
  have := snIdx_lt h1 h3 hlt
  omega

/-- The newest is the whole one with the greatest Index. -/
theorem newest_iff {fs : List Fl} (h : D.Rising fs) (x : Sn) : newestF fs = some x ↔ (∃ f ∈ fs, readF f = some x) ∧ ∀ f ∈ fs, ∀ y, readF f = some y → y.idx ≤ x.idx := by
  have hp := read_rising h
  unfold newestF
  have hm : ∀ y, y ∈ fs.filterMap readF ↔ ∃ f ∈ fs, readF f = some y := fun y => List.mem_filterMap
  obtain ⟨l, hl⟩ : ∃ l, l = fs.filterMap readF := ⟨_, rfl⟩
  rw [← hl] at hp hm ⊢
  constructor
  · intro h1
    obtain ⟨t, rfl⟩ : ∃ t, l = t ++ [x] := by
      rw [List.getLast?_eq_some_iff] at h1
      exact h1
    refine ⟨(hm x).1 (by simp), fun f hf y hy => ?_⟩
    have h2 := (hm y).2 ⟨f, hf, hy⟩
    rw [List.mem_append] at h2
    rcases h2 with h2 | h2
    · have := (List.pairwise_append.1 hp).2.2 y h2 x (by simp)
      omega
    · have h3 : y = x := by simpa using h2
      rw [h3]
      exact Int.le_refl _
  · rintro ⟨⟨f, hf, h1⟩, h2⟩
    have h3 : x ∈ l := (hm x).2 ⟨f, hf, h1⟩
    rcases List.eq_nil_or_concat l with h4 | ⟨t, c, h4⟩
    · rw [h4] at h3; cases h3
    · simp only [List.concat_eq_append] at h4
      subst h4
      rw [List.mem_append] at h3
      rcases h3 with h3 | h3
      · have h5 := (List.pairwise_append.1 hp).2.2 x h3 c (by simp)
        obtain ⟨g, hg, h6⟩ := (hm c).1 (by simp)
        have := h2 g hg c h6
        omega
      · have h3 : x = c := by simpa using h3
        rw [h3]
        simp

theorem newest_none {fs : List Fl} : newestF fs = none ↔ ∀ f ∈ fs, readF f = none := by
  unfold newestF
  rw [List.getLast?_eq_none_iff, List.filterMap_eq_nil_iff]

theorem newest_ok {fs : List Fl} {x : Sn} (h : newestF fs = some x) : okSn (x.idx, x.term) = true := by
  unfold newestF at h
  obtain ⟨t, h1⟩ := List.getLast?_eq_some_iff.1 h
  obtain ⟨f, -, h2⟩ := List.mem_filterMap.1 (show x ∈ fs.filterMap readF by rw [h1]; simp)
  obtain ⟨n, -, -, h3⟩ := readF_some h2
  exact (snParse_inv h3).2

theorem newestS_none {fs : List Fl} : (newestS fs).idx = 0 ↔ newestF fs = none := by
  unfold newestS
  constructor
  · intro h
    cases h1 : newestF fs with
    | none => rfl
    | some x =>
      rw [h1] at h
      have := okSn_iff.1 (newest_ok h1)
      simp only [Option.getD_some] at h
      omega
  · intro h
    rw [h]; rfl
end Go.Proofs.YtamgjlegcegmeaaGreatDoor.M

/- Part: ShelfMem. -/
namespace Go.Proofs.YtamgjlegcegmeaaGreatDoor.M
open Go.RowKit
open D (Fl Dk)

theorem tickS_room (d : Dk) : d.tick.room = d.room := by unfold D.Dk.tick; split <;> rfl
theorem tickS_fs (d : Dk) : d.tick.fs = d.fs := by unfold D.Dk.tick; split <;> rfl
theorem tickS_ends (d : Dk) : d.tick.ends = d.ends := by unfold D.Dk.tick; split <;> rfl
theorem free_stopped {d : Dk} (h : d.ends = false) : d.stopped = false := by unfold D.Dk.stopped; rw [h]; rfl

theorem mem_modify_iff {fs : List Fl} (h : D.Rising fs) {s : ByteArray} {g : Fl → Fl} {f : Fl} :
    f ∈ fs.modify (D.find fs s) g ↔ (f ∈ fs ∧ f.nm ≠ s) ∨ ∃ f0 ∈ fs, f0.nm = s ∧ f = g f0 := by
  constructor
  · exact D.mem_modify h
  · intro h1
    rw [List.mem_iff_getElem]
    rcases h1 with ⟨h1, h2⟩ | ⟨f0, h1, h2, rfl⟩
    · obtain ⟨i, hi, rfl⟩ := List.mem_iff_getElem.1 h1
      refine ⟨i, by rw [List.length_modify]; exact hi, ?_⟩
      rw [List.getElem_modify, if_neg]
      intro e
      apply h2
      have hi2 : D.find fs s < fs.length := by omega
      have := D.find_nm hi2
      simp only [← e]
      exact this
    · obtain ⟨i, hi, rfl⟩ := List.mem_iff_getElem.1 h1
      refine ⟨i, by rw [List.length_modify]; exact hi, ?_⟩
      rw [List.getElem_modify, if_pos (h.find_eq hi h2)]

/-- A file is taken away. -/
theorem remove1 {d : Dk} (hr : D.Rising d.fs) {s : ByteArray} (hs : D.isThere d.fs s = true) :
    (d.stopped = true ∧ D.remove d [s] = (32, d)) ∨ (d.stopped = false ∧ ∃ d', D.remove d [s] = (0, d') ∧ d'.room = d.room ∧ d'.ends = d.ends ∧ (∀ f, f ∈ d'.fs ↔ f ∈ d.fs ∧ f.nm ≠ s) ∧ d'.fs.length + 1 = d.fs.length) := by
  unfold D.remove
  cases hst : d.stopped with
  | true => exact .inl ⟨rfl, by simp⟩
  | false =>
    refine .inr ⟨rfl, { d.tick with fs := d.fs.eraseIdx (D.find d.fs s) }, ?_, tickS_room d, tickS_ends d, fun f => D.mem_erase hr, ?_⟩
    · simp only [Bool.false_eq_true, if_false, tickS_fs]
      rw [if_neg (by simp [D.eachOnce, hs])]
      simp
    · simp only
      rw [List.length_eraseIdx, if_pos (D.find_lt hs)]
      have := D.find_lt hs
      omega

/-- Bytes in a new file. -/
theorem append1 {d : Dk} (hr : D.Rising d.fs) {s : ByteArray} {b : List UInt8} (hs : D.isThere d.fs s = false) (hn : D.okName s = true) (hf : ((D.used d.fs + b.length : Nat) : Int) ≤ d.room) (hl : d.fs.length < 4096) :
    (d.stopped = true ∧ D.append d s [b] = (32, d)) ∨ (d.stopped = false ∧ ∃ d', D.append d s [b] = (0, d') ∧ d'.room = d.room ∧ d'.ends = d.ends ∧ (∀ f, f ∈ d'.fs ↔ f ∈ d.fs ∨ f = ⟨s, b, 0⟩) ∧ d'.fs.length = d.fs.length + 1) := by
  unfold D.append
  cases hst : d.stopped with
  | true => exact .inl ⟨rfl, by simp⟩
  | false =>
    have hnot := D.isThere_not.1 hs
    have hr2 : D.Rising (D.add d.fs ⟨s, [], 0⟩) := hr.add hnot
    refine .inr ⟨rfl, { d.tick with fs := D.layAt (D.add d.fs ⟨s, [], 0⟩) (D.find (D.add d.fs ⟨s, [], 0⟩) s) b }, ?_, tickS_room d, tickS_ends d, fun f => ?_, ?_⟩
    · simp only [Bool.false_eq_true, if_false]
      rw [if_neg (by rw [hn]; simp), if_neg (by
        unfold D.Dk.free
        rw [tickS_room, tickS_fs, hs]
        simp
        omega)]
      simp only [tickS_fs, hs, Bool.false_eq_true, if_false]
      simp
    · simp only [D.layAt]
      rw [mem_modify_iff hr2]
      constructor
      · rintro (⟨h1, h2⟩ | ⟨f0, h1, h2, rfl⟩)
        · rcases D.mem_add.1 h1 with h1 | h1
          · exact absurd (by rw [h1]) h2
          · exact .inl h1
        · rcases D.mem_add.1 h1 with h1 | h1
          · rw [h1]; exact .inr (by simp)
          · exact absurd h2 (hnot f0 h1)
      · rintro (h1 | rfl)
        · exact .inl ⟨D.mem_add.2 (.inr h1), hnot f h1⟩
        · exact .inr ⟨⟨s, [], 0⟩, D.mem_add.2 (.inl rfl), rfl, by simp⟩
    · simp only [D.layAt]
      rw [List.length_modify, D.length_add]

/-- A file is made safe. -/
theorem sync1 {d : Dk} (hr : D.Rising d.fs) {s : ByteArray} (hs : D.isThere d.fs s = true) :
    (d.stopped = true ∧ D.sync d [s] = (32, d)) ∨ (d.stopped = false ∧ ∃ d', D.sync d [s] = (0, d') ∧ d'.room = d.room ∧ d'.ends = d.ends ∧ (∀ f, f ∈ d'.fs ↔ (f ∈ d.fs ∧ f.nm ≠ s) ∨ ∃ g ∈ d.fs, g.nm = s ∧ f = { g with safe := g.b.length }) ∧ d'.fs.length = d.fs.length) := by
  unfold D.sync
  cases hst : d.stopped with
  | true => exact .inl ⟨rfl, by simp⟩
  | false =>
    refine .inr ⟨rfl, { d.tick with fs := D.syncAt d.fs (D.find d.fs s) }, ?_, tickS_room d, tickS_ends d, fun f => mem_modify_iff hr, ?_⟩
    · simp only [Bool.false_eq_true, if_false, tickS_fs]
      rw [if_neg (by simp [hs])]
      simp
    · simp only [D.syncAt]
      rw [List.length_modify]

/-- A file has another name. -/
theorem rename1 {d : Dk} (hr : D.Rising d.fs) {a b : ByteArray} (hs : D.isThere d.fs a = true) (hb : D.okName b = true) (hab : a ≠ b) :
    (d.stopped = true ∧ D.rename d a b = (32, d)) ∨ (d.stopped = false ∧ ∃ d', D.rename d a b = (0, d') ∧ d'.room = d.room ∧ d'.ends = d.ends ∧ (∀ f, f ∈ d'.fs ↔ (f ∈ d.fs ∧ f.nm ≠ a ∧ f.nm ≠ b) ∨ ∃ g ∈ d.fs, g.nm = a ∧ f = { g with nm := b }) ∧ d'.fs.length ≤ d.fs.length) := by
  unfold D.rename
  cases hst : d.stopped with
  | true => exact .inl ⟨rfl, by simp⟩
  | false =>
    have hlt := D.find_lt hs
    have hnm := D.find_nm hlt
    refine .inr ⟨rfl, { d.tick with fs := D.add ((d.fs.eraseIdx (D.find d.fs a)).eraseIdx (D.find (d.fs.eraseIdx (D.find d.fs a)) b)) { d.fs[D.find d.fs a] with nm := b } }, ?_, tickS_room d, tickS_ends d, fun f => ?_, ?_⟩
    · simp only [Bool.false_eq_true, if_false, tickS_fs]
      rw [if_neg (by simp [hs, hb]), List.getElem?_eq_getElem hlt]
    · simp only
      rw [D.mem_add, D.mem_erase (hr.erase _), D.mem_erase hr]
      constructor
      · rintro (rfl | ⟨⟨h1, h2⟩, h3⟩)
        · exact .inr ⟨_, List.getElem_mem hlt, hnm, rfl⟩
        · exact .inl ⟨h1, h2, h3⟩
      · rintro (⟨h1, h2, h3⟩ | ⟨g, h1, h2, rfl⟩)
        · exact .inr ⟨⟨h1, h2⟩, h3⟩
        · left
          rw [hr.uniq h1 (List.getElem_mem hlt) (by rw [h2, hnm])]
    · simp only
      rw [D.length_add]
      have h1 : ((d.fs.eraseIdx (D.find d.fs a)).eraseIdx (D.find (d.fs.eraseIdx (D.find d.fs a)) b)).length ≤ (d.fs.eraseIdx (D.find d.fs a)).length := (List.eraseIdx_sublist ..).length_le
      rw [List.length_eraseIdx (i := D.find d.fs a), if_pos hlt] at h1
      omega

/-- What is whole of a file's names is found by them alone. -/
theorem newest_congr {fs gs : List Fl} (hf : D.Rising fs) (hg : D.Rising gs) (h : ∀ f, readF f ≠ none → (f ∈ fs ↔ f ∈ gs)) : newestF fs = newestF gs := by
  cases h1 : newestF gs with
  | none =>
    rw [newest_none] at h1 ⊢
    intro f hf2
    cases h2 : readF f with
    | none => rfl
    | some x =>
      rw [h1 f ((h f (by rw [h2]; simp)).1 hf2)] at h2
      cases h2
  | some x =>
    rw [newest_iff hg] at h1
    rw [newest_iff hf]
    obtain ⟨⟨f, h2, h3⟩, h4⟩ := h1
    refine ⟨⟨f, (h f (by rw [h3]; simp)).2 h2, h3⟩, fun g hg2 y hy => h4 g ((h g (by rw [hy]; simp)).1 hg2) y hy⟩

theorem crashFs_mem : ∀ {fs : List Fl} {ks : List Int} {f : Fl}, f ∈ D.crashFs fs ks → ∃ g ∈ fs, ∃ k : Option Int, f = { g with b := g.b.take (D.stays g k), safe := D.stays g k }
  | [], _, _, h => by cases h
  | x :: fs, ks, f, h => by
    rw [D.crashFs, List.mem_cons] at h
    rcases h with rfl | h
    · exact ⟨x, by simp, _, rfl⟩
    · obtain ⟨g, h1, k, h2⟩ := crashFs_mem h
      exact ⟨g, by simp [h1], k, h2⟩

theorem stays_safe {g : Fl} (h : g.safe = g.b.length) (k : Option Int) : ({ g with b := g.b.take (D.stays g k), safe := D.stays g k } : Fl) = g := by
  have h1 : D.stays g k = g.b.length := by
    unfold D.stays
    split
    · exact h
    · split
      · omega
      · exact h
  rw [h1, List.take_length, ← h]

theorem mem_crashFs : ∀ {fs : List Fl} {ks : List Int} {g : Fl}, g ∈ fs → g.safe = g.b.length → g ∈ D.crashFs fs ks
  | [], _, _, h, _ => by cases h
  | x :: fs, ks, g, h, hs => by
    rw [D.crashFs, List.mem_cons]
    rw [List.mem_cons] at h
    rcases h with rfl | h
    · left
      rw [stays_safe hs]
    · exact .inr (mem_crashFs h hs)

theorem crashFsS_length : ∀ (fs : List Fl) (ks : List Int), (D.crashFs fs ks).length = fs.length
  | [], _ => rfl
  | _ :: fs, ks => by rw [D.crashFs, List.length_cons, List.length_cons, crashFsS_length fs]

theorem crashFs_names : ∀ (fs : List Fl) (ks : List Int) (i : Nat) (h1 : i < fs.length) (h2 : i < (D.crashFs fs ks).length), ((D.crashFs fs ks)[i]).nm = fs[i].nm
  | [], _, i, h1, _ => by simp at h1
  | f :: fs, ks, 0, _, _ => rfl
  | f :: fs, ks, i + 1, h1, h2 => by
    have := crashFs_names fs ks.tail i (by simpa using h1) (by simpa [D.crashFs] using h2)
    simpa [D.crashFs] using this

theorem dropNew_well' {d : Dk} (h : Well d) : Well (dropNew d).2 ∧ D.used (dropNew d).2.fs ≤ D.used d.fs := by
  unfold dropNew
  split
  · exact remove_well h [nmNew]
  · exact ⟨h, Nat.le_refl _⟩

theorem used_bound {fs : List Fl} {m : Nat} (h : ∀ f ∈ fs, f.b.length ≤ m) : D.used fs ≤ m * fs.length := by
  induction fs with
  | nil => simp [D.used]
  | cons f fs ih =>
    rw [D.used_cons, List.length_cons, Nat.mul_succ]
    have h1 := h f (by simp)
    have h2 := ih fun g hg => h g (by simp [hg])
    omega
end Go.Proofs.YtamgjlegcegmeaaGreatDoor.M

/- Part: ShA. -/
namespace Go.Proofs.YtamgjlegcegmeaaGreatDoor.M
open Go.RowKit
open D (Fl Dk)

def snAgg (x : Sn) (c b : Value) : Value := .agg #[.int .i64 x.idx, .int .i64 x.term, c, b]

theorem sh_four {w : World} {g : Nat} {x0 x1 x2 x3 : Value} {t : TypeId} (h : w.heap[g]? = some (.cells #[x0, x1, x2, x3] t)) :
    w.cell? ⟨g, 0, none⟩ = some x0 ∧ w.cell? ⟨g, 1, none⟩ = some x1 ∧ w.cell? ⟨g, 2, none⟩ = some x2 ∧ w.cell? ⟨g, 3, none⟩ = some x3 ∧
    w.frozen? ⟨g, 0, none⟩ = false ∧ w.frozen? ⟨g, 1, none⟩ = false ∧ w.frozen? ⟨g, 2, none⟩ = false ∧ w.frozen? ⟨g, 3, none⟩ = false ∧ g < w.heap.size :=
  ⟨cell_of_row w g 0 _ t _ h, cell_of_row w g 1 _ t _ h, cell_of_row w g 2 _ t _ h, cell_of_row w g 3 _ t _ h, frozen_of_row w g 0 _ t h, frozen_of_row w g 1 _ t h, frozen_of_row w g 2 _ t h, frozen_of_row w g 3 _ t h, lt_of_heap h⟩

theorem sh_five {w : World} {g : Nat} {x0 x1 x2 x3 x4 : Value} {t : TypeId} (h : w.heap[g]? = some (.cells #[x0, x1, x2, x3, x4] t)) :
    w.cell? ⟨g, 0, none⟩ = some x0 ∧ w.cell? ⟨g, 1, none⟩ = some x1 ∧ w.cell? ⟨g, 2, none⟩ = some x2 ∧ w.cell? ⟨g, 3, none⟩ = some x3 ∧ w.cell? ⟨g, 4, none⟩ = some x4 ∧ g < w.heap.size :=
  ⟨cell_of_row w g 0 _ t _ h, cell_of_row w g 1 _ t _ h, cell_of_row w g 2 _ t _ h, cell_of_row w g 3 _ t _ h, cell_of_row w g 4 _ t _ h, lt_of_heap h⟩

end Go.Proofs.YtamgjlegcegmeaaGreatDoor.M

/- Part: ShB. -/
namespace Go.Proofs.YtamgjlegcegmeaaGreatDoor.M
open Go.RowKit
open D (Fl Dk)

theorem four_map (cs : Nat) (h : cs < 4294967296) : (four cs).map byteV = [.int .u8 ((cs : Int) / 16777216), .int .u8 ((cs : Int) / 65536 % 256), .int .u8 ((cs : Int) / 256 % 256), .int .u8 ((cs : Int) % 256)] := by
  unfold four
  simp only [List.map_cons, List.map_nil, byteV, UInt8.toNat_ofNat']
  congr 2 <;> omega

def nmSnap : ByteArray := ⟨#[91, 110, 110, 98, 98, 93]⟩

theorem shape_snap : shape nmSnap.data.toList = some (.row [.num, .num, .blob, .blob]) := by kernel_rfl

def snV (i t : Nat) (c b : List UInt8) : V := .mk 0 [] [.mk i [] [], .mk t [] [], .mk 0 c [], .mk 0 b []]

theorem put_snap (i t : Nat) (c b : List UInt8) : putAll nmSnap.data.toList [snV i t c b] = .ok (num i ++ (num t ++ (num c.length ++ (c ++ (num b.length ++ b))))) := by
  unfold putAll
  rw [shape_snap]
  simp only
  rw [if_pos (by simp [snV, isV, isVs, V.l])]
  simp [snV, putV, putVs, V.l, V.n, V.b]

theorem snap_size {i t : Nat} {c b : List UInt8} (h : c.length + b.length ≤ 1000000000) : vsizes [snV i t c b] ≤ 1099511627776 := by
  simp only [vsizes, vsize, snV, List.length_nil]
  omega

theorem rep_snap {w : World} {i t : Nat} {c b : List UInt8} {cv bv : Value} {g : Nat} (hg : g = w.heap.size) (hi : i < 18446744073709551616) (ht : t < 18446744073709551616) {F : Nat → Prop} (hc : RepB w F c cv) (hb : RepB w F b bv) (hF : ∀ k, F k → k < w.heap.size) {T1 T2 : TypeId} :
    RepVl ((w.alloc (.cells #[.int .u64 (i : Int), .slice none 0 0, .slice none 0 0, .int .u64 (t : Int), .slice none 0 0, .slice none 0 0, .int .u64 0, cv, .slice none 0 0, .int .u64 0, bv, .slice none 0 0] T1)).alloc
      (.cells #[.int .u64 0, .slice none 0 0, .slice (some ⟨g, 0, none⟩) 4 4] T2)) (fun k => k < g + 2) [snV i t c b] (.slice (some ⟨g + 1, 0, none⟩) 1 1) := by
  subst hg
  obtain ⟨W, hW⟩ : ∃ W, W = (w.alloc (.cells #[.int .u64 (i : Int), .slice none 0 0, .slice none 0 0, .int .u64 (t : Int), .slice none 0 0, .slice none 0 0, .int .u64 0, cv, .slice none 0 0, .int .u64 0, bv, .slice none 0 0] T1)).alloc
      (.cells #[.int .u64 0, .slice none 0 0, .slice (some ⟨w.heap.size, 0, none⟩) 4 4] T2) := ⟨_, rfl⟩
  have b0 : W.heap[w.heap.size]? = some (.cells #[.int .u64 (i : Int), .slice none 0 0, .slice none 0 0, .int .u64 (t : Int), .slice none 0 0, .slice none 0 0, .int .u64 0, cv, .slice none 0 0, .int .u64 0, bv, .slice none 0 0] T1) := by
    rw [hW]; exact old_alloc (heap_new w _ _ rfl)
  have b1 : W.heap[w.heap.size + 1]? = some (.cells #[.int .u64 0, .slice none 0 0, .slice (some ⟨w.heap.size, 0, none⟩) 4 4] T2) := by
    rw [hW]; exact heap_new _ _ _ (by simp)
  have hbel : Below w.heap.size w W := by rw [hW]; exact ((Below.refl _ w).alloc (Nat.le_refl _) _).alloc (by simp) _
  have rc : RepB W (fun k => k < w.heap.size + 2) c cv := hc.same (fun k hk => by have := hF k hk; omega) fun k hk => hbel.block k (hF k hk)
  have rb : RepB W (fun k => k < w.heap.size + 2) b bv := hb.same (fun k hk => by have := hF k hk; omega) fun k hk => hbel.block k (hF k hk)
  rw [← hW]
  clear hW hbel hc hb
  have c0 := fun j => cell_of_row W w.heap.size j _ T1 _ b0
  have c1 := fun j => cell_of_row W (w.heap.size + 1) j _ T2 _ b1
  have one : ∀ n : Nat, n < 18446744073709551616 → RepV W (fun k => k < w.heap.size + 2) (.mk n [] []) (.agg #[.int .u64 (n : Int), .slice none 0 0, .slice none 0 0]) := fun n hn =>
    RepV_mk.2 ⟨_, _, rfl, hn, .inl ⟨rfl, Bare.nil⟩, .inl ⟨rfl, Bare.nil⟩⟩
  have two : ∀ (l : List UInt8) (lv : Value), RepB W (fun k => k < w.heap.size + 2) l lv → RepV W (fun k => k < w.heap.size + 2) (.mk 0 l []) (.agg #[.int .u64 0, lv, .slice none 0 0]) := fun l lv hl =>
    RepV_mk.2 ⟨_, _, rfl, by omega, hl, .inl ⟨rfl, Bare.nil⟩⟩
  refine .inr ⟨w.heap.size + 1, 0, 1, rfl, by omega, Nat.le_refl _, by omega, ?_⟩
  refine RepVs.of _ fun k hk => ?_
  obtain rfl : k = 0 := by simpa using hk
  refine ⟨.agg #[.int .u64 0, .slice none 0 0, .slice (some ⟨w.heap.size, 0, none⟩) 4 4], ⟨_, _, _, rfl, c1 0, c1 1, c1 2⟩, ?_⟩
  refine RepV_mk.2 ⟨.slice none 0 0, .slice (some ⟨w.heap.size, 0, none⟩) 4 4, rfl, by omega, .inl ⟨rfl, Bare.nil⟩, .inr ⟨w.heap.size, 0, 4, rfl, by omega, Nat.le_refl _, by omega, ?_⟩⟩
  refine RepVs.of _ fun k hk => ?_
  match k, hk with
  | 0, _ => exact ⟨_, ⟨_, _, _, rfl, c0 0, c0 1, c0 2⟩, one i hi⟩
  | 1, _ => exact ⟨_, ⟨_, _, _, rfl, c0 3, c0 4, c0 5⟩, one t ht⟩
  | 2, _ => exact ⟨_, ⟨_, _, _, rfl, c0 6, c0 7, c0 8⟩, two c cv rc⟩
  | 3, _ => exact ⟨_, ⟨_, _, _, rfl, c0 9, c0 10, c0 11⟩, two b bv rb⟩

theorem RepB.old {w : World} {F : Nat → Prop} {L : List UInt8} {v : Value} (h : RepB w F L v) (hF : ∀ k, F k → k < w.heap.size) : RepB w (fun k => k < w.heap.size) L v := h.weak hF

end Go.Proofs.YtamgjlegcegmeaaGreatDoor.M

/- Part: ShC. -/
namespace Go.Proofs.YtamgjlegcegmeaaGreatDoor.M
open Go.RowKit
open D (Fl Dk)

theorem take_snap (b : List UInt8) : takeAt nmSnap.data.toList b = match snParts b with
    | .error e => .error e
    | .ok ((x, y, c, d), []) => .ok (snV x y c d)
    | .ok (_, _ :: _) => .error 12 := by
  unfold takeAt
  rw [shape_snap]
  simp only [takeV, takeVs]
  unfold snParts takeB
  cases h1 : takeNum b with
  | error e => rfl
  | ok p =>
    obtain ⟨x, b1⟩ := p
    simp only
    cases h2 : takeNum b1 with
    | error e => rfl
    | ok p =>
      obtain ⟨y, b2⟩ := p
      simp only
      cases h3 : takeNum b2 with
      | error e => rfl
      | ok p =>
        obtain ⟨n, b3⟩ := p
        simp only
        by_cases h4 : b3.length < n
        · simp only [if_pos h4]
        · simp only [if_neg h4]
          cases h5 : takeNum (b3.drop n) with
          | error e => rfl
          | ok p =>
            obtain ⟨m, b4⟩ := p
            simp only
            by_cases h6 : b4.length < m
            · simp only [if_pos h6]
            · simp only [if_neg h6]
              cases h7 : b4.drop m <;> rfl

theorem takeB_err {b : List UInt8} {e : Int} (h : takeB b = .error e) : e = 11 ∨ e = 13 := by
  unfold takeB at h
  cases h1 : takeNum b with
  | error e => rw [h1] at h; cases h; exact takeNum_error h1
  | ok p =>
    obtain ⟨n, r⟩ := p
    rw [h1] at h
    simp only at h
    split at h
    · cases h; exact .inl rfl
    · cases h

theorem snParts_err {b : List UInt8} {e : Int} (h : snParts b = .error e) : e = 11 ∨ e = 13 := by
  unfold snParts at h
  cases h1 : takeNum b with
  | error e => rw [h1] at h; cases h; exact takeNum_error h1
  | ok p =>
    obtain ⟨x, b1⟩ := p
    rw [h1] at h
    simp only at h
    cases h2 : takeNum b1 with
    | error e => rw [h2] at h; cases h; exact takeNum_error h2
    | ok p =>
      obtain ⟨y, b2⟩ := p
      rw [h2] at h
      simp only at h
      cases h3 : takeB b2 with
      | error e => rw [h3] at h; cases h; exact takeB_err h3
      | ok p =>
        obtain ⟨c, b3⟩ := p
        rw [h3] at h
        simp only at h
        cases h4 : takeB b3 with
        | error e => rw [h4] at h; cases h; exact takeB_err h4
        | ok p => rw [h4] at h; cases h

/-- What Take answers, and what comes of it. -/
theorem take_two (b : List UInt8) : (∃ e : Int, takeAt nmSnap.data.toList b = .error e ∧ snTake b = .error e ∧ (e = 11 ∨ e = 12 ∨ e = 13)) ∨
    (∃ x y c d, takeAt nmSnap.data.toList b = .ok (snV x y c d) ∧ snTake b = if 1 ≤ x ∧ x < 10000000000 ∧ 1 ≤ y ∧ y < 10000000000 then .ok ⟨x, y, c, d⟩ else .error 13) := by
  rw [take_snap]
  unfold snTake
  cases h : snParts b with
  | error e => exact .inl ⟨e, rfl, rfl, by rcases snParts_err h with h | h <;> simp [h]⟩
  | ok p =>
    obtain ⟨⟨x, y, c, d⟩, r⟩ := p
    cases r with
    | nil => exact .inr ⟨x, y, c, d, rfl, rfl⟩
    | cons a r => exact .inl ⟨12, rfl, rfl, by simp⟩

theorem snTake_err {b : List UInt8} {e : Int} (h : snTake b = .error e) : e = 11 ∨ e = 12 ∨ e = 13 := by
  rcases take_two b with ⟨c, -, h1, h2⟩ | ⟨x, y, c, d, -, h1⟩
  · rw [h1] at h; cases h; exact h2
  · rw [h1] at h
    split at h
    · cases h
    · cases h; simp

theorem snParse_err {b : List UInt8} {e : Int} (h : snParse b = .error e) : e = 11 ∨ e = 51 ∨ e = 12 ∨ e = 13 := by
  unfold snParse at h
  split at h
  · cases h; simp
  · split at h
    · cases h; simp
    · rcases snTake_err h with h | h | h <;> simp [h]

theorem rep_snV {w : World} {F : Nat → Prop} {x y : Nat} {c d : List UInt8} {u : Value} (h : RepV w F (snV x y c d) u) :
    ∃ a0 c0 b off cp u1 u2, u = .agg #[.int .u64 0, .slice a0 0 c0, .slice (some ⟨b, off, none⟩) 4 cp] ∧ F b ∧ x < 18446744073709551616 ∧ y < 18446744073709551616 ∧
      w.cell? ⟨b, off, none⟩ = some (.int .u64 (x : Int)) ∧ w.cell? ⟨b, off + 3, none⟩ = some (.int .u64 (y : Int)) ∧ w.cell? ⟨b, off + 7, none⟩ = some u1 ∧ w.cell? ⟨b, off + 10, none⟩ = some u2 ∧ RepB w F c u1 ∧ RepB w F d u2 := by
  unfold snV at h
  obtain ⟨vb, vl, rfl, -, hvb, hl⟩ := RepV_mk.1 h
  obtain ⟨a0, c0, rfl, -⟩ := hvb.slice
  rcases hl with ⟨h, -⟩ | ⟨b, off, cp, hv, hb, h1, h2, hl⟩
  · cases h
  · have one : ∀ (n : Nat) (o : Nat) (u : Value), At3 w b o u → RepV w F (.mk n [] []) u → n < 18446744073709551616 ∧ w.cell? ⟨b, o, none⟩ = some (.int .u64 (n : Int)) := fun n o u ha hr => by
      obtain ⟨p, q, r, rfl, a0, -, -⟩ := ha
      obtain ⟨vb, vl, he, hn, -, -⟩ := RepV_mk.1 hr
      simp only [Value.agg.injEq, Array.mk.injEq, List.cons.injEq] at he
      exact ⟨hn, by rw [a0, he.1]⟩
    have two : ∀ (l : List UInt8) (o : Nat) (u : Value), At3 w b o u → RepV w F (.mk 0 l []) u → ∃ z, w.cell? ⟨b, o + 1, none⟩ = some z ∧ RepB w F l z := fun l o u ha hr => by
      obtain ⟨p, q, r, rfl, -, a1, -⟩ := ha
      obtain ⟨vb, vl, he, -, hz, -⟩ := RepV_mk.1 hr
      simp only [Value.agg.injEq, Array.mk.injEq, List.cons.injEq] at he
      exact ⟨q, a1, by rw [he.2.1]; exact hz⟩
    obtain ⟨u0, a0, r0⟩ := RepVs.get _ hl 0 (by simp)
    obtain ⟨u1, a1, r1⟩ := RepVs.get _ hl 1 (by simp)
    obtain ⟨u2, a2, r2⟩ := RepVs.get _ hl 2 (by simp)
    obtain ⟨u3, a3, r3⟩ := RepVs.get _ hl 3 (by simp)
    have e0 := one x _ _ a0 r0
    have e1 := one y _ _ a1 r1
    obtain ⟨z2, e2, f2⟩ := two c _ _ a2 r2
    obtain ⟨z3, e3, f3⟩ := two d _ _ a3 r3
    subst hv
    exact ⟨_, _, b, off, cp, z2, z3, rfl, hb, e0.1, e1.1, e0.2, e1.2, e2, e3, f2, f3⟩

/-- What a reading answers. -/
def SnPost (w : World) (r : Except Int Sn) (e : Ending) (w' : World) : Prop :=
  Below w.heap.size w w' ∧ match r with
  | .error c => e = .returned (.tuple #[snAgg Sn.zero (.slice none 0 0) (.slice none 0 0), .int .i64 c])
  | .ok x => ∃ u1 u2, e = .returned (.tuple #[snAgg x u1 u2, .int .i64 0]) ∧ RepB w' (fun k => w.heap.size ≤ k ∧ k < w'.heap.size) x.conf u1 ∧ RepB w' (fun k => w.heap.size ≤ k ∧ k < w'.heap.size) x.body u2

/-- An index beyond the ints is below 0. -/
theorem wrap_big {x : Nat} (h : 9223372036854775808 ≤ x) (h2 : x < 18446744073709551616) : IntKind.i64.wrap (x : Int) = (x : Int) - 18446744073709551616 := by
  simp [IntKind.wrap, IntKind.signed, IntKind.bits]
  omega
end Go.Proofs.YtamgjlegcegmeaaGreatDoor.M

/- Part: SegEn0. -/
namespace Go.Proofs.YtamgjlegcegmeaaGreatDoor.M
open Go.RowKit
open D (Fl Dk)

theorem four_word (x : Nat) (h : x < 4294967296) : (UInt8.ofNat (x / 16777216)).toNat * 16777216 + (UInt8.ofNat (x / 65536)).toNat * 65536 + (UInt8.ofNat (x / 256)).toNat * 256 + (UInt8.ofNat x).toNat = x := by
  simp only [UInt8.toNat_ofNat']
  omega

theorem take_row4 (i t k : Nat) (b : List UInt8) (hi : i < 18446744073709551616) (ht : t < 18446744073709551616) (hk : k < 18446744073709551616) (hb : b.length < 18446744073709551616) :
    takeAt nmRow4.data.toList (num i ++ (num t ++ (num k ++ (num b.length ++ b)))) = .ok (rowV i t k b) := by
  unfold takeAt
  rw [shape_row4]
  simp only [takeV, takeVs, take_num _ _ hi, take_num _ _ ht, take_num _ _ hk, take_num _ _ hb, Nat.lt_irrefl, if_false, List.take_length, List.drop_length, List.isEmpty_nil, if_true, rowV]

theorem rep_rowV {w : World} {F : Nat → Prop} {x y z : Nat} {d : List UInt8} {u : Value} (h : RepV w F (rowV x y z d) u) :
    ∃ a0 c0 b off cp u2, u = .agg #[.int .u64 0, .slice a0 0 c0, .slice (some ⟨b, off, none⟩) 4 cp] ∧ F b ∧
      w.cell? ⟨b, off, none⟩ = some (.int .u64 (x : Int)) ∧ w.cell? ⟨b, off + 3, none⟩ = some (.int .u64 (y : Int)) ∧ w.cell? ⟨b, off + 6, none⟩ = some (.int .u64 (z : Int)) ∧ w.cell? ⟨b, off + 10, none⟩ = some u2 ∧ RepB w F d u2 := by
  unfold rowV at h
  obtain ⟨vb, vl, rfl, -, hvb, hl⟩ := RepV_mk.1 h
  obtain ⟨a0, c0, rfl, -⟩ := hvb.slice
  rcases hl with ⟨h, -⟩ | ⟨b, off, cp, hv, hb, h1, h2, hl⟩
  · cases h
  · have one : ∀ (n : Nat) (o : Nat) (u : Value), At3 w b o u → RepV w F (.mk n [] []) u → w.cell? ⟨b, o, none⟩ = some (.int .u64 (n : Int)) := fun n o u ha hr => by
      obtain ⟨p, q, r, rfl, a0, -, -⟩ := ha
      obtain ⟨vb, vl, he, hn, -, -⟩ := RepV_mk.1 hr
      simp only [Value.agg.injEq, Array.mk.injEq, List.cons.injEq] at he
      rw [a0, he.1]
    have two : ∀ (l : List UInt8) (o : Nat) (u : Value), At3 w b o u → RepV w F (.mk 0 l []) u → ∃ z, w.cell? ⟨b, o + 1, none⟩ = some z ∧ RepB w F l z := fun l o u ha hr => by
      obtain ⟨p, q, r, rfl, -, a1, -⟩ := ha
      obtain ⟨vb, vl, he, -, hz, -⟩ := RepV_mk.1 hr
      simp only [Value.agg.injEq, Array.mk.injEq, List.cons.injEq] at he
      exact ⟨q, a1, by rw [he.2.1]; exact hz⟩
    obtain ⟨u0, a0, r0⟩ := RepVs.get _ hl 0 (by simp)
    obtain ⟨u1, a1, r1⟩ := RepVs.get _ hl 1 (by simp)
    obtain ⟨u2, a2, r2⟩ := RepVs.get _ hl 2 (by simp)
    obtain ⟨u3, a3, r3⟩ := RepVs.get _ hl 3 (by simp)
    have e0 := one x _ _ a0 r0
    have e1 := one y _ _ a1 r1
    have e2 := one z _ _ a2 r2
    obtain ⟨z3, e3, f3⟩ := two d _ _ a3 r3
    subst hv
    exact ⟨_, _, b, off, cp, z3, rfl, hb, e0, e1, e2, e3, f3⟩

/-- The bytes from the fourth, the eighth on. -/
theorem RepB.dropN {w : World} {F : Nat → Prop} {L : List UInt8} {b off c : Nat} (m : Nat) (hF : F b) (hc : ∀ (j : Nat) (hj : j < L.length), w.cell? ⟨b, off + j, none⟩ = some (.int .u8 (L[j].toNat : Int))) (h4 : m ≤ L.length) (hl : L.length ≤ c) (hm : c ≤ 9223372036854775807) :
    RepB w F (L.drop m) (.slice (if c = m then some ⟨b, off, none⟩ else some ⟨b, off + m, none⟩) (L.length - m) (c - m)) := by
  by_cases h : c = m
  · rw [if_pos h]
    have e : L.length = m := by omega
    refine .inl ⟨List.drop_of_length_le (by omega), _, c - m, by rw [e, Nat.sub_self], by omega, fun h => by cases h⟩
  · rw [if_neg h]
    refine .inr ⟨b, off + m, c - m, by rw [List.length_drop], hF, by rw [List.length_drop]; omega, by omega, fun i hi => ?_⟩
    have := hc (m + i) (by rw [List.length_drop] at hi; omega)
    rw [Nat.add_assoc, this]
    simp
end Go.Proofs.YtamgjlegcegmeaaGreatDoor.M

/- Part: SegFst. -/
namespace Go.Proofs.YtamgjlegcegmeaaGreatDoor.M
open Go.RowKit Go.Maps
open D (Fl Dk)

theorem cutSeg_any (i : Int) (w : World) :
    Calls Tryz.prog 70 #[.string (sgName i), .string ⟨#[115, 101, 103, 45]⟩] w fun e w' => e = .returned (.tuple #[.string ⟨(dg 10 i.toNat).toArray⟩, .bool true]) ∧ w' = w := by
  have h := Any.strings_CutPrefix Tryz.laysCut (sgName i) ⟨#[115, 101, 103, 45]⟩ w
  rw [fCut] at h
  have e1 : Lib.hasPrefix (sgName i).data.toList [115, 101, 103, 45] = true := by
    unfold Lib.hasPrefix sgName
    simp [List.isPrefixOf]
  have e2 : Lib.trimPrefix (sgName i).data.toList [115, 101, 103, 45] = dg 10 i.toNat := by
    unfold Lib.trimPrefix
    rw [e1]
    unfold sgName
    simp
  refine h.mono ?_
  rintro e w' ⟨rfl, rfl⟩
  refine ⟨?_, rfl⟩
  show Ending.returned (.tuple #[.string ⟨(Lib.trimPrefix (sgName i).data.toList [115, 101, 103, 45]).toArray⟩, .bool (Lib.hasPrefix (sgName i).data.toList [115, 101, 103, 45])]) = _
  rw [e1, e2]

set_option maxRecDepth 20000 in
set_option maxHeartbeats 1600000 in
theorem firstOf_name (i : Int) (w : World) (h0 : 0 ≤ i) (h1 : i < 10000000000) :
    Calls Tryz.prog 42 #[.string (sgName i)] w fun e w' => e = .returned (.tuple #[.int .i64 i, .bool true]) ∧ Below w.heap.size w w' := by
  have HCUT := Lib.hid (cutSeg_any i w)
  obtain ⟨nm, hnm⟩ : ∃ nm, nm = sgName i := ⟨_, rfl⟩
  rw [← hnm] at HCUT ⊢
  clear hnm
  obtain ⟨s, hs⟩ : ∃ s : ByteArray, s = ⟨(dg 10 i.toNat).toArray⟩ := ⟨_, rfl⟩
  have hsz : s.size = 10 := by rw [hs]; show (dg 10 i.toNat).toArray.size = 10; rw [List.size_toArray, dg_length]
  have HD : Hid (∀ (k : Nat) (hk : k < s.size), (s[k].toNat : Int) = 48 + (i.toNat / 10 ^ (9 - k) % 10 : Nat)) := Lib.hid fun k hk => by
    have hk2 : k < 10 := by omega
    have e := dg_get 10 i.toNat k hk2
    have e2 : s[k] = (dg 10 i.toNat)[k]'(by rw [dg_length]; exact hk2) := by subst hs; rfl
    rw [List.getElem?_eq_getElem (by rw [dg_length]; exact hk2)] at e
    rw [e2, Option.some.inj e]
    have e9 : 10 - 1 - k = 9 - k := by omega
    rw [e9]
    obtain ⟨q, hq⟩ : ∃ q, q = i.toNat / 10 ^ (9 - k) := ⟨_, rfl⟩
    rw [← hq]
    simp only [UInt8.toNat_ofNat']
    omega
  rw [← hs] at HCUT
  have hcv : ∀ w, (convert 9 34 (.string s)).run Tryz.prog w = _ := fun w => run_bytes_of_string w 9 34 5 s Tryz.underlying9 Tryz.underlying34 Tryz.underlying5
  obtain ⟨C, hC⟩ : ∃ C, C = bytesRow s (grownCap w s.size 0 5) := ⟨_, rfl⟩
  obtain ⟨cp, hcp⟩ : ∃ cp, cp = grownCap w s.size 0 5 := ⟨_, rfl⟩
  have hcw : (convert 9 34 (.string s)).run Tryz.prog w = .ok (.slice (some ⟨w.heap.size, 0, none⟩) 10 cp) (w.drew.alloc (.cells C 5 (C.size, C.size + 1))) := by
    rw [hcv w, hC, hcp, hsz]
  have HC : Hid (∀ (j : Nat) (hj : j < s.size), (w.drew.alloc (.cells C 5 (C.size, C.size + 1))).cell? ⟨w.heap.size, j, none⟩ = some (.int .u8 (s[j].toNat : Int))) := Lib.hid fun j hj => by
    have h2 := World.cell?_alloc_mark w.drew C 5 (C.size, C.size + 1) j
    have e : w.drew.heap.size = w.heap.size := rfl
    rw [e] at h2
    rw [h2, hC, bytesRow_at s _ j hj]
    rfl
  obtain ⟨w2, hw2⟩ : ∃ w2, w2 = w.drew.alloc (.cells C 5 (C.size, C.size + 1)) := ⟨_, rfl⟩
  rw [← hw2] at hcw HC
  have HB : Hid (Below w.heap.size w w2) := Lib.hid (by rw [hw2]; exact Below.mkBytes _ _ _ _)
  have HSZ := Lib.hid hsz
  obtain ⟨n, hn⟩ : ∃ n, n = i.toNat := ⟨_, rfl⟩
  rw [← hn] at HD
  have hin : i = (n : Int) := by omega
  subst hin
  have hn10 : n < 10000000000 := by omega
  clear hcv hC hcp hw2 hs hn h0 h1
  have hs3 : (s.size : Int) = 10 := by omega
  clear hsz
  go_enter Tryz.func42, Tryz.ntmps42
  go_wp2_with fail
  refine HCUT.out.mono ?_
  rintro e w1 ⟨rfl, rfl⟩
  go_wp2_with fail
  go_loop [6, 8, 24] (fun x _ j => ∃ k : Nat, k ≤ 10 ∧ j = .int .i64 (k : Int) ∧ x = .int .i64 ((n / 10 ^ (10 - k) : Nat) : Int)) (fun _ _ j => 10 - (intOf j).toNat)
  case atStart => exact ⟨0, Nat.zero_le _, rfl, by
    have : n / 10 ^ (10 - 0) = 0 := Nat.div_eq_of_lt (by omega)
    rw [this]; rfl⟩
  case round =>
    obtain ⟨k, hk, rfl, rfl⟩ := hrel
    by_cases hlt : k < 10
    · have hkk : (k : Int) < 10 := by omega
      have hlt2 : k < s.size := by omega
      have hc := HC.out k hlt2
      rw [HD.out k hlt2] at hc
      have hp1 : 10 - k = (9 - k) + 1 := by omega
      have hp2 : 10 - (k + 1) = 9 - k := by omega
      rw [hp1, Nat.pow_succ, ← Nat.div_div_eq_div_mul]
      have hq0 : n / 10 ^ (9 - k) ≤ n := Nat.div_le_self _ _
      have HQ : Hid (n / 10 ^ (10 - (k + 1)) = n / 10 ^ (9 - k)) := Lib.hid (by rw [hp2])
      obtain ⟨q, hq⟩ : ∃ q, q = n / 10 ^ (9 - k) := ⟨_, rfl⟩
      rw [← hq] at hc hq0 HQ ⊢
      obtain ⟨p, d, hd, hqd⟩ : ∃ p d : Nat, d < 10 ∧ q = 10 * p + d := ⟨q / 10, q % 10, by omega, by omega⟩
      have e1 : q / 10 = p := by omega
      have e2 : q % 10 = d := by omega
      rw [e2] at hc
      rw [e1]
      have b1 : (p : Int) < 10000000000 := by omega
      have b2 : (d : Int) < 10 := by omega
      obtain ⟨c, hcv⟩ : ∃ c : Nat, c = 48 + d := ⟨_, rfl⟩
      have hce : (48 : Int) + ((d : Nat) : Int) = (c : Int) := by omega
      rw [hce] at hc
      have p1 : (48 : Int) ≤ (c : Int) := by omega
      have p2 : (c : Int) ≤ 57 := by omega
      have p3 : decide ((c : Int) < 48) = false := decide_eq_false (by omega)
      have p4 : decide ((57 : Int) < (c : Int)) = false := decide_eq_false (by omega)
      have HCV := Lib.hid hcv
      have HQD := Lib.hid hqd
      have HLT := Lib.hid hlt
      have b3 : (0 : Int) ≤ (p : Int) := by omega
      clear hp1 hp2 hq0 hq e1 e2 hqd hlt2 hcv hce hd b2 hn10 hs3
      go_wp2_with fail
      go_round
      case rel => exact ⟨k + 1, by omega, by go_num, by have := HCV.out; rw [HQ.out, HQD.out]; go_num⟩
      case measure => simp [intOf]; omega
    · have hkk : ¬ (k : Int) < 10 := by omega
      obtain rfl : k = 10 := by omega
      go_wp2_with fail
      go_ret2
      refine ⟨?_, HB.out⟩
      simp
end Go.Proofs.YtamgjlegcegmeaaGreatDoor.M

/- Part: SegClr. -/
namespace Go.Proofs.YtamgjlegcegmeaaGreatDoor.M
open Go.RowKit Go.Maps
open D (Fl Dk)

/-- Cells stored from a place on. -/
def putMany : List Value → Nat → List Value → List Value
  | xs, _, [] => xs
  | xs, o, v :: vs => putMany (xs.set o v) (o + 1) vs

theorem putMany_length : ∀ (vs xs : List Value) (o : Nat), (putMany xs o vs).length = xs.length
  | [], _, _ => rfl
  | v :: vs, xs, o => by rw [putMany, putMany_length vs]; simp

theorem putMany_take : ∀ (vs xs : List Value) (o k : Nat), k ≤ o → (putMany xs o vs).take k = xs.take k
  | [], _, _, _, _ => rfl
  | v :: vs, xs, o, k, h => by rw [putMany, putMany_take vs _ _ _ (by omega), List.take_set_of_le (by omega)]

theorem putMany_eq : ∀ (vs xs : List Value) (o : Nat), o + vs.length ≤ xs.length → putMany xs o vs = xs.take o ++ (vs ++ xs.drop (o + vs.length))
  | [], xs, o, _ => by simp [putMany]
  | v :: vs, xs, o, h => by
    simp only [List.length_cons] at h ⊢
    rw [putMany, putMany_eq vs _ _ (by simp; omega), List.drop_set_of_lt (by omega), List.take_succ_eq_append_getElem (by simp; omega), List.getElem_set_self, List.take_set_of_le (by omega)]
    simp only [List.append_assoc, List.cons_append, List.nil_append, List.singleton_append]
    rw [show o + 1 + vs.length = o + (vs.length + 1) by omega]

theorem ownsRow_many {w : World} {base : Nat} {e : TypeId} {size g n cap : Nat} : ∀ (vs : List Value) (o : Nat) (xs : List Value) (w : World), w.ownsRow base e size (.slice (some ⟨g, 0, none⟩) n cap) n xs →
    (w.setCells g o vs).ownsRow base e size (.slice (some ⟨g, 0, none⟩) n cap) n (putMany xs o vs) ∧ w.grownBy (w.setCells g o vs) (some g)
  | [], o, xs, w, h => ⟨h, gb_refl _ _⟩
  | v :: vs, o, xs, w, h => by
    obtain ⟨h1, h2⟩ := h.stored o v
    obtain ⟨h3, h4⟩ := ownsRow_many (w := w) vs (o + 1) _ _ h1
    exact ⟨h3, gb_trans h2 h4⟩

/-- The first ones of a row. -/
theorem ownsRow_first {w : World} {base : Nat} {e : TypeId} {size g n cap k : Nat} {xs : List Value} (h : w.ownsRow base e size (.slice (some ⟨g, 0, none⟩) n cap) n xs) (hk : k ≤ n) :
    w.ownsRow base e size (.slice (some ⟨g, 0, none⟩) k cap) k (xs.take (k * size)) := by
  obtain ⟨hl, ⟨h1, -⟩ | ⟨g', cap', cur, h1, hb, hg, hnc, hcm, hcs, ht⟩⟩ := h
  · simp at h1
  · simp only [Value.slice.injEq, Option.some.injEq, Addr.mk.injEq, and_true, true_and] at h1
    obtain ⟨rfl, rfl⟩ := h1
    have hm : k * size ≤ n * size := Nat.mul_le_mul_right _ hk
    refine ⟨by rw [List.length_take, hl]; omega, .inr ⟨g, cap, cur, rfl, hb, hg, by omega, hcm, hcs, ?_⟩⟩
    rw [← ht, List.take_take, Nat.min_eq_left hm]

theorem run_clear_any (w : World) (t e ty : TypeId) (z : Value) (zs : List Value) (ht : Tryz.prog.underlying t = some (.slice e)) (hv : ∀ w, (zeroValue e).run Tryz.prog w = .ok z w) (hz : z.cells = zs.toArray) (h1 : ∀ v ∈ zs, v.oneCell' = true) (b o n c : Nat) (hn : 0 < n)
    (hc : ∀ j, j < n * zs.length → (w.cell? ⟨b, o + j, none⟩).isSome = true) (hf : ∀ j, j < n * zs.length → w.frozen? ⟨b, o + j, none⟩ = false) :
    (Builtin.clear_ #[t] ty #[.slice (some ⟨b, o, none⟩) n c]).run Tryz.prog w = .ok (.tuple #[]) (w.setCells b o (Builtin.zeroCells zs.toArray n).toList) := by
  have hlen : (Builtin.zeroCells zs.toArray n).toList.length = n * zs.length := by simp [Builtin.zeroCells]
  have hst := run_storeCells_cells (P := Tryz.prog) b o (Builtin.zeroCells zs.toArray n).toList 0 w (by rw [hlen]; simpa using hc) (by rw [hlen]; simpa using hf) (by
    intro v hv'
    simp only [Builtin.zeroCells, Array.toList_map, List.mem_map, Array.mem_toList_iff, Array.mem_range] at hv'
    obtain ⟨i, hi, rfl⟩ := hv'
    simp only [List.size_toArray] at hi ⊢
    have hpos : 0 < zs.length := by
      rcases Nat.eq_zero_or_pos zs.length with h | h
      · rw [h] at hi; omega
      · exact h
    have hm := Nat.mod_lt i hpos
    have hg : zs.toArray[i % zs.length]! = zs[i % zs.length] := by simp [getElem!_pos, hm]
    rw [hg]
    exact h1 _ (List.getElem_mem _))
  simp only [Nat.add_zero] at hst
  obtain ⟨m, rfl⟩ : ∃ m, n = m + 1 := ⟨n - 1, by omega⟩
  simp [Builtin.clear_, run_underlying ht, hv, hz, hst]
end Go.Proofs.YtamgjlegcegmeaaGreatDoor.M

/- Part: SegDel. -/
namespace Go.Proofs.YtamgjlegcegmeaaGreatDoor.M
open Go.RowKit Go.Maps
open D (Fl Dk)

def rwAgg (p : Rw × Value) : Value := .agg #[.int .i64 p.1.e.idx, .int .i64 p.1.e.term, .int .i64 p.1.e.kind, p.2, .int .i64 p.1.pos]

set_option maxRecDepth 20000 in
theorem ahead_any (p : Rw × Value) (a n c : _) (hp : p.2 = .slice a n c) (gm : Nat) (mi mt : Int) (w : World) (hm : w.heap[gm]? = some (.cells #[.int .i64 mi, .int .i64 mt] 32)) :
    Calls Tryz.prog 61 #[rwAgg p, .pointer (some ⟨gm, 0, none⟩)] w fun e w' => e = .returned (.bool (decide (p.1.e.idx ≤ mi))) ∧ Below w.heap.size w w' := by
  obtain ⟨⟨⟨xi, xt, xk, xb⟩, po⟩, pv⟩ := p
  simp only at hp
  subst hp
  unfold rwAgg
  simp only
  obtain ⟨b0, b1, f0, f1, bz⟩ := block2 hm
  clear hm
  go_enter Tryz.func61, Tryz.ntmps61
  go_wp2_with fail
  go_ret
  exact ⟨rfl, below_alloc _ _⟩

/-- How many lie ahead, at first. -/
def firstAhead (mi : Int) : List (Rw × Value) → Nat → Int
  | [], _ => -1
  | p :: r, k => if p.1.e.idx ≤ mi then (k : Int) else firstAhead mi r (k + 1)

set_option maxRecDepth 20000 in
set_option maxHeartbeats 3200000 in
theorem IndexFunc_any (rv : List (Rw × Value)) (v : Value) (gm : Nat) (mi mt : Int) (w : World) (hrow : w.ownsRow 0 77 5 v rv.length (rwCells rv)) (hsl : ∀ p ∈ rv, ∃ a n c, p.2 = .slice a n c) (hm : w.heap[gm]? = some (.cells #[.int .i64 mi, .int .i64 mt] 32)) (hl : rv.length ≤ 1000000) :
    Calls Tryz.prog 84 #[v, .func (.func 61) #[] #[.pointer (some ⟨gm, 0, none⟩)]] w fun e w' => e = .returned (.int .i64 (firstAhead mi rv 0)) ∧ Below w.heap.size w w' := by
  obtain ⟨ra, rc, rfl, hrl, hrm⟩ := row5_slice hrow
  have HROW := Lib.hid hrow
  have HSL := Lib.hid hsl
  have HM := Lib.hid hm
  obtain ⟨nr, hnr⟩ : ∃ nr, nr = rv.length := ⟨_, rfl⟩
  rw [← hnr] at hrl hl ⊢
  have HNR := Lib.hid hnr
  obtain ⟨A, hA⟩ : ∃ A, A = firstAhead mi rv 0 := ⟨_, rfl⟩
  rw [← hA]
  have HA := Lib.hid hA
  clear hrow hsl hm hnr hA
  go_enter Tryz.func84, Tryz.ntmps84
  go_wp2_with fail
  obtain ⟨w0, hw0⟩ : ∃ w0 : World, w0 = w := ⟨_, rfl⟩
  subst hw0
  go_loopg [5, 8] nr (fun gk _ i wr => ∃ k : Nat, i = .int .i64 (k : Int) ∧ k + gk = nr ∧ Below w0.heap.size w0 wr ∧ A = firstAhead mi (rv.drop k) k)
  case atStart => exact ⟨0, rfl, by omega, Below.refl _ _, HA.out⟩
  case round =>
    obtain ⟨k, rfl, hkg, hbw, hak⟩ := hrel
    have HBW := Lib.hid hbw
    have HAK := Lib.hid hak
    by_cases hlt : k < nr
    · have hkk : (k : Int) < (nr : Int) := by omega
      have hlt2 : k < rv.length := by rw [← HNR.out]; exact hlt
      obtain ⟨ga, c, hv, hgz, -, -, hel, -⟩ := row5_elem (f := rwV) (fun _ => rfl) HROW.out k hlt2
      have hra : ra = some ⟨ga, 0, none⟩ := by cases hv; rfl
      subst hra
      have hga : ga < wr.heap.size := Nat.lt_of_lt_of_le hgz hbw.size
      have e0 := (hbw.cell (p := ⟨ga, k * 5 + 0, none⟩) hgz).trans (hel 0 (by omega))
      have e1 := (hbw.cell (p := ⟨ga, k * 5 + 1, none⟩) hgz).trans (hel 1 (by omega))
      have e2 := (hbw.cell (p := ⟨ga, k * 5 + 2, none⟩) hgz).trans (hel 2 (by omega))
      have e3 := (hbw.cell (p := ⟨ga, k * 5 + 3, none⟩) hgz).trans (hel 3 (by omega))
      have e4 := (hbw.cell (p := ⟨ga, k * 5 + 4, none⟩) hgz).trans (hel 4 (by omega))
      simp only [rwV, List.getElem?_cons_zero, List.getElem?_cons_succ, Nat.add_zero] at e0 e1 e2 e3 e4
      have hsl := HSL.out _ (List.getElem_mem hlt2)
      have hd : rv.drop k = rv[k] :: rv.drop (k + 1) := List.drop_eq_getElem_cons hlt2
      rw [hd, firstAhead] at hak
      obtain ⟨p, hp⟩ : ∃ p, p = rv[k] := ⟨_, rfl⟩
      rw [← hp] at e0 e1 e2 e3 e4 hsl hak
      obtain ⟨pa, pn, pc, hpv⟩ := hsl
      have hcall := ahead_any p pa pn pc hpv gm mi mt wr (old_below HM.out hbw)
      have HCALL := Lib.hid hcall
      obtain ⟨⟨⟨xi, xt, xk, xb⟩, po⟩, pv⟩ := p
      simp only at hpv e0 e1 e2 e3 e4 hak HCALL
      subst hpv
      have HAK2 := Lib.hid hak
      clear hel hd hp hak hcall hv hbw hlt2 HAK
      go_wp2_with fail
      unfold rwAgg at HCALL
      refine HCALL.out.mono ?_
      rintro e w1 ⟨rfl, hb1⟩
      have HB1 : Hid (Below w0.heap.size w0 w1) := Lib.hid (HBW.out.trans (hb1.mono HBW.out.size))
      clear hb1
      by_cases hle : xi ≤ mi
      · have q : decide (xi ≤ mi) = true := decide_eq_true hle
        have HE : Hid (A = (k : Int)) := Lib.hid (by have := HAK2.out; rw [if_pos hle] at this; exact this)
        go_wp2_with fail
        go_ret
        rw [HE.out]
        exact ⟨rfl, HB1.out⟩
      · have q : decide (xi ≤ mi) = false := decide_eq_false hle
        have HE : Hid (A = firstAhead mi (rv.drop (k + 1)) (k + 1)) := Lib.hid (by have := HAK2.out; rw [if_neg hle] at this; exact this)
        go_wp2_with fail
        go_roundg (gk - 1)
        case measure => omega
        case rel => exact ⟨k + 1, by go_num, by omega, HB1.out, HE.out⟩
    · have hkk : ¬ (k : Int) < (nr : Int) := by omega
      obtain rfl : k = nr := by omega
      have HE : Hid (A = -1) := Lib.hid (by rw [HAK.out, HNR.out, List.drop_length]; rfl)
      clear hlt hbw hak
      go_wp2_with fail
      go_ret
      rw [HE.out]
      exact ⟨rfl, HBW.out⟩
end Go.Proofs.YtamgjlegcegmeaaGreatDoor.M

/- Part: SegDef. -/
namespace Go.Proofs.YtamgjlegcegmeaaGreatDoor.M
open Go.RowKit Go.Maps
open D (Fl Dk)

def stays (mi : Int) (p : Rw × Value) : Bool := decide (mi < p.1.e.idx)

theorem firstAhead_none {mi : Int} : ∀ (rv : List (Rw × Value)) (k : Nat), firstAhead mi rv k = -1 → rv.filter (stays mi) = rv
  | [], _, _ => rfl
  | p :: r, k, h => by
    unfold firstAhead at h
    by_cases h1 : p.1.e.idx ≤ mi
    · rw [if_pos h1] at h; omega
    · rw [if_neg h1] at h
      rw [List.filter_cons_of_pos (by simp [stays]; omega), firstAhead_none r (k + 1) h]

theorem firstAhead_some {mi : Int} : ∀ (rv : List (Rw × Value)) (k : Nat), firstAhead mi rv k ≠ -1 → ∃ a : Nat, firstAhead mi rv k = ((k + a : Nat) : Int) ∧ a < rv.length ∧ (rv.take (a + 1)).filter (stays mi) = rv.take a
  | [], _, h => absurd rfl h
  | p :: r, k, h => by
    unfold firstAhead at h ⊢
    by_cases h1 : p.1.e.idx ≤ mi
    · rw [if_pos h1]
      refine ⟨0, by simp, by simp, ?_⟩
      simp [stays, h1]
    · rw [if_neg h1] at h ⊢
      obtain ⟨a, e1, e2, e3⟩ := firstAhead_some r (k + 1) h
      refine ⟨a + 1, by rw [e1]; congr 1; omega, by simp; omega, ?_⟩
      rw [List.take_succ_cons, List.filter_cons_of_pos (by simp [stays]; omega), e3, List.take_succ_cons]

theorem rwCells_cons (p : Rw × Value) (r : List (Rw × Value)) : rwCells (p :: r) = rwV p ++ rwCells r := rfl
theorem rwCells_app (a b : List (Rw × Value)) : rwCells (a ++ b) = rwCells a ++ rwCells b := by unfold rwCells; rw [List.flatMap_append]

/-- A row in place: the first i rows are K, those from j on are R. -/
structure Shifts (w : World) (g n c : Nat) (K R : List (Rw × Value)) (i j : Nat) (xs : List Value) : Prop where
  row : w.ownsRow 0 77 5 (.slice (some ⟨g, 0, none⟩) n c) n xs
  hi : K.length = i
  hj : j + R.length = n
  hd : xs.take (i * 5) = rwCells K
  tl : xs.drop (j * 5) = rwCells R
  le : i < j

theorem Shifts.put {w : World} {g n c i j : Nat} {K R : List (Rw × Value)} {p : Rw × Value} {xs : List Value} (h : Shifts w g n c K (p :: R) i j xs) : Shifts (w.setCells g (i * 5) (rwV p)) g n c (K ++ [p]) R (i + 1) (j + 1) (putMany xs (i * 5) (rwV p)) := by
  have hlen : xs.length = n * 5 := h.row.1
  have hj := h.hj
  have hle := h.le
  simp only [List.length_cons] at hj
  have hv : (rwV p).length = 5 := rfl
  have e := putMany_eq (rwV p) xs (i * 5) (by rw [hv, hlen]; omega)
  refine ⟨(ownsRow_many (w := w) _ _ _ _ h.row).1, by rw [List.length_append, h.hi]; rfl, by omega, ?_, ?_, by omega⟩
  · rw [e, hv, ← List.append_assoc, List.take_append_of_le_length (by simp [hv, hlen]; omega), List.take_of_length_le (by simp [hv]; omega), h.hd, rwCells_app]
    simp [rwCells]
  · rw [e, hv, ← List.append_assoc, List.drop_append]
    have h1 : (xs.take (i * 5) ++ rwV p).length = i * 5 + 5 := by simp [hv, hlen]; omega
    rw [List.drop_eq_nil_of_le (by rw [h1]; omega), h1, List.nil_append, List.drop_drop, show i * 5 + 5 + ((j + 1) * 5 - (i * 5 + 5)) = j * 5 + 5 by omega, ← List.drop_drop, h.tl, rwCells_cons, List.drop_left' hv]

theorem Shifts.skip {w : World} {g n c i j : Nat} {K R : List (Rw × Value)} {p : Rw × Value} {xs : List Value} (h : Shifts w g n c K (p :: R) i j xs) : Shifts w g n c K R i (j + 1) xs := by
  have hj := h.hj
  simp only [List.length_cons] at hj
  refine ⟨h.row, h.hi, by omega, h.hd, ?_, by have := h.le; omega⟩
  have hv : (rwV p).length = 5 := rfl
  rw [show (j + 1) * 5 = j * 5 + 5 by omega, ← List.drop_drop, h.tl, rwCells_cons, List.drop_left' hv]

theorem Shifts.same {w w' : World} {g n c i j : Nat} {K R : List (Rw × Value)} {xs : List Value} (h : Shifts w g n c K R i j xs) (hs : w'.heap[g]? = w.heap[g]?) : Shifts w' g n c K R i j xs :=
  ⟨ownsRow_same h.row fun k hk => by cases hk; exact hs, h.hi, h.hj, h.hd, h.tl, h.le⟩

/-- The next row's cells. -/
theorem Shifts.cell {w : World} {g n c i j : Nat} {K R : List (Rw × Value)} {p : Rw × Value} {xs : List Value} (h : Shifts w g n c K (p :: R) i j xs) (t : Nat) (ht : t < 5) : w.cell? ⟨g, j * 5 + t, none⟩ = (rwV p)[t]? := by
  have hlen : xs.length = n * 5 := h.row.1
  have hj := h.hj
  simp only [List.length_cons] at hj
  rw [h.row.cellAt _ (by omega), ← List.getElem?_drop, h.tl, rwCells_cons, List.getElem?_append_left ht]

theorem Shifts.init {w : World} {g n c a : Nat} {rv : List (Rw × Value)} (h : w.ownsRow 0 77 5 (.slice (some ⟨g, 0, none⟩) n c) n (rwCells rv)) (hn : n = rv.length) (ha : a < n) : Shifts w g n c (rv.take a) (rv.drop (a + 1)) a (a + 1) (rwCells rv) := by
  subst hn
  refine ⟨h, by rw [List.length_take]; omega, by rw [List.length_drop]; omega, ?_, ?_, by omega⟩
  · have e : rwCells rv = rwCells (rv.take a) ++ rwCells (rv.drop a) := by rw [← rwCells_app, List.take_append_drop]
    rw [e, List.take_left' (by rw [rwCells_length, List.length_take]; omega)]
  · have e : rwCells rv = rwCells (rv.take (a + 1)) ++ rwCells (rv.drop (a + 1)) := by rw [← rwCells_app, List.take_append_drop]
    conv => lhs; rw [e]
    rw [List.drop_left' (by rw [rwCells_length, List.length_take]; omega)]
end Go.Proofs.YtamgjlegcegmeaaGreatDoor.M
