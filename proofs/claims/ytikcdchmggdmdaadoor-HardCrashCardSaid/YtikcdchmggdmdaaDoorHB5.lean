/- The program's disk: Names; is one named twice? The document's disk: Name, Free, find, Stopped, Stop. The document's disk: find, Stopped, Stop. The document's disk: Stop, take. The document's disk: take. The document's disk: add. The document's disk: Rename. The program's disk: a call that is stopped, or done. The program's disk: what Append leaves. The program's disk: Append. The program's disk: Append as it is called; Sync. The program's disk: Cut. The program's disk: Rename. The program's disk: Sync. The program's disk: is one named twice? -/
import Derived.Test.YtikcdchmggdmdaaDoorHB4
import Derived.Test.YtikcdchmggdmdaaDoorSortLaid
import Derived.Sort.OwnSorted
import Derived.Sort.KeysCollected
import Derived.Deep.LoopGhost
import Derived.Test.YtikcdchmggdmdaaDoorHB3
import Derived.IntWalk
import Derived.WalkLawsBesides
import Derived.Outline
import Derived.Deep.QuietTactic
import Derived.BigQuiet
/- Part: ProjF. -/
namespace Go.Proofs.YtikcdchmggdmdaaDoor.M
open Go.RowKit Go.Maps Go.Sort
open D (Fl Dk)

/-- A file's name, as the bytes that a map's key reads as. -/
def nmOf (f : Fl) : List UInt8 := f.nm.data.toList

theorem encStr_nm (f : Fl) : encStr (nmOf f) = .string f.nm := by
  unfold nmOf
  simp

theorem bytes_back (x : List UInt8) : (⟨x.toArray⟩ : ByteArray).data.toList = x := by simp

theorem nm_is {f : Fl} {x : List UInt8} : nmOf f = x ↔ f.nm = ⟨x.toArray⟩ := by
  constructor
  · intro h
    apply D.nm_ext
    rw [D.toList_data, D.toList_data, bytes_back]; exact h
  · intro h
    unfold nmOf
    rw [h, bytes_back]

theorem rising_keys {fs : List Fl} (hr : D.Rising fs) : (fs.map nmOf).Pairwise fun a b => a < b := by
  refine List.pairwise_map.2 (List.Pairwise.imp (R := fun a b : Fl => a.nm.toList < b.nm.toList) (fun {a b} h => ?_) hr)
  rw [D.toList_data, D.toList_data] at h
  exact h

/-- What was collected of the map's keys, sorted, are the files' names. -/
theorem sorted_names {w : World} {X : Nat → Prop} {gd gm : Nat} {d : Dk} {fr : Int} {M : DataW Nat} {E : ByteArray → Nat × Value} (h : PDAt w X gd d fr gm M E) (hr : D.Rising d.fs) {ss : List (List UInt8)} (hp : ss.Perm (strKeys M)) :
    ss.mergeSort (fun x y => decide (x ≤ y)) = d.fs.map nmOf := by
  obtain ⟨es, hM, hpw⟩ := h.isMap
  obtain ⟨es', hM', hko⟩ := h.map.keysOf
  obtain rfl : es = es' := by rw [hM] at hM'; simpa using hM'
  have hk := rising_keys hr
  have hp2 : (d.fs.map nmOf).Perm (strKeys M) := by
    rw [hM]
    refine perm_strKeys hpw (fun p hp => by obtain ⟨v, hv⟩ := hko p hp; obtain ⟨x, _, hx, _⟩ := Maps.keyOf_str Tryd.underlying9 hv; exact ⟨x, hx⟩) (List.Pairwise.imp (R := fun a b : List UInt8 => a < b) (S := fun a b => a ≠ b) (fun {a b} hab e => List.lt_irrefl _ (by rw [e] at hab; exact hab)) hk) fun x => ?_
    rw [← hM]
    have hh := h.has ⟨x.toArray⟩
    rw [bytes_back] at hh
    rw [hh, D.isThere_mem, List.mem_map]
    constructor
    · rintro ⟨f, hf, e⟩; exact ⟨f, hf, nm_is.1 e⟩
    · rintro ⟨f, hf, e⟩; exact ⟨f, hf, nm_is.2 e⟩
  rw [show ss.mergeSort (fun x y => decide (x ≤ y)) = (d.fs.map nmOf).mergeSort leB from mergeSort_of_perm (hp.trans hp2.symm)]
  exact List.mergeSort_of_pairwise (hk.imp fun {a b} hab => by simpa using List.le_of_lt hab)

/-- How a pointer looks. -/
def mkPtr (o : Option Nat) : Value := .pointer (o.map fun b => ⟨b, 0, none⟩)

theorem ptr_shape (v : Value) (y : DataW Nat × List MemPlace) (h : ptrElem v = some y) : ∃ c, v = mkPtr c := by
  rcases ptrElem_inv h with ⟨rfl, _⟩ | ⟨b, rfl, _⟩
  · exact ⟨none, rfl⟩
  · exact ⟨some b, rfl⟩

theorem infoStr : (Tryd.prog.info? 9).map (fun i => (i.zero, i.size, i.bytes)) = some (some (.string ⟨#[]⟩), 1, 16) := by kernel_rfl

set_option maxRecDepth 20000 in
set_option maxHeartbeats 1600000 in
theorem Names_any (d : Dk) (X : Nat → Prop) (gd : Nat) (w : World) (hd : PDskIn w X gd d) (hr : D.Rising d.fs) (hn : d.fs.length ≤ 1099511627776) :
    Calls Tryd.prog 19 #[.pointer (some ⟨gd, 0, none⟩)] w fun e w' => ∃ v, e = .returned v ∧ Below w.heap.size w w' ∧ w'.ownsRow w.heap.size 9 1 v d.fs.length (d.fs.map fun f => .string f.nm) := by
  obtain ⟨i0, hi, hz0, hz1, hz2⟩ := info_parts infoStr
  obtain ⟨⟨gm, M, E, hat⟩, hX⟩ := hd
  obtain ⟨⟨-, -, c2⟩, -, hz⟩ := hat.cells
  have hgm := hX gm hat.foot.2.1
  have hown := hat.map
  have hsz := hat.size
  have HSORT := Lib.hid (fun (ss : List (List UInt8)) (hp : ss.Perm (strKeys M)) => sorted_names hat hr hp)
  have HSZ := Lib.hid hsz
  have HN := Lib.hid hn
  clear hat hr hX hn hsz
  go_enter Tryd.func19, Tryd.ntmps19
  go_wp2_with (first
    | (at_range; refine wpList_range_own _ rfl _ 51 rfl 9 61 law9 Tryd.underlying51 ptrElem gm _ M rfl hown ?_; intro w0 hrg0 hg0 hs0)
    | go_in)
  go_frame
  go_loopw [3, 4] (fun v _ wr => ∃ (left : Lit → Bool) (cnt : Nat) (ss : List (List UInt8)), wr.ranges Tryd.prog 9 ptrElem gm w.heap.size d.fs.length M left cnt ∧ ss.length + cnt ≤ Maps.size M ∧
      wr.ownsRow w.heap.size 9 1 v ss.length (ss.map encStr) ∧ Collected M left ss ∧ Below w.heap.size w wr)
    (fun _ _ wr => wr.rangeLeft gm w.heap.size)
  case atStart =>
    exact ⟨_, _, [], hrg0, by simp, World.ownsRow_nil _ _ _ _, Collected.start M, (Below.refl _ _).grown hg0 (Nat.le_refl _) (fun j hj => by cases hj)⟩
  case round =>
    obtain ⟨left, cnt, ss, hrg, hcs, hrow, hC, hnx⟩ := hrel
    go_wp2_with (first
      | (at_next; refine wpList_next_ranges _ rfl _ rfl 9 law9 ptrElem encStr mkPtr (fun key kl hk => by obtain ⟨x, hx, _⟩ := Maps.keyOf_str Tryd.underlying9 hk; exact ⟨x, hx⟩) ptr_shape gm w.heap.size d.fs.length _ _ _ rfl hrg ?_ ?_)
      | go_in)
    · intro hc0 hl0
      have HP := Lib.hid (HSORT.out ss (hC.perm hown law9 Tryd.underlying9 hl0))
      have HNX := Lib.hid hnx
      rcases hrow.2 with ⟨hnil, hlen⟩ | ⟨g, cap, cur, rfl, hbase, hb, h1, h2, h3, h4⟩
      · subst hnil
        have hss : ss = [] := List.length_eq_zero_iff.1 hlen
        subst hss
        have HROW := Lib.hid hrow
        clear hrow hnx hC hl0 hcs hlen
        go_wp2_with (go_at_call 28; refine (Any.slices_Sort_string_none Tryd.laysSort none 0 _).mono ?_; rintro e w' ⟨rfl, rfl⟩)
        go_ret
        have hp := HP.out
        simp at hp
        have hfs : d.fs = [] := by simpa using hp.symm
        exact ⟨_, rfl, HNX.out, by rw [hfs]; exact World.ownsRow_nil _ _ _ _⟩
      · have hH : Holds encStr wr g 0 ss.toArray := holds_of_block hb (by simpa using h4)
        have hgl : g < wr.heap.size := (Array.getElem?_eq_some_iff.1 hb).1
        have hc := Any.slices_Sort_string Tryd.laysSort g 0 cap ss wr hH hgl (by have := HN.out; have := HSZ.out; omega)
        have HD : Hid (∀ (nn : Nat) (os : Array Obj), Below w.heap.size w (grow (putRow encStr (Sort.ahead wr nn) g 0 (ss.mergeSort fun x y => decide (x ≤ y)).toArray) os) ∧ (grow (putRow encStr (Sort.ahead wr nn) g 0 (ss.mergeSort fun x y => decide (x ≤ y)).toArray) os).ownsRow w.heap.size 9 1 (.slice (some ⟨g, 0, none⟩) ss.length cap) d.fs.length (d.fs.map fun f => .string f.nm)) := Lib.hid fun nn os => by
          have hrs := ownsRow_sorted (n := nn) (os := os) (ss := ss) (ts := ss.mergeSort fun x y => decide (x ≤ y)) (by simp) hbase hb h1 h2 h3
          refine ⟨hnx.grown (grownBy_sorted _) hnx.size (fun j hj => by cases hj; exact hbase), ?_⟩
          have hl : d.fs.length = ss.length := by
            have h5 := congrArg List.length HP.out
            simpa using h5.symm
          rw [hl]
          have he : (ss.mergeSort fun x y => decide (x ≤ y)).map encStr = d.fs.map fun f => .string f.nm := by
            rw [HP.out, List.map_map]
            apply List.map_congr_left
            intro f _
            exact encStr_nm f
          rw [he] at hrs
          exact hrs
        clear hrow hnx hC hl0 hcs hb h1 h2 h3 h4 hH hgl hbase
        go_wp2_with (go_at_call 28; refine hc.mono ?_; rintro e w' ⟨rfl, nn, os, rfl⟩)
        go_ret
        obtain ⟨q1, q2⟩ := HD.out nn os
        exact ⟨_, rfl, q1, q2⟩
    · intro x c kl yd yp w2 cnt2 hkey hlk hv hat hrg2 hlt hg2 hs2 hen
      obtain ⟨x', ex, rfl, _⟩ := Maps.keyOf_str Tryd.underlying9 hkey
      obtain rfl : x = x' := encStr_inj ex
      have hrow2 := hrow.kept hg2 (Or.inr (row_ne_iter hrow hrg).symm)
      clear hs2
      have hnn := HN.out
      have hzz := HSZ.out
      go_wp2_with (first
        | (at_builtin; refine wpList_append_own _ rfl _ _ 59 rfl w.heap.size 9 i0 (.string ⟨#[]⟩) 1 16 Tryd.underlying59 hi hz0 hz1 hz2 rfl (by decide) _ _ _ rfl (hrow2.alloc _) ⟨w2.heap.size, 0, none⟩ 1 1 [encStr x] rfl rfl (cell_one_new _ _ _) (by simp [Value.oneCell', encStr]) (by unfold maxLen at *; omega) (by omega) (by have := hnx.size; have := hg2.size; simp; omega) ?_; intro v' w3 hown' hg3 hnil3; go_frame)
        | go_in)
      have hrg3 := (hrg2.alloc _).kept hg3 (row_ne_low hrow2 hgm) (row_ne_iter hrow2 hrg2)
      go_roundw
      case rel =>
        refine ⟨_, cnt2, ss ++ [x], hrg3, by simp; omega, by simpa using hown', hC.step hlk hat, ?_⟩
        exact ((hnx.grown hg2 hnx.size (fun j hj => by cases hj; exact Nat.le_refl _)).alloc (by have := hnx.size; have := hg2.size; omega) _).grown hg3 (by have := hnx.size; have := hg2.size; simp; omega) (fun j hj => (hrow2.lt j hj).1)
      case measure => rw [hrg3.left_eq, hrg.left_eq]; exact hlt
end Go.Proofs.YtikcdchmggdmdaaDoor.M

/- Part: DiskRef1. -/
namespace Go.Proofs.YtikcdchmggdmdaaDoor.M
open Go.RowKit
open D (Fl Dk)

theorem find_go (fs : List Fl) (s : ByteArray) : D.find fs s ≤ fs.length := List.findIdx_le_length

end Go.Proofs.YtikcdchmggdmdaaDoor.M

/- Part: DiskRef2. -/
namespace Go.Proofs.YtikcdchmggdmdaaDoor.M
open Go.RowKit
open D (Fl Dk)

/-- A disk whose own cells alone have turned. -/
theorem DkAt.turned {w w' : World} {X : Nat → Prop} {gd : Nat} {d e : Dk} {vl : Value} {fv : List (Fl × Value)} (h : DkAt w X gd d vl fv) (hf : e.fs = d.fs)
    (hb : ∃ cc : Int, w'.heap[gd]? = some (.cells #[.int .i64 e.room, vl, .bool e.ends, .int .i64 cc] 50) ∧ (e.ends = true → cc = (e.calls : Int))) (ho : ∀ k, k ≠ gd → w'.heap[k]? = w.heap[k]?) : DkAt w' X gd e vl fv := by
  have hn := h.apart
  rw [blocksOf, List.cons_append, List.nodup_cons] at hn
  refine ⟨hb, h.fs.trans hf.symm, ownsRow_same h.row fun k hk => ho k ?_, fun p hp => ownsRow_same (h.each p hp) fun k hk => ho k ?_, h.apart, h.foot⟩
  · intro e
    apply hn.1
    subst e
    simp [hk]
  · intro e
    apply hn.1
    subst e
    rw [List.mem_append, List.mem_flatMap]
    exact .inr ⟨p, hp, by simp [hk]⟩

theorem DkAt.own {w : World} {X : Nat → Prop} {gd : Nat} {d : Dk} {vl : Value} {fv : List (Fl × Value)} (h : DkAt w X gd d vl fv) : X gd := h.foot gd (by simp [blocksOf])

end Go.Proofs.YtikcdchmggdmdaaDoor.M

/- Part: DiskRef3. -/
namespace Go.Proofs.YtikcdchmggdmdaaDoor.M
open Go.RowKit
open D (Fl Dk)

theorem flCells_append (a b : List (Fl × Value)) : flCells (a ++ b) = flCells a ++ flCells b := by simp [flCells]

theorem infoFile : (Tryd.prog.info? 159).map (fun i => (i.zero, i.size, i.bytes)) = some (some (.agg #[.string ByteArray.empty, .slice none 0 0, .int .i64 0]), 3, 48) := by kernel_rfl

/-- A part of the files' row, as an append reads it. -/
theorem DkAt.yields {w : World} {X : Nat → Prop} {gd : Nat} {d : Dk} {vl : Value} {fv : List (Fl × Value)} (h : DkAt w X gd d vl fv) {ga c : Nat} (hv : vl = .slice (some ⟨ga, 0, none⟩) fv.length c) (i m c' : Nat) (hm : i + m ≤ fv.length) :
    Yields w (.slice (some ⟨ga, i * 3, none⟩) m c') m 3 (flCells ((fv.drop i).take m)) := by
  have hr := h.row
  rw [hv] at hr
  refine ⟨by rw [flCells_length]; simp; omega, ?_, .inr ⟨_, c', rfl, ?_⟩⟩
  · intro u hu
    simp only [flCells, List.mem_flatMap] at hu
    obtain ⟨p, hp, hu⟩ := hu
    have hp2 : p ∈ fv := List.mem_of_mem_drop (List.mem_of_mem_take hp)
    obtain ⟨a, c, hs⟩ := owned_slice (h.each p hp2)
    simp only [flV, List.mem_cons, List.not_mem_nil, or_false] at hu
    rcases hu with rfl | rfl | rfl
    · rfl
    · rw [hs]; rfl
    · rfl
  · intro j u hj
    have hjl : j < m * 3 := by
      have := (List.getElem?_eq_some_iff.1 hj).1
      rw [flCells_length] at this
      simp at this
      omega
    rw [show (⟨ga, i * 3, none⟩ : Addr).add j = ⟨ga, i * 3 + j, none⟩ from by cases j <;> simp [Addr.add], hr.cellAt _ (by omega)]
    have e : flCells fv = flCells (fv.take i) ++ (flCells ((fv.drop i).take m) ++ flCells ((fv.drop i).drop m)) := by
      rw [← flCells_append, ← flCells_append, List.take_append_drop, List.take_append_drop]
    rw [e, List.getElem?_append_right (by rw [flCells_length]; simp; omega), List.getElem?_append_left (by simp only [flCells_length, List.length_take, List.length_drop]; omega), ← hj]
    congr 1
    rw [flCells_length]
    simp
    omega
end Go.Proofs.YtikcdchmggdmdaaDoor.M

/- Part: DiskRef4. -/
namespace Go.Proofs.YtikcdchmggdmdaaDoor.M
open Go.RowKit
open D (Fl Dk)

/-- Three cells of a block that is known whole. -/
theorem three_of {w : World} {g : Nat} {x y z : Value} {t : TypeId} (h : w.heap[g]? = some (.cells #[x, y, z] t)) :
    w.cell? ⟨g, 0, none⟩ = some x ∧ w.cell? ⟨g, 1, none⟩ = some y ∧ w.cell? ⟨g, 2, none⟩ = some z ∧
    w.frozen? ⟨g, 0, none⟩ = false ∧ w.frozen? ⟨g, 1, none⟩ = false ∧ w.frozen? ⟨g, 2, none⟩ = false ∧ g < w.heap.size :=
  ⟨cell_of_row w g 0 _ t _ h, cell_of_row w g 1 _ t _ h, cell_of_row w g 2 _ t _ h, frozen_of_row w g 0 _ t h, frozen_of_row w g 1 _ t h, frozen_of_row w g 2 _ t h, lt_of_heap h⟩

theorem ownBlock_len {a : Option Addr} {n m c c' : Nat} : (Value.slice a n c).ownBlock = (Value.slice a m c').ownBlock := by
  cases a with
  | none => rfl
  | some a => rfl

theorem erase_parts {α : Type} (l : List α) (i : Nat) : l.eraseIdx i = l.take i ++ l.drop (i + 1) := List.eraseIdx_eq_take_drop_succ ..

theorem parts_of_list {α : Type} (l : List α) (i : Nat) (h : i < l.length) : l = l.take i ++ l[i] :: l.drop (i + 1) := by
  rw [← List.drop_eq_getElem_cons h, List.take_append_drop]

/-- The disk, behind a file's taking out. -/
theorem take_done {w w2 wF : World} {d : Dk} {X : Nat → Prop} {gd : Nat} {vl v2 : Value} {fv : List (Fl × Value)} {i : Nat} {cc : Int} (hat : DkAt w X gd d vl fv) (hX : ∀ k, X k → k < w.heap.size) (hi : i < fv.length)
    (hcc : d.ends = true → cc = (d.calls : Int)) (hsz : w.heap.size ≤ w2.heap.size) (hold : ∀ k, k < w.heap.size → w2.heap[k]? = w.heap[k]?) (hos : w2.os = w.os ∧ w2.tape = w.tape ∧ w2.output = w.output)
    (ho : w2.ownsRow 0 159 3 v2 (fv.eraseIdx i).length (flCells (fv.eraseIdx i))) (hno : ∀ k, v2.ownBlock = some k → w.heap.size < k ∧ k < w2.heap.size)
    (hFo : ∀ k, k ≠ gd → k ≠ w.heap.size → wF.heap[k]? = w2.heap[k]?) (hFg : wF.heap[gd]? = some (.cells #[.int .i64 d.room, v2, .bool d.ends, .int .i64 cc] 50)) (hFs : wF.heap.size = w2.heap.size)
    (hFw : wF.os = w2.os ∧ wF.tape = w2.tape ∧ wF.output = w2.output) :
    Only (fun k => k = gd) w wF ∧ DkAt wF (More X w wF) gd { d with fs := d.fs.eraseIdx i } v2 (fv.eraseIdx i) ∧ (∀ k, fv[i].2.ownBlock = some k → wF.heap[k]? = w.heap[k]? ∧ k ∉ blocksOf gd v2 (fv.eraseIdx i)) ∧ (∀ k, v2.ownBlock = some k → w.heap.size ≤ k) := by
  have hgw := hX gd hat.own
  have hap := hat.apart
  have hkeep : ∀ k, k < w.heap.size → k ≠ gd → wF.heap[k]? = w.heap[k]? := fun k hk hg => (hFo k hg (by omega)).trans (hold k hk)
  have hfile : ∀ p ∈ fv, ∀ k, p.2.ownBlock = some k → k < w.heap.size ∧ k ≠ gd := fun p hp k hk => by
    have hm := mem_blocks_file (gd := gd) (vl := vl) hp hk
    refine ⟨hX k (hat.foot k hm), fun e => ?_⟩
    rw [blocksOf, List.cons_append, List.nodup_cons] at hap
    apply hap.1
    rw [← e, List.mem_append, List.mem_flatMap]
    exact .inr ⟨p, hp, by simp [hk]⟩
  have hsub : ∀ p ∈ fv.eraseIdx i, p ∈ fv := fun p hp => List.mem_of_mem_eraseIdx hp
  have hnd : ((fv.eraseIdx i).flatMap fun p : Fl × Value => p.2.ownBlock.toList).Nodup ∧ ∀ k, fv[i].2.ownBlock = some k → k ∉ (fv.eraseIdx i).flatMap fun p : Fl × Value => p.2.ownBlock.toList := by
    have h1 : (fv.flatMap fun p : Fl × Value => p.2.ownBlock.toList).Nodup := by
      rw [blocksOf] at hap
      exact (List.nodup_append.1 hap).2.1
    rw [parts_of_list fv i hi, List.flatMap_append, List.flatMap_cons] at h1
    rw [erase_parts, List.flatMap_append]
    obtain ⟨a1, a2, a3⟩ := List.nodup_append.1 h1
    obtain ⟨b1, b2, b3⟩ := List.nodup_append.1 a2
    refine ⟨List.nodup_append.2 ⟨a1, b2, fun x hx y hy => a3 x hx y (List.mem_append.2 (.inr hy))⟩, fun k hk hm => ?_⟩
    have hkm : k ∈ fv[i].2.ownBlock.toList := by simp [hk]
    rcases List.mem_append.1 hm with hm | hm
    · exact a3 k hm k (List.mem_append.2 (.inl hkm)) rfl
    · exact b3 k hkm k hm rfl
  refine ⟨⟨hFw.1.trans hos.1, hFw.2.1.trans hos.2.1, hFw.2.2.trans hos.2.2, by omega, fun k hk hn => hkeep k hk hn⟩, ⟨⟨cc, hFg, hcc⟩, ?_, ownsRow_same ho fun k hk => ?_, fun p hp => ?_, ?_, ?_⟩, ?_, fun k hk => Nat.le_of_lt (hno k hk).1⟩
  · show (fv.eraseIdx i).map (·.1) = d.fs.eraseIdx i
    rw [erase_parts, List.map_append, List.map_take, List.map_drop, hat.fs, ← erase_parts]
  · have := hno k hk
    exact hFo k (by omega) (by omega)
  · exact ownsRow_same (hat.each p (hsub p hp)) fun k hk => by
      obtain ⟨h1, h2⟩ := hfile p (hsub p hp) k hk
      exact hkeep k h1 h2
  · rw [blocksOf, List.cons_append, List.nodup_cons]
    refine ⟨fun hm => ?_, List.nodup_append.2 ⟨?_, hnd.1, fun x hx y hy e => ?_⟩⟩
    · rcases List.mem_append.1 hm with hm | hm
      · have := hno gd (by simpa using hm)
        omega
      · obtain ⟨p, hp, hk⟩ := List.mem_flatMap.1 hm
        exact (hfile p (hsub p hp) gd (by simpa using hk)).2 rfl
    · cases v2.ownBlock <;> simp
    · have h1 := hno x (by simpa using hx)
      obtain ⟨p, hp, hk⟩ := List.mem_flatMap.1 hy
      have h2 := (hfile p (hsub p hp) y (by simpa using hk)).1
      omega
  · intro k hk
    rw [blocksOf, List.cons_append, List.mem_cons, List.mem_append, List.mem_flatMap] at hk
    rcases hk with rfl | hk | ⟨p, hp, hk⟩
    · exact .inl hat.own
    · have := hno k (by simpa using hk)
      exact .inr ⟨by omega, by omega⟩
    · exact .inl (hat.foot k (mem_blocks_file (hsub p hp) (by simpa using hk)))
  · intro k hk
    obtain ⟨h1, h2⟩ := hfile fv[i] (List.getElem_mem hi) k hk
    refine ⟨hkeep k h1 h2, fun hm => ?_⟩
    rw [blocksOf, List.cons_append, List.mem_cons, List.mem_append] at hm
    rcases hm with h3 | hm | hm
    · exact h2 h3
    · have := hno k (by simpa using hm)
      omega
    · exact hnd.2 k hk hm

end Go.Proofs.YtikcdchmggdmdaaDoor.M

/- Part: DiskRef5. -/
namespace Go.Proofs.YtikcdchmggdmdaaDoor.M
open Go.RowKit
open D (Fl Dk)

/-- The disk, behind the making of another list of files. -/
theorem relist_done {w w2 wF : World} {d : Dk} {X : Nat → Prop} {gd : Nat} {vl v2 : Value} {fv fv2 : List (Fl × Value)} {cc : Int} (hat : DkAt w X gd d vl fv) (hX : ∀ k, X k → k < w.heap.size)
    (hcc : d.ends = true → cc = (d.calls : Int)) (hsz : w.heap.size ≤ w2.heap.size) (hold : ∀ k, k < w.heap.size → w2.heap[k]? = w.heap[k]?) (hos : w2.os = w.os ∧ w2.tape = w.tape ∧ w2.output = w.output)
    (ho : w2.ownsRow 0 159 3 v2 fv2.length (flCells fv2)) (hno : ∀ k, v2.ownBlock = some k → w.heap.size ≤ k ∧ k < w2.heap.size)
    (hf2 : ∀ p ∈ fv2, w.ownsRow 0 5 1 p.2 p.1.b.length (p.1.b.map byteV) ∧ ∀ k, p.2.ownBlock = some k → X k ∧ k ≠ gd) (hnd : (fv2.flatMap fun p : Fl × Value => p.2.ownBlock.toList).Nodup)
    (hFo : ∀ k, k ≠ gd → wF.heap[k]? = w2.heap[k]?) (hFg : wF.heap[gd]? = some (.cells #[.int .i64 d.room, v2, .bool d.ends, .int .i64 cc] 50)) (hFs : wF.heap.size = w2.heap.size)
    (hFw : wF.os = w2.os ∧ wF.tape = w2.tape ∧ wF.output = w2.output) :
    Only (fun k => k = gd) w wF ∧ DkAt wF (More X w wF) gd { d with fs := fv2.map (·.1) } v2 fv2 := by
  have hgw := hX gd hat.own
  have hkeep : ∀ k, k < w.heap.size → k ≠ gd → wF.heap[k]? = w.heap[k]? := fun k hk hg => (hFo k hg).trans (hold k hk)
  refine ⟨⟨hFw.1.trans hos.1, hFw.2.1.trans hos.2.1, hFw.2.2.trans hos.2.2, by omega, fun k hk hn => hkeep k hk hn⟩, ⟨⟨cc, hFg, hcc⟩, rfl, ownsRow_same ho fun k hk => ?_, fun p hp => ?_, ?_, ?_⟩⟩
  · have := hno k hk
    exact hFo k (by omega)
  · exact ownsRow_same (hf2 p hp).1 fun k hk => by
      obtain ⟨h1, h2⟩ := (hf2 p hp).2 k hk
      exact hkeep k (hX k h1) h2
  · rw [blocksOf, List.cons_append, List.nodup_cons]
    refine ⟨fun hm => ?_, List.nodup_append.2 ⟨?_, hnd, fun x hx y hy e => ?_⟩⟩
    · rcases List.mem_append.1 hm with hm | hm
      · have := hno gd (by simpa using hm)
        omega
      · obtain ⟨p, hp, hk⟩ := List.mem_flatMap.1 hm
        exact ((hf2 p hp).2 gd (by simpa using hk)).2 rfl
    · cases v2.ownBlock <;> simp
    · have h1 := hno x (by simpa using hx)
      obtain ⟨p, hp, hk⟩ := List.mem_flatMap.1 hy
      have h2 := hX y ((hf2 p hp).2 y (by simpa using hk)).1
      omega
  · intro k hk
    rw [blocksOf, List.cons_append, List.mem_cons, List.mem_append, List.mem_flatMap] at hk
    rcases hk with rfl | hk | ⟨p, hp, hk⟩
    · exact .inl hat.own
    · have := hno k (by simpa using hk)
      exact .inr ⟨by omega, by omega⟩
    · exact .inl ((hf2 p hp).2 k (by simpa using hk)).1

/-- A row of files that a call makes, since the world w; behind w one block was made. -/
structure AddAt (w : World) (box : Obj) (n : Nat) (xs : List Value) (v : Value) (wr : World) : Prop where
  os : wr.os = w.os
  tape : wr.tape = w.tape
  output : wr.output = w.output
  size : w.heap.size + 1 ≤ wr.heap.size
  old : ∀ k, k < w.heap.size → wr.heap[k]? = w.heap[k]?
  bx : wr.heap[w.heap.size]? = some box
  row : wr.ownsRow 0 159 3 v n xs
  new : ∀ k, v.ownBlock = some k → w.heap.size + 1 ≤ k

theorem AddAt.app {w wr w' : World} {box : Obj} {n m : Nat} {xs news : List Value} {v v' : Value} (h : AddAt w box n xs v wr) (ha : AppLeft wr 0 159 3 v n m xs news v' w') : AddAt w box (n + m) (xs ++ news) v' w' := by
  obtain ⟨h1, h2, h3⟩ := ha
  have hs := h.size
  have hne : ∀ k, k < w.heap.size + 1 → v.ownBlock ≠ some k := fun k hk e => by have := h.new k e; omega
  refine ⟨h2.os.trans h.os, h2.tape.trans h.tape, h2.output.trans h.output, Nat.le_trans hs h2.size, fun k hk => (h2.block k (by omega) fun e => hne k (by omega) e.symm).trans (h.old k hk),
    (h2.block _ (by omega) fun e => hne _ (by omega) e.symm).trans h.bx, h1, fun k hk => ?_⟩
  rcases h3 with h3 | h3
  · exact h.new k (by rw [← h3]; exact hk)
  · rw [hk] at h3
    cases h3
    exact hs

theorem AddAt.alloc {w wr : World} {box : Obj} {n : Nat} {xs : List Value} {v : Value} (h : AddAt w box n xs v wr) (o : Obj) : AddAt w box n xs v (wr.alloc o) := by
  have hs := h.size
  exact ⟨h.os, h.tape, h.output, by simp; omega, fun k hk => by rw [Below.heap_alloc _ _ _ (by omega)]; exact h.old k hk, old_alloc h.bx, h.row.alloc o, h.new⟩

theorem wpList_add_append {w wr : World} {ops : Array Oper} {rest : List Oper} {o : Oper} {a : Act} {Q : Exit → Act → World → Prop} (hgd : o.guard = none) (s y : Operand)
    (ho : o.op = .call { callee := .builtin .append, args := #[s, y], argTypes := #[48, 48] })
    {box : Obj} {n m : Nat} {xs news : List Value} {v x : Value} (hs : a.eval s = v) (hown : AddAt w box n xs v wr) (hy : a.eval y = x) (hx : Yields wr x m 3 news) (hl : n + m ≤ 10000)
    (h : ∀ v' w', AddAt w box (n + m) (xs ++ news) v' w' → wpList Tryd.prog ops Q rest (a.put o.dst v') w') : wpList Tryd.prog ops Q (o :: rest) a wr := by
  obtain ⟨iF, hiF, hiF0, hiF1, hiF2⟩ := info_parts infoFile
  exact wpList_append_any wr hgd s y 48 ho 0 159 iF (.agg #[.string ByteArray.empty, .slice none 0 0, .int .i64 0]) 3 48 Tryd.underlying48 hiF hiF0 hiF1 hiF2 rfl (by decide) v n xs hs hown.row x hy m news hx
    (by unfold maxLen; omega) (by omega) (Nat.zero_le _) fun v' w' ha => h v' w' (hown.app ha)

theorem yields_none (w : World) : Yields w (.slice none 0 0) 0 3 [] := ⟨rfl, by simp, .inl ⟨rfl, rfl⟩⟩

theorem yields_bare (w : World) (a : Addr) (c : Nat) : Yields w (.slice (some a) 0 c) 0 3 [] := ⟨rfl, by simp, .inr ⟨a, c, rfl, by simp⟩⟩

theorem yields_new {w : World} {p : Fl × Value} {a : Option Addr} {n c g : Nat} (hp : p.2 = .slice a n c) (hg : g = w.heap.size) :
    Yields (w.alloc (.cells #[.string p.1.nm, .slice a n c, .int .i64 (p.1.safe : Int)] 159)) (.slice (some ⟨g, 0, none⟩) 1 1) 1 3 (flCells [p]) := by
  subst hg
  refine ⟨by simp [flCells, flV], ?_, .inr ⟨_, 1, rfl, fun j u hj => ?_⟩⟩
  · intro u hu
    simp only [flCells, flV, List.flatMap_cons, List.flatMap_nil, List.append_nil, List.mem_cons, List.not_mem_nil, or_false, hp] at hu
    rcases hu with rfl | rfl | rfl <;> rfl
  · have h := cell_of_row _ w.heap.size j _ _ _ (heap_alloc_new w (.cells #[.string p.1.nm, .slice a n c, .int .i64 (p.1.safe : Int)] 159))
    have e : ((⟨w.heap.size, 0, none⟩ : Addr).add j) = ⟨w.heap.size, j, none⟩ := by cases j <;> simp [Addr.add]
    rw [e, h]
    simpa [flCells, flV, hp] using hj

/-- The disk, behind the adding of a file. -/
theorem add_done {w w3 wF : World} {box : Obj} {d : Dk} {X : Nat → Prop} {gd k : Nat} {vl v3 v : Value} {fv : List (Fl × Value)} {f : Fl} {cc : Int} (hat : DkAt w X gd d vl fv) (hX : ∀ k, X k → k < w.heap.size) (hcc : d.ends = true → cc = (d.calls : Int))
    (hk : k = D.place d.fs f.nm) (hA : AddAt w box (fv.take k ++ (f, v) :: fv.drop k).length (flCells (fv.take k ++ (f, v) :: fv.drop k)) v3 w3)
    (hfo : w.ownsRow 0 5 1 v f.b.length (f.b.map byteV)) (hfb : ∀ k, v.ownBlock = some k → X k ∧ k ∉ blocksOf gd vl fv)
    (hF : wF = w3.setCell ⟨gd, 1, none⟩ v3) (hb : w.heap[gd]? = some (.cells #[.int .i64 d.room, vl, .bool d.ends, .int .i64 cc] 50)) :
    Only (fun k => k = gd) w wF ∧ Dsk wF (More X w wF) gd { d with fs := D.add d.fs f } := by
  have hgw := hX gd hat.own
  have hap := hat.apart
  have hsub : ∀ p ∈ fv.take k ++ (f, v) :: fv.drop k, p ∈ fv ∨ p = (f, v) := fun p hp => by
    rcases List.mem_append.1 hp with h | h
    · exact .inl (List.mem_of_mem_take h)
    · rcases List.mem_cons.1 h with h | h
      · exact .inr h
      · exact .inl (List.mem_of_mem_drop h)
  have hvn : ∀ k, v.ownBlock = some k → k ≠ gd ∧ k ∉ fv.flatMap fun p : Fl × Value => p.2.ownBlock.toList := fun j hj => by
    have := (hfb j hj).2
    rw [blocksOf, List.cons_append, List.mem_cons, List.mem_append, not_or, not_or] at this
    exact ⟨this.1, this.2.2⟩
  have hnd : ((fv.take k ++ (f, v) :: fv.drop k).flatMap fun p : Fl × Value => p.2.ownBlock.toList).Nodup := by
    have h1 : (fv.flatMap fun p : Fl × Value => p.2.ownBlock.toList).Nodup := by
      rw [blocksOf] at hap
      exact (List.nodup_append.1 hap).2.1
    rw [← List.take_append_drop k fv, List.flatMap_append] at h1
    have hv : ∀ x, x ∈ v.ownBlock.toList → x ∉ (fv.take k).flatMap (fun p : Fl × Value => p.2.ownBlock.toList) ∧ x ∉ (fv.drop k).flatMap (fun p : Fl × Value => p.2.ownBlock.toList) := fun x hx => by
      have := (hvn x (by simpa using hx)).2
      rw [← List.take_append_drop k fv, List.flatMap_append, List.mem_append, not_or] at this
      exact this
    obtain ⟨a1, a2, a3⟩ := List.nodup_append.1 h1
    rw [List.flatMap_append, List.flatMap_cons]
    refine List.nodup_append.2 ⟨a1, List.nodup_append.2 ⟨?_, a2, fun x hx y hy e => ?_⟩, fun x hx y hy e => ?_⟩
    · cases v.ownBlock <;> simp
    · subst e; exact (hv x hx).2 hy
    · subst e
      rcases List.mem_append.1 hy with hy | hy
      · exact (hv x hy).1 hx
      · exact a3 x hx x hy rfl
  have hb3 : w3.heap[gd]? = some (.cells #[.int .i64 d.room, vl, .bool d.ends, .int .i64 cc] 50) := (hA.old gd hgw).trans hb
  have h := relist_done (w2 := w3) (wF := wF) (v2 := v3) (fv2 := fv.take k ++ (f, v) :: fv.drop k) (cc := cc) hat hX hcc (by have := hA.size; omega) hA.old ⟨hA.os, hA.tape, hA.output⟩ hA.row
    (fun j hj => ⟨by have := hA.new j hj; omega, (hA.row.lt j hj).2⟩)
    (fun p hp => by
      rcases hsub p hp with h | rfl
      · refine ⟨hat.each p h, fun j hj => ⟨hat.foot j (mem_blocks_file h hj), fun e => ?_⟩⟩
        rw [blocksOf, List.cons_append, List.nodup_cons] at hap
        apply hap.1
        rw [← e, List.mem_append, List.mem_flatMap]
        exact .inr ⟨p, h, by simp [hj]⟩
      · exact ⟨hfo, fun j hj => ⟨(hfb j hj).1, (hvn j hj).1⟩⟩)
    hnd (fun j hj => by rw [hF, Below.heap_setCell _ _ _ _ (by simpa using hj)]) (by rw [hF, heap_setCell_same _ _ _ _ _ _ hb3]; simp) (by rw [hF]; simp) (by rw [hF]; exact ⟨rfl, rfl, rfl⟩)
  refine ⟨h.1, v3, fv.take k ++ (f, v) :: fv.drop k, ?_⟩
  have e : (fv.take k ++ (f, v) :: fv.drop k).map (·.1) = D.add d.fs f := by
    unfold D.add
    rw [← hk, List.map_append, List.map_cons, List.map_take, List.map_drop, hat.fs]
  rw [← e]
  exact h.2

end Go.Proofs.YtikcdchmggdmdaaDoor.M

/- Part: DiskRef6. -/
namespace Go.Proofs.YtikcdchmggdmdaaDoor.M
open Go.RowKit
open D (Fl Dk)

theorem tick_fs (d : Dk) : d.tick.fs = d.fs := by unfold D.Dk.tick; split <;> rfl

theorem tick_room (d : Dk) : d.tick.room = d.room := by unfold D.Dk.tick; split <;> rfl

theorem tick_calls (d : Dk) : d.tick.calls ≤ d.calls := by
  unfold D.Dk.tick
  split
  · exact Nat.sub_le _ _
  · exact Nat.le_refl _

/-- What a call of the disk leaves. -/
def CallPost (w : World) (X : Nat → Prop) (gd : Nat) (r : Int × Dk) (e : Ending) (w' : World) : Prop :=
  e = .returned (.int .i64 r.1) ∧ Only X w w' ∧ Dsk w' (More X w w') gd r.2

theorem Dsk.up {w w' : World} {X : Nat → Prop} {gd : Nat} {d : Dk} (h : Dsk w' X gd d) : Dsk w' (More X w w') gd d := h.same (fun _ hk => .inl hk) fun _ _ => rfl

theorem findR_neg {fs : List Fl} {s : ByteArray} (h : D.isThere fs s = false) : D.findR fs s = -1 := by
  unfold D.isThere at h
  unfold D.findR
  rw [if_neg (by simpa using h)]

theorem findR_pos {fs : List Fl} {s : ByteArray} (h : D.isThere fs s = true) : D.findR fs s = (D.find fs s : Int) ∧ D.find fs s < fs.length := by
  unfold D.isThere at h
  unfold D.findR
  have h' : D.find fs s < fs.length := by simpa using h
  exact ⟨by rw [if_pos h'], h'⟩

theorem rename_32 {d : Dk} {a b : ByteArray} (h : d.stopped = true) : D.rename d a b = (32, d) := by unfold D.rename; rw [if_pos h]

theorem rename_30 {d : Dk} {a b : ByteArray} (h : d.stopped = false) (hn : D.isThere d.fs a = false ∨ D.okName b = false) : D.rename d a b = (30, d.tick) := by
  unfold D.rename
  rw [if_neg (by rw [h]; simp)]
  simp only [tick_fs]
  rw [if_pos hn]

theorem rename_0 {d : Dk} {a b : ByteArray} (h : d.stopped = false) (ha : D.isThere d.fs a = true) (hb : D.okName b = true) (hi : D.find d.fs a < d.fs.length) :
    D.rename d a b = (0, { d.tick with fs := D.add ((d.fs.eraseIdx (D.find d.fs a)).eraseIdx (D.find (d.fs.eraseIdx (D.find d.fs a)) b)) { d.fs[D.find d.fs a] with nm := b } }) := by
  unfold D.rename
  rw [if_neg (by rw [h]; simp)]
  simp only [tick_fs]
  rw [if_neg (by rw [ha, hb]; simp), List.getElem?_eq_getElem hi]

theorem stopped_tick {d : Dk} (hst : d.stopped = true) : d.tick = d := by
  unfold D.Dk.tick
  unfold D.Dk.stopped at hst
  simp only [Bool.and_eq_true, beq_iff_eq] at hst
  rw [if_neg (by simp [hst.2])]

end Go.Proofs.YtikcdchmggdmdaaDoor.M

/- Part: ProjG. -/
namespace Go.Proofs.YtikcdchmggdmdaaDoor.M
open Go.RowKit Go.Maps
open D (Fl Dk)

theorem rest_stopped {d : Dk} (h : d.stopped = true) : restOf d = 0 := by
  unfold D.Dk.stopped at h
  simp only [Bool.and_eq_true, beq_iff_eq] at h
  unfold restOf
  rw [if_pos h.1, h.2]; rfl

theorem rest_not {d : Dk} (h : d.stopped = false) : (restOf d = -1 ∧ d.tick = d) ∨ (0 < restOf d ∧ restOf d ≠ -1 ∧ restOf d = (d.calls : Int) ∧ restOf d.tick = restOf d - 1) := by
  unfold D.Dk.stopped at h
  unfold restOf D.Dk.tick
  cases he : d.ends with
  | false => left; simp
  | true =>
    rw [he] at h
    simp at h
    right
    simp only [if_true, h, not_false_eq_true, and_self, ne_eq, true_and, if_true]
    refine ⟨by omega, by omega, by omega⟩

theorem PDAt.tick {w : World} {X : Nat → Prop} {gd gm : Nat} {d : Dk} {M : DataW Nat} {E : ByteArray → Nat × Value} (h : PDAt w X gd d d.free gm M E) (ht : d.tick = d) : PDAt w X gd d.tick d.tick.free gm M E := by rw [ht]; exact h

/-- A world behind 'work' has lowered the rest. -/
theorem PDsk.ticked {w : World} {X : Nat → Prop} {gd : Nat} {d : Dk} (h : PDsk w X gd d) {r : Int} (hr : r = restOf d.tick) {w' : World} (hw : w' = w.setCell ⟨gd, 1, none⟩ (.int .i64 r)) : Only X w w' ∧ w'.heap.size = w.heap.size ∧ PDsk w' X gd d.tick := by
  subst hw hr
  obtain ⟨gm, M, E, h⟩ := h
  have hb := heap_setCell_same _ _ 1 _ _ (.int .i64 (restOf d.tick)) h.box
  refine ⟨(Only.refl X w).set (.inl h.foot.1) _, by simp, gm, M, E, h.ticked (tick_fs d) ?_ fun k hk => Below.heap_setCell _ _ _ _ (by simpa using hk)⟩
  rw [hb]
  simp [D.Dk.free, tick_room, tick_fs]

theorem PPost.after {w w1 w' : World} {X : Nat → Prop} {gd : Nat} {r : Int × Dk} {e : Ending} (h1 : Only X w w1) (hs : w1.heap.size = w.heap.size) (h : PPost w1 X gd r e w') : PPost w X gd r e w' := by
  obtain ⟨a, b, c⟩ := h
  refine ⟨a, h1.trans (b.mono fun k hk => .inl hk), c.same (fun k hk => ?_) fun _ _ => rfl⟩
  rcases hk with hk | hk
  · exact .inl hk
  · exact .inr ⟨by omega, hk.2⟩

set_option maxRecDepth 20000 in
set_option maxHeartbeats 1600000 in
/-- One of the calls that change a disk: the closure's contract is asked of the disk behind the count. -/
theorem Work_any (n : Nat) (caps : Array Value) (he : ∀ (args : Array Value) (w : World), (callFunc n args).run Tryd.prog w = .ok (.enter n args) w) (d : Dk) (X : Nat → Prop) (gd : Nat) (r : Int × Dk) (w : World) (hd : PDsk w X gd d) (hc : d.calls ≤ 9223372036854775807)
    (hdo : ∀ w1, Only X w w1 → w1.heap.size = w.heap.size → PDsk w1 X gd d.tick → d.stopped = false → Calls Tryd.prog n caps w1 (PPost w1 X gd r)) :
    Calls Tryd.prog 34 #[.pointer (some ⟨gd, 0, none⟩), .func (.func n) #[] caps] w (PPost w X gd (if d.stopped then (32, d) else r)) := by
  have HD := Lib.hid hd
  have HDO := Lib.hid hdo
  obtain ⟨gm, M, E, hat⟩ := hd
  obtain ⟨⟨-, c1, -⟩, ⟨-, f1, -⟩, hz⟩ := hat.cells
  have HAT := Lib.hid hat
  clear hat hdo
  cases hst : d.stopped with
  | true =>
    rw [rest_stopped hst] at c1
    have HST := Lib.hid hst
    clear hst
    go_enter Tryd.func34, Tryd.ntmps34
    go_wp2_with fail
    go_ret
    exact ⟨rfl, Only.refl _ _, HD.out.up⟩
  | false =>
    rcases rest_not hst with ⟨h1, h2⟩ | ⟨h1, h2, h3, h4⟩
    · rw [h1] at c1
      have HC : Hid (Calls Tryd.prog n caps w (PPost w X gd r)) := Lib.hid (HDO.out w (Only.refl _ _) rfl (by rw [h2]; exact HD.out) hst)
      clear h1 h2 hst
      go_enter Tryd.func34, Tryd.ntmps34
      go_wp2_with fail
      refine HC.out.mono ?_
      rintro e w' ⟨rfl, ho, hd2⟩
      have HO := Lib.hid ho
      have HD2 := Lib.hid hd2
      clear ho hd2
      go_wp2_with fail
      go_ret
      exact ⟨rfl, HO.out, HD2.out⟩
    · obtain ⟨x, hx⟩ : ∃ x, x = restOf d := ⟨_, rfl⟩
      rw [← hx] at c1 h1 h2 h3 h4
      have q1 : x ≤ 9223372036854775807 := by omega
      have q2 : (x == 0) = false := by simp; omega
      have q3 : (x == -1) = false := by simp; omega
      have HC : Hid (∀ w1, w1 = w.setCell ⟨gd, 1, none⟩ (.int .i64 (x - 1)) → Only X w w1 ∧ w1.heap.size = w.heap.size ∧ Calls Tryd.prog n caps w1 (PPost w1 X gd r)) := Lib.hid fun w1 hw => by
        obtain ⟨a1, a2, a3⟩ := HD.out.ticked h4.symm hw
        exact ⟨a1, a2, HDO.out w1 a1 a2 a3 hst⟩
      have q4 : 0 < x := h1
      clear h2 h3 h4 hst hx h1
      go_enter Tryd.func34, Tryd.ntmps34
      go_wp2_with fail
      obtain ⟨a1, a2, a3⟩ := HC.out _ rfl
      refine a3.mono ?_
      rintro e w' hp
      have HP := Lib.hid (hp.after a1 a2)
      obtain ⟨rfl, -, -⟩ := hp
      clear a1 a2 a3
      go_wp2_with fail
      go_ret
      exact HP.out
end Go.Proofs.YtikcdchmggdmdaaDoor.M

/- Part: ProjI. -/
namespace Go.Proofs.YtikcdchmggdmdaaDoor.M
open Go.RowKit Go.Maps
open D (Fl Dk)

theorem Only.drewN (X : Nat → Prop) (w : World) (n : Nat) : Only X w (w.drewN n) := ⟨rfl, rfl, rfl, Nat.le_refl _, fun _ _ _ => rfl⟩

theorem used_layAt (fs : List Fl) (i : Nat) (l : List UInt8) (hi : i < fs.length) : D.used (D.layAt fs i l) = D.used fs + l.length := by
  have h := D.used_modify fs i (fun f => { f with b := f.b ++ l }) hi
  unfold D.layAt
  simp only [List.length_append] at h
  omega

theorem Only.then {X : Nat → Prop} {w w1 w2 : World} (h : Only X w w1) (g : Only X w1 w2) : Only X w w2 := h.trans (g.mono fun _ hk => .inl hk)

/-- Bytes laid behind a file's, and the disk's free bytes less. -/
theorem lay_done {W W2 W3 : World} {Y : Nat → Prop} {gd gm : Nat} {d : Dk} {fr left : Int} {M : DataW Nat} {E : ByteArray → Nat × Value} {f : Fl} {bs : List (List UInt8)} (h : PDAt W Y gd d fr gm M E) (hY : ∀ k, Y k → k < W.heap.size) (hr : D.Rising d.fs) (hf : f ∈ d.fs)
    (hp : PutAt W (E f.nm).1 (E f.nm).2 f bs bs.length W2) (hw3 : W3 = W2.setCell ⟨gd, 0, none⟩ (.int .i64 left)) :
    (W2.frozen? ⟨gd, 0, none⟩ = false ∧ gd < W2.heap.size ∧ W2.cell? ⟨gd, 0, none⟩ = some (.int .i64 fr)) ∧ Only Y W W3 ∧ ∃ E', PDAt W3 (More Y W W3) gd { d with fs := D.layAt d.fs (D.find d.fs f.nm) bs.flatten } left gm M E' := by
  obtain ⟨-, ho, v, hfa, hno⟩ := hp
  rw [List.take_length] at hfa
  obtain ⟨k1, k2, k3⟩ := h.kinds
  have ht : D.isThere d.fs f.nm = true := D.isThere_mem.2 ⟨f, hf, rfl⟩
  have hgz := hY gd h.foot.1
  have hold : ∀ k, k < W.heap.size → k ≠ (E f.nm).1 → (E f.nm).2.ownBlock ≠ some k → W2.heap[k]? = W.heap[k]? := fun k hk h1 h2 => ho.block k hk fun h3 => by
    rcases h3 with h3 | h3
    · exact h1 h3
    · exact h2 h3
  have hb2 : W2.heap[gd]? = some (.cells #[.int .i64 fr, .int .i64 (restOf d), .map (some gm)] 53) := (hold gd hgz (fun e => (k2 f hf).1 e.symm) fun e => (k3 f hf gd e).1 rfl).trans h.box
  have hY2 : ∀ k, More Y W W2 k → k < W2.heap.size := fun k hk => by
    rcases hk with hk | hk
    · exact Nat.lt_of_lt_of_le (hY k hk) ho.size
    · exact hk.2
  have hnm : (D.layAt d.fs (D.find d.fs f.nm) bs.flatten).map (·.nm) = d.fs.map (·.nm) := D.names_modify _ _ _ fun _ => rfl
  have hturn := h.turned hr ht (d' := { d with fs := D.layAt d.fs (D.find d.fs f.nm) bs.flatten }) (v' := v) (f' := { f with b := f.b ++ bs.flatten }) (w' := W2) (Y := More Y W W2) hY (fun k hk => .inl hk) rfl hnm
    (fun g hg => by
      rcases D.mem_modify hr hg with h1 | ⟨f0, h1, h2, h3⟩
      · exact .inl h1
      · have := hr.uniq h1 hf h2
        subst this
        exact .inr h3)
    rfl hfa (fun k hk => by
      rcases hno with h1 | ⟨g, h1, h2⟩
      · exact .inl (by rw [← h1]; exact hk)
      · rw [h1] at hk; cases hk
        have : k < W2.heap.size := (hfa.2.lt k h1).2
        exact .inr ⟨.inr ⟨h2, this⟩, h2⟩) hold
  have hb3 := heap_setCell_same _ _ 0 _ _ (.int .i64 left) hb2
  subst hw3
  refine ⟨⟨frozen_of_row W2 gd 0 _ _ hb2, lt_of_heap hb2, cell_of_row W2 gd 0 _ _ _ hb2⟩, ?_, (fun t => if t = f.nm then ((E f.nm).1, v) else E t), ?_⟩
  · refine (show Only Y W W2 from ⟨ho.os, ho.tape, ho.output, ho.size, fun k hk hn => ho.block k hk fun h3 => ?_⟩).set (.inl h.foot.1) _
    rcases h3 with h3 | h3
    · exact hn (h3 ▸ (h.foot.2.2 f hf).1)
    · exact hn ((h.foot.2.2 f hf).2 k h3)
  · exact (hturn.ticked (d' := { d with fs := D.layAt d.fs (D.find d.fs f.nm) bs.flatten }) (fr' := left) rfl (by rw [hb3]; simp [restOf]) (fun k hk => Below.heap_setCell _ _ _ _ (by simpa using hk))).same (fun k hk => by
      rcases hk with hk | hk
      · exact .inl hk
      · exact .inr ⟨hk.1, by simpa using hk.2⟩) fun _ _ => rfl

/-- What the closure of Append does. -/
def appendB (e : Dk) (s : ByteArray) (bs : List (List UInt8)) : Int × Dk :=
  if D.okName s = false then (30, e)
  else if (bs.flatten.length : Int) > e.free ∨ (D.isThere e.fs s = false ∧ 4096 ≤ e.fs.length) then (31, e)
  else (0, { e with fs := D.layAt (if D.isThere e.fs s then e.fs else D.add e.fs ⟨s, [], 0⟩) (D.find (if D.isThere e.fs s then e.fs else D.add e.fs ⟨s, [], 0⟩) s) bs.flatten })

theorem append_eq (d : Dk) (s : ByteArray) (bs : List (List UInt8)) : D.append d s bs = if d.stopped then (32, d) else appendB d.tick s bs := rfl

/-- A new file in the map. -/
theorem new_done {W W1 W2 : World} {X : Nat → Prop} {gd gm n : Nat} {d : Dk} {fr : Int} {M : DataW Nat} {E : ByteArray → Nat × Value} {s : ByteArray} (h : PDAt W X gd d fr gm M E) (hX : ∀ k, X k → k < W.heap.size) (hs : D.isThere d.fs s = false)
    (h1 : W1 = W.alloc (.cells #[.slice none 0 0, .int .i64 0] 73)) (hm : W2.ownsMap Tryd.prog 9 ptrElem gm n (M.put (.string s.data.toList) (.held W.heap.size))) (hg : W1.grownBy W2 (some gm)) (hz : W2.heap.size = W.heap.size + 1) :
    Only X W W2 ∧ PDAt W2 (fun k => X k ∨ k = W.heap.size) gd { d with fs := D.add d.fs ⟨s, [], 0⟩ } fr gm (M.put (.string s.data.toList) (.held W.heap.size)) (fun t => if t = s then (W.heap.size, .slice none 0 0) else E t) ∧ (∀ k, X k ∨ k = W.heap.size → k < W2.heap.size) := by
  subst h1
  obtain ⟨k1, k2, k3⟩ := h.kinds
  have hold : ∀ k, k < W.heap.size → k ≠ gm → W2.heap[k]? = W.heap[k]? := fun k hk hne => (hg.block k (by simp; omega) (by simpa using hne)).trans (Below.heap_alloc _ _ _ hk)
  have hgmlt := hX gm h.foot.2.1
  have hnew : W2.heap[W.heap.size]? = some (.cells #[.slice none 0 0, .int .i64 0] 73) := (hg.block W.heap.size (by simp) (by simp; omega)).trans (heap_alloc_new _ _)
  refine ⟨⟨hg.os, hg.tape, hg.output, by omega, fun k hk hne => hold k hk fun e => hne (e ▸ h.foot.2.1)⟩, ?_, fun k hk => by
    rcases hk with hk | hk
    · have := hX k hk; omega
    · omega⟩
  have hfl : ∀ f ∈ d.fs, (E f.nm).1 < W.heap.size := fun f hf => hX _ (h.foot.2.2 f hf).1
  exact h.added (x := ⟨s, [], 0⟩) (Y := fun k => X k ∨ k = W.heap.size) hs rfl (fun _ hk => .inl hk) hm ((hold gd (hX gd h.foot.1) k1.symm).trans h.box) ⟨hnew, World.ownsRow_nil _ _ _ _⟩ ⟨.inr rfl, fun k hk => by cases hk⟩
    (fun f hf => ⟨by have := hfl f hf; omega, fun k hk => by cases hk⟩) fun k hk h1 h2 => hold k (hX k hk) h2
end Go.Proofs.YtikcdchmggdmdaaDoor.M

/- Part: ProjJ. -/
namespace Go.Proofs.YtikcdchmggdmdaaDoor.M
open Go.RowKit Go.Maps
open D (Fl Dk)

theorem cell_only {X : Nat → Prop} {w w' : World} (h : Only X w w') {b : Nat} (hb : b < w.heap.size) (hX : ¬ X b) (j : Nat) : w'.cell? ⟨b, j, none⟩ = w.cell? ⟨b, j, none⟩ := World.cell?_of_block (a := ⟨b, j, none⟩) (h.block b hb hX)

theorem PPost.of {w w1 w' : World} {X : Nat → Prop} {gd : Nat} {n : Int} {d : Dk} {e : Ending} (h1 : Only X w w1) (he : e = .returned (.int .i64 n)) (h2 : Only X w1 w') (h3 : PDsk w' (More X w1 w') gd d) : PPost w X gd (n, d) e w' :=
  ⟨he, h1.then h2, h3.same (fun k hk => by
    rcases hk with hk | hk
    · exact .inl hk
    · exact .inr ⟨Nat.le_trans h1.size hk.1, hk.2⟩) fun _ _ => rfl⟩

set_option maxRecDepth 20000 in
set_option maxHeartbeats 6400000 in
theorem AppendC_any (d : Dk) (X : Nat → Prop) (gd bn bd bb : Nat) (s : ByteArray) (bs : List (List UInt8)) (F : Nat → Prop) (vb : Value) (w : World) (hd : PDskIn w X gd d) (hg : Good d) (hs : s.size ≤ 9223372036854775807)
    (hv : RepBl w F bs vb) (hF : ∀ k, F k → k < w.heap.size ∧ ¬ X k) (hu : D.used d.fs + bs.flatten.length ≤ 1099511627776)
    (c1 : w.cell? ⟨bn, 0, none⟩ = some (.string s)) (c2 : w.cell? ⟨bd, 0, none⟩ = some (.pointer (some ⟨gd, 0, none⟩))) (c3 : w.cell? ⟨bb, 0, none⟩ = some vb) (hbx : (bn < w.heap.size ∧ ¬ X bn) ∧ (bd < w.heap.size ∧ ¬ X bd) ∧ (bb < w.heap.size ∧ ¬ X bb)) :
    Calls Tryd.prog 39 #[.pointer (some ⟨bn, 0, none⟩), .pointer (some ⟨bd, 0, none⟩), .pointer (some ⟨bb, 0, none⟩)] w (PPost w X gd (appendB d s bs)) := by
  obtain ⟨na, nc, rfl, hnl⟩ := hv.slice
  have HV := Lib.hid hv
  have HF := Lib.hid hF
  have HX := Lib.hid hd.2
  have HD := Lib.hid hd.1
  have HG := Lib.hid hg
  have HS := Lib.hid hs
  have HU := Lib.hid hu
  have HBX := Lib.hid hbx
  have HC1 := Lib.hid c1
  have HC2 := Lib.hid c2
  have HC3 := Lib.hid c3
  obtain ⟨⟨b1, -⟩, ⟨b2, -⟩, b3, -⟩ := hbx
  clear hv hF hd hg hs hu
  go_enter Tryd.func39, Tryd.ntmps39
  go_wp2_with fail
  refine (IsName_any s _ HS.out).mono ?_
  rintro e w1 ⟨rfl, hb1⟩
  have HO1 : Hid (Only X w w1) := Lib.hid ((Only.of_below hb1).mono fun _ h => h)
  have HD1 : Hid (PDskIn w1 X gd d) := Lib.hid ⟨HD.out.same (fun _ h => h) fun k hk => hb1.block k (HX.out k hk), fun k hk => Nat.lt_of_lt_of_le (HX.out k hk) hb1.size⟩
  have b1 : bn < w1.heap.size := Nat.lt_of_lt_of_le b1 hb1.size
  have b2 : bd < w1.heap.size := Nat.lt_of_lt_of_le b2 hb1.size
  have b3 : bb < w1.heap.size := Nat.lt_of_lt_of_le b3 hb1.size
  clear hb1 c1 c2 c3
  cases hok : D.okName s with
  | false =>
    have HE : Hid (appendB d s bs = (30, d)) := Lib.hid (by unfold appendB; rw [if_pos hok])
    clear hok
    go_wp2_with fail
    go_ret
    rw [HE.out]
    exact PPost.of HO1.out rfl (Only.refl _ _) HD1.out.1.up
  | true =>
    have HOK := Lib.hid hok
    obtain ⟨gm, M, E, hat⟩ := HD1.out.1
    obtain ⟨⟨d0, -, d2⟩, ⟨f0, -, -⟩, hz⟩ := hat.cells
    have c1 := (cell_only HO1.out HBX.out.1.1 HBX.out.1.2 0).trans HC1.out
    have c2 := (cell_only HO1.out HBX.out.2.1.1 HBX.out.2.1.2 0).trans HC2.out
    have c3 := (cell_only HO1.out HBX.out.2.2.1 HBX.out.2.2.2 0).trans HC3.out
    have HAT := Lib.hid hat
    have HV1 : Hid (RepBl w1 F bs (.slice na bs.length nc)) := Lib.hid (HV.out.same (fun _ h => h) fun k hk => HO1.out.block k (HF.out k hk).1 (HF.out k hk).2)
    have HF1 : Hid (∀ k, F k → k < w1.heap.size ∧ ¬ X k) := Lib.hid fun k hk => ⟨Nat.lt_of_lt_of_le (HF.out k hk).1 HO1.out.size, (HF.out k hk).2⟩
    obtain ⟨fr, hfr⟩ : ∃ fr, fr = d.free := ⟨_, rfl⟩
    rw [← hfr] at d0 HAT
    have HFR := Lib.hid hfr
    have hfr0 : 0 ≤ fr := by rw [hfr]; exact HG.out.1.2.2.1
    have hfr1 : fr ≤ 9223372036854775807 := by
      have := HG.out.1.2.2.2.2
      rw [hfr]
      unfold D.Dk.free
      omega
    have hfit : ∀ n, Calls Tryd.prog 41 #[.int .i64 fr, .slice na bs.length nc] (w1.drewN n) fun e w' => e = .returned (fitR fr bs) ∧ w' = w1.drewN n := fun n => (Fit_any fr bs F (.slice na bs.length nc) (w1.drewN n) hfr0 hfr1 (HV1.out.same (fun _ h => h) fun _ _ => rfl) (fun k hk => (HF1.out k hk).1)).mono fun e w' h => ⟨h.1, h.2.symm⟩
    clear hok hat hfr
    go_wp2_with fail
    by_cases hfit1 : (bs.flatten.length : Int) ≤ fr
    · have hfe : fitR fr bs = .tuple #[.int .i64 (fr - bs.flatten.length), .bool true] := by unfold fitR; rw [if_pos hfit1]
      rw [hfe] at hfit
      have HFT := Lib.hid hfit
      clear hfit
      obtain ⟨left, hleft⟩ : ∃ left, left = fr - (bs.flatten.length : Int) := ⟨_, rfl⟩
      rw [← hleft] at HFT
      have HLEFT := Lib.hid hleft
      have HFIT := Lib.hid hfit1
      clear hfe hfit1 hleft
      go_quiet ((go_at_call 41; exact Calls.quiet_of_same (HFT.out _)))
      generalize hW2 : World.drewN w1 _ = W2
      have HO2 : Hid (Only X w W2) := Lib.hid (by rw [← hW2]; exact HO1.out.then (Only.drewN _ _ _))
      have HE2 : Hid (W2.heap = w1.heap) := Lib.hid (by rw [← hW2]; rfl)
      clear hW2
      have c1 : W2.cell? ⟨bn, 0, none⟩ = some (.string s) := (World.cell?_of_block (a := ⟨bn, 0, none⟩) (by rw [HE2.out])).trans c1
      have c2 : W2.cell? ⟨bd, 0, none⟩ = some (.pointer (some ⟨gd, 0, none⟩)) := (World.cell?_of_block (a := ⟨bd, 0, none⟩) (by rw [HE2.out])).trans c2
      have c3 : W2.cell? ⟨bb, 0, none⟩ = some (.slice na bs.length nc) := (World.cell?_of_block (a := ⟨bb, 0, none⟩) (by rw [HE2.out])).trans c3
      have d2 : W2.cell? ⟨gd, 2, none⟩ = some (.map (some gm)) := (World.cell?_of_block (a := ⟨gd, 2, none⟩) (by rw [HE2.out])).trans d2
      have b1 : bn < W2.heap.size := by rw [HE2.out]; exact b1
      have b2 : bd < W2.heap.size := by rw [HE2.out]; exact b2
      have b3 : bb < W2.heap.size := by rw [HE2.out]; exact b3
      have hz : gd < W2.heap.size := by rw [HE2.out]; exact hz
      have hlk : ∀ n, (Instr.lookup 51 (.map (some gm)) (.string s) false).run Tryd.prog (W2.drewN n) = .ok (ptrOf d E s) (W2.drewN n) := fun n => HAT.out.look HS.out (w' := W2.drewN n) (by show W2.heap[gm]? = _; rw [HE2.out])
      clear d0 f0
      go_wp2_with fail
      go_quiet (fail)
      clear hlk
      generalize hW3 : World.drewN W2 _ = W3
      have HO3 : Hid (Only X w W3) := Lib.hid (by rw [← hW3]; exact HO2.out.then (Only.drewN _ _ _))
      have HE3 : Hid (W3.heap = w1.heap) := Lib.hid (by rw [← hW3]; exact HE2.out)
      clear hW3 HO2 HE2
      have c1 : W3.cell? ⟨bn, 0, none⟩ = some (.string s) := (cell_only HO3.out HBX.out.1.1 HBX.out.1.2 0).trans HC1.out
      have c2 : W3.cell? ⟨bd, 0, none⟩ = some (.pointer (some ⟨gd, 0, none⟩)) := (cell_only HO3.out HBX.out.2.1.1 HBX.out.2.1.2 0).trans HC2.out
      have c3 : W3.cell? ⟨bb, 0, none⟩ = some (.slice na bs.length nc) := (cell_only HO3.out HBX.out.2.2.1 HBX.out.2.2.2 0).trans HC3.out
      have hat3 : PDAt W3 X gd d fr gm M E := HAT.out.same (fun _ h => h) fun k _ => by rw [HE3.out]
      obtain ⟨⟨d0, -, d2⟩, ⟨f0, -, -⟩, hz⟩ := hat3.cells
      have HX3 : Hid (∀ k, X k → k < W3.heap.size) := Lib.hid fun k hk => by rw [HE3.out]; exact HD1.out.2 k hk
      have b1 : bn < W3.heap.size := Nat.lt_of_lt_of_le HBX.out.1.1 HO3.out.size
      have b2 : bd < W3.heap.size := Nat.lt_of_lt_of_le HBX.out.2.1.1 HO3.out.size
      have b3 : bb < W3.heap.size := Nat.lt_of_lt_of_le HBX.out.2.2.1 HO3.out.size
      have HV3 : Hid (RepBl W3 F bs (.slice na bs.length nc)) := Lib.hid (HV.out.same (fun _ h => h) fun k hk => HO3.out.block k (HF.out k hk).1 (HF.out k hk).2)
      have HF3 : Hid (∀ k, F k → k < W3.heap.size ∧ ¬ X k) := Lib.hid fun k hk => ⟨Nat.lt_of_lt_of_le (HF.out k hk).1 HO3.out.size, (HF.out k hk).2⟩
      have HAT3 := Lib.hid hat3
      clear hat3 HV1 HF1 HAT HD1 HO1 HE3 HFT
      cases ht : D.isThere d.fs s with
      | true =>
        obtain ⟨f, hf, rfl⟩ := D.isThere_mem.1 ht
        have hp : ptrOf d E f.nm = .pointer (some ⟨(E f.nm).1, 0, none⟩) := by unfold ptrOf; rw [ht]; rfl
        rw [hp]
        have HE : Hid (appendB d f.nm bs = (0, { d with fs := D.layAt d.fs (D.find d.fs f.nm) bs.flatten })) := Lib.hid (by
          unfold appendB
          rw [if_neg (by rw [HOK.out]; simp), if_neg (fun h => by
            rcases h with h | ⟨h, _⟩
            · have := HFIT.out
              have := HFR.out
              omega
            · rw [ht] at h; cases h)]
          rw [ht]; rfl)
        have HFA := Lib.hid (HAT3.out.each f hf)
        have hft := HAT3.out.foot.2.2 f hf
        have HFF : Hid (∀ k, F k → k < W3.heap.size ∧ k ≠ (E f.nm).1 ∧ (E f.nm).2.ownBlock ≠ some k) := Lib.hid fun k hk => ⟨(HF3.out k hk).1, fun e => (HF3.out k hk).2 (e ▸ hft.1), fun e => (HF3.out k hk).2 (hft.2 k e)⟩
        have HBU : Hid (f.b.length + bs.flatten.length ≤ 140737488355328) := Lib.hid (by
          have := D.used_mem hf
          have := HU.out
          omega)
        have HPA : Hid (∀ W4, PutAt W3 (E f.nm).1 (E f.nm).2 f bs bs.length W4 → (W4.frozen? ⟨gd, 0, none⟩ = false ∧ gd < W4.heap.size ∧ W4.cell? ⟨gd, 0, none⟩ = some (.int .i64 fr) ∧ W4.cell? ⟨bd, 0, none⟩ = some (.pointer (some ⟨gd, 0, none⟩)) ∧ bd < W4.heap.size) ∧ PPost w X gd (appendB d f.nm bs) (.returned (.int .i64 0)) (W4.setCell ⟨gd, 0, none⟩ (.int .i64 left))) := Lib.hid fun W4 hput => by
          obtain ⟨⟨q1, q2, q3⟩, q4, E', q5⟩ := lay_done (left := left) HAT3.out HX3.out HG.out.2.1 hf hput rfl
          have ho4 : Only X W3 W4 := ⟨hput.2.1.os, hput.2.1.tape, hput.2.1.output, hput.2.1.size, fun k hk hn => hput.2.1.block k hk fun h3 => by
            rcases h3 with h3 | h3
            · exact hn (h3 ▸ hft.1)
            · exact hn (hft.2 k h3)⟩
          have ho5 := HO3.out.then ho4
          refine ⟨⟨q1, q2, q3, (cell_only ho5 HBX.out.2.1.1 HBX.out.2.1.2 0).trans HC2.out, Nat.lt_of_lt_of_le HBX.out.2.1.1 ho5.size⟩, ?_⟩
          rw [HE.out]
          refine PPost.of HO3.out rfl q4 ⟨gm, M, E', ?_⟩
          have e : ({ d with fs := D.layAt d.fs (D.find d.fs f.nm) bs.flatten } : Dk).free = left := by
            rw [HLEFT.out, HFR.out]
            unfold D.Dk.free
            simp only
            rw [used_layAt _ _ _ (D.find_lt ht)]
            omega
          rw [e]
          exact q5
        obtain ⟨b, hb⟩ : ∃ b, b = (E f.nm).1 := ⟨_, rfl⟩
        rw [← hb] at HFA HFF HPA ⊢
        clear hb hft hf ht hp d0 f0
        go_wp2_with fail
        refine (Lay_any b _ f bs F _ _ HFA.out HV3.out HFF.out HBU.out).mono ?_
        rintro e W4 ⟨rfl, hput⟩
        obtain ⟨⟨q1, q2, q3, q4, q5⟩, q6⟩ := HPA.out W4 hput
        have HP := Lib.hid q6
        clear hput q6
        go_wp2_with fail
        go_ret
        exact HP.out
      | false =>
        have hp : ptrOf d E s = .pointer none := by unfold ptrOf; rw [ht]; rfl
        rw [hp]
        have hlen := fun ty => HAT3.out.len (w' := W3) rfl ty
        by_cases hfull : 4096 ≤ d.fs.length
        · have q1 : (4096 : Int) ≤ (d.fs.length : Int) := by omega
          have HE : Hid (appendB d s bs = (31, d)) := Lib.hid (by
            unfold appendB
            rw [if_neg (by rw [HOK.out]; simp), if_pos (.inr ⟨ht, hfull⟩)])
          clear hp ht hfull d0 f0
          go_wp2_with fail
          go_ret
          rw [HE.out]
          exact PPost.of HO3.out rfl (Only.refl _ _) ⟨gm, M, E, by rw [← HFR.out]; exact HAT3.out.same (fun _ h => .inl h) fun _ _ => rfl⟩
        · have q1 : decide ((4096 : Int) ≤ (d.fs.length : Int)) = false := by simp; omega
          have HT := Lib.hid ht
          have HNF := Lib.hid hfull
          clear hp ht hfull d0 f0
          go_wp2_with fail
          obtain ⟨W4, hW4⟩ : ∃ W4, W4 = W3.alloc (.cells #[.slice none 0 0, .int .i64 0] 73) := ⟨_, rfl⟩
          have c1 : W4.cell? ⟨bn, 0, none⟩ = some (.string s) := by rw [hW4, World.cell?_alloc_past _ _ _ b1]; exact c1
          have c2 : W4.cell? ⟨bd, 0, none⟩ = some (.pointer (some ⟨gd, 0, none⟩)) := by rw [hW4, World.cell?_alloc_past _ _ _ b2]; exact c2
          have d2 : W4.cell? ⟨gd, 2, none⟩ = some (.map (some gm)) := by rw [hW4, World.cell?_alloc_past _ _ _ hz]; exact d2
          rw [← hW4]
          have HW4 := Lib.hid hW4
          have HOWN : Hid (W4.drew.ownsMap Tryd.prog 9 ptrElem gm d.fs.length M) := Lib.hid (by rw [hW4]; exact HAT3.out.map.alloc _)
          clear hW4
          go_still_tail 6, (by kernel_rfl)
          have HMX : Hid (d.fs.length < maxLen) := Lib.hid (by unfold maxLen; have := HNF.out; omega)
          have HKEY := Lib.hid (key_of HS.out)
          go_wp2_with (at_mapUpdate; refine wpList_mapUpdate_in _ rfl _ _ _ 51 rfl 9 61 law9 Tryd.underlying51 ptrElem gm _ M rfl HOWN.out HMX.out _ _ _ rfl rfl HKEY.out (.held W3.heap.size) [] rfl ?_)
          intro w5 hown5 hturn5
          have hz5 : w5.heap.size = W3.heap.size + 1 := by
            obtain ⟨es, c, es', c', h1, h2⟩ := hturn5
            rw [h2]; simp [Go.ChangeMaps.setBlock]; rw [HW4.out]; simp
          have hg5 := hturn5.grown
          obtain ⟨n1, n2, n3⟩ := new_done HAT3.out HX3.out HT.out HW4.out hown5 ⟨hg5.os, hg5.tape, hg5.output, hg5.size, hg5.block⟩ hz5
          have HO5 : Hid (Only X w w5) := Lib.hid (HO3.out.then n1)
          have hnb := HO3.out.size
          obtain ⟨nb, hnbe⟩ : ∃ nb, nb = W3.heap.size := ⟨_, rfl⟩
          rw [← hnbe] at n2 n3 hz5 hnb ⊢
          have HNB : Hid (w.heap.size ≤ nb ∧ nb < w5.heap.size) := Lib.hid ⟨hnb, by omega⟩
          have hmem : (⟨s, [], 0⟩ : Fl) ∈ D.add d.fs ⟨s, [], 0⟩ := D.mem_add.2 (.inl rfl)
          have hfa := n2.each _ hmem
          simp only [if_true] at hfa
          have hr5 : D.Rising (D.add d.fs ⟨s, [], 0⟩) := HG.out.2.1.add (x := ⟨s, [], 0⟩) (D.isThere_not.1 HT.out)
          have HFF : Hid (∀ k, F k → k < w5.heap.size ∧ k ≠ nb ∧ (Value.slice none 0 0).ownBlock ≠ some k) := Lib.hid fun k hk => ⟨Nat.lt_of_lt_of_le (HF.out k hk).1 HO5.out.size, fun e => by have := (HF.out k hk).1; omega, fun e => by cases e⟩
          have HV5 : Hid (RepBl w5 F bs (.slice na bs.length nc)) := Lib.hid (HV.out.same (fun _ h => h) fun k hk => HO5.out.block k (HF.out k hk).1 (HF.out k hk).2)
          have HBU : Hid ((⟨s, [], 0⟩ : Fl).b.length + bs.flatten.length ≤ 140737488355328) := Lib.hid (by
            have := HU.out
            show 0 + bs.flatten.length ≤ _
            omega)
          have HE : Hid (appendB d s bs = (0, { d with fs := D.layAt (D.add d.fs ⟨s, [], 0⟩) (D.find (D.add d.fs ⟨s, [], 0⟩) s) bs.flatten })) := Lib.hid (by
            unfold appendB
            rw [if_neg (by rw [HOK.out]; simp), if_neg (fun h => by
              rcases h with h | ⟨_, h⟩
              · have := HFIT.out
                have := HFR.out
                omega
              · exact HNF.out h)]
            rw [HT.out]; rfl)
          have HPA : Hid (∀ W6, PutAt w5 nb (.slice none 0 0) ⟨s, [], 0⟩ bs bs.length W6 → (W6.frozen? ⟨gd, 0, none⟩ = false ∧ gd < W6.heap.size ∧ W6.cell? ⟨gd, 0, none⟩ = some (.int .i64 fr) ∧ W6.cell? ⟨bd, 0, none⟩ = some (.pointer (some ⟨gd, 0, none⟩)) ∧ bd < W6.heap.size) ∧ PPost w X gd (appendB d s bs) (.returned (.int .i64 0)) (W6.setCell ⟨gd, 0, none⟩ (.int .i64 left))) := Lib.hid fun W6 hput => by
            have hput2 : PutAt w5 ((fun t => if t = s then (nb, Value.slice none 0 0) else E t) (⟨s, [], 0⟩ : Fl).nm).1 ((fun t => if t = s then (nb, Value.slice none 0 0) else E t) (⟨s, [], 0⟩ : Fl).nm).2 ⟨s, [], 0⟩ bs bs.length W6 := by
              simp only [if_true]; exact hput
            obtain ⟨⟨q1, q2, q3⟩, q4, E', q5⟩ := lay_done (left := left) n2 n3 hr5 hmem hput2 rfl
            have ho6 : Only X w W6 := HO5.out.trans ⟨hput.2.1.os, hput.2.1.tape, hput.2.1.output, hput.2.1.size, fun k hk hn => hput.2.1.block k hk fun h3 => by
              rcases h3 with h3 | h3
              · exact hn (h3 ▸ .inr HNB.out)
              · cases h3⟩
            have hsub : ∀ k, X k ∨ k = nb → More X w w5 k := fun k hk => by
              rcases hk with hk | hk
              · exact .inl hk
              · exact .inr (hk ▸ HNB.out)
            refine ⟨⟨q1, q2, q3, (cell_only ho6 HBX.out.2.1.1 HBX.out.2.1.2 0).trans HC2.out, Nat.lt_of_lt_of_le HBX.out.2.1.1 ho6.size⟩, ?_⟩
            rw [HE.out]
            have e : ({ d with fs := D.layAt (D.add d.fs ⟨s, [], 0⟩) (D.find (D.add d.fs ⟨s, [], 0⟩) s) bs.flatten } : Dk).free = left := by
              rw [HLEFT.out, HFR.out]
              unfold D.Dk.free
              simp only
              rw [used_layAt _ _ _ (D.find_lt (D.isThere_mem.2 ⟨_, hmem, rfl⟩)), D.used_add]
              simp
              omega
            refine ⟨rfl, HO5.out.trans (q4.mono hsub), gm, M.put (.string s.data.toList) (.held nb), E', ?_⟩
            rw [e]
            exact q5.same (fun k hk => by
              rcases hk with hk | hk
              · rcases hsub k hk with h | h
                · exact .inl h
                · exact .inr ⟨h.1, Nat.lt_of_lt_of_le h.2 q4.size⟩
              · exact .inr ⟨Nat.le_trans HO5.out.size hk.1, hk.2⟩) fun _ _ => rfl
          have c3 : w5.cell? ⟨bb, 0, none⟩ = some (.slice na bs.length nc) := (cell_only HO5.out HBX.out.2.2.1 HBX.out.2.2.2 0).trans HC3.out
          have b3 : bb < w5.heap.size := Nat.lt_of_lt_of_le HBX.out.2.2.1 HO5.out.size
          have HFA := Lib.hid hfa
          clear hfa hmem hr5 n1 n2 n3 hown5 hturn5 hg5 hz5 hnbe hnb hz b1 b2 hlen
          go_wp2_with fail
          refine (Lay_any nb _ ⟨s, [], 0⟩ bs F _ _ HFA.out HV5.out HFF.out HBU.out).mono ?_
          rintro e W6 ⟨rfl, hput⟩
          obtain ⟨⟨q1, q2, q3, q4, q5⟩, q6⟩ := HPA.out W6 hput
          have HP := Lib.hid q6
          clear hput q6
          go_wp2_with fail
          go_ret
          exact HP.out
    · have hfe : fitR fr bs = .tuple #[.int .i64 0, .bool false] := by unfold fitR; rw [if_neg hfit1]
      rw [hfe] at hfit
      have HFT := Lib.hid hfit
      clear hfit
      have HE : Hid (appendB d s bs = (31, d)) := Lib.hid (by
        unfold appendB
        rw [if_neg (by rw [HOK.out]; simp), if_pos (.inl (by have := HFR.out; omega))])
      clear hfe hfit1
      go_quiet ((go_at_call 41; exact Calls.quiet_of_same (HFT.out _)))
      go_wp2_with fail
      go_ret
      rw [HE.out]
      exact PPost.of HO1.out rfl (Only.drewN _ _ _) (HD1.out.1.same (fun _ h => .inl h) fun _ _ => rfl)
end Go.Proofs.YtikcdchmggdmdaaDoor.M

/- Part: ProjK. -/
namespace Go.Proofs.YtikcdchmggdmdaaDoor.M
open Go.RowKit Go.Maps
open D (Fl Dk)

theorem Good.tick {d : Dk} (h : Good d) : Good d.tick := by
  obtain ⟨⟨h1, h2, h3, h4, h5⟩, h6, h7⟩ := h
  refine ⟨⟨by rw [tick_fs]; exact h1, Nat.le_trans (tick_calls d) h2, ?_, by rw [tick_room]; exact h4, by rw [tick_room]; exact h5⟩, by rw [tick_fs]; exact h6, by rw [tick_fs]; exact h7⟩
  unfold D.Dk.free at h3 ⊢
  rw [tick_room, tick_fs]; exact h3

theorem PPost.wrap {w W w' : World} {X : Nat → Prop} {gd : Nat} {r : Int × Dk} {e : Ending} (h1 : Only X w W) (h : PPost W X gd r e w') : PPost w X gd r e w' := by
  obtain ⟨a, b, c⟩ := h
  exact PPost.of h1 a b c

/-- One file turned in place. -/
theorem file_done {W W2 : World} {X : Nat → Prop} {gd gm : Nat} {d : Dk} {fr : Int} {M : DataW Nat} {E : ByteArray → Nat × Value} {f : Fl} (h : PDAt W X gd d fr gm M E) (hX : ∀ k, X k → k < W.heap.size) (hr : D.Rising d.fs) (hf : f ∈ d.fs)
    (g : Fl → Fl) (hg : ∀ f, (g f).nm = f.nm) {v' : Value} (hat : FileAt W2 (E f.nm).1 v' (g f)) (hv : v'.ownBlock = (E f.nm).2.ownBlock) (ho : Only (fun k => k = (E f.nm).1) W W2) :
    Only X W W2 ∧ ∃ E', PDAt W2 X gd { d with fs := d.fs.modify (D.find d.fs f.nm) g } fr gm M E' := by
  have ht : D.isThere d.fs f.nm = true := D.isThere_mem.2 ⟨f, hf, rfl⟩
  refine ⟨ho.mono fun k hk => hk ▸ (h.foot.2.2 f hf).1, fun t => if t = f.nm then ((E f.nm).1, v') else E t, ?_⟩
  exact h.turned hr ht (d' := { d with fs := d.fs.modify (D.find d.fs f.nm) g }) (v' := v') (f' := g f) (w' := W2) (Y := X) hX (fun k hk => hk) rfl (D.names_modify _ _ _ hg)
    (fun g2 hg2 => by
      rcases D.mem_modify hr hg2 with h1 | ⟨f0, h1, h2, h3⟩
      · exact .inl h1
      · have := hr.uniq h1 hf h2
        subst this
        exact .inr h3)
    (hg f) hat (fun k hk => .inl (by rw [← hv]; exact hk)) fun k hk h1 _ => ho.block k hk h1

set_option maxRecDepth 40000 in
theorem en41 : ∀ (args : Array Value) (w : World), (callFunc 39 args).run Tryd.prog w = .ok (.enter 39 args) w := fun _ _ => rfl
set_option maxRecDepth 40000 in
theorem en44 : ∀ (args : Array Value) (w : World), (callFunc 35 args).run Tryd.prog w = .ok (.enter 35 args) w := fun _ _ => rfl
set_option maxRecDepth 40000 in
theorem en49 : ∀ (args : Array Value) (w : World), (callFunc 44 args).run Tryd.prog w = .ok (.enter 44 args) w := fun _ _ => rfl
theorem cell_new1 (w : World) (v : Value) (t : TypeId) {g : Nat} (hg : g = w.heap.size) : (w.alloc (.cells #[v] t)).cell? ⟨g, 0, none⟩ = some v := by
  subst hg
  have h := cell_of_row _ w.heap.size 0 _ t _ (heap_alloc_new w (.cells #[v] t))
  exact h

theorem cell_past {w : World} {g j : Nat} {v : Value} (o : Obj) (h : w.cell? ⟨g, j, none⟩ = some v) (hg : g < w.heap.size) : (w.alloc o).cell? ⟨g, j, none⟩ = some v := by rw [World.cell?_alloc_past _ _ _ hg]; exact h

set_option maxRecDepth 20000 in
set_option maxHeartbeats 1600000 in
theorem PAppend_any (d : Dk) (X : Nat → Prop) (gd : Nat) (s : ByteArray) (bs : List (List UInt8)) (F : Nat → Prop) (vb : Value) (w : World) (hd : PDskIn w X gd d) (hg : Good d) (hs : s.size ≤ 9223372036854775807)
    (hv : RepBl w F bs vb) (hF : ∀ k, F k → k < w.heap.size ∧ ¬ X k) (hu : D.used d.fs + bs.flatten.length ≤ 1099511627776) :
    Calls Tryd.prog 25 #[.pointer (some ⟨gd, 0, none⟩), .string s, vb] w (PPost w X gd (D.append d s bs)) := by
  obtain ⟨na, nc, rfl, hnl⟩ := hv.slice
  have HV := Lib.hid hv
  have HF := Lib.hid hF
  have HD := Lib.hid hd
  have HG := Lib.hid hg
  clear hv hF hd hg
  obtain ⟨W, hW⟩ : ∃ W, W = ((w.alloc (.cells #[.pointer (some ⟨gd, 0, none⟩)] 30)).alloc (.cells #[.string s] 9)).alloc (.cells #[.slice na bs.length nc] 87) := ⟨_, rfl⟩
  have HO : Hid (Only X w W) := Lib.hid (by rw [hW]; exact (((Only.refl X w).alloc _).alloc _).alloc _)
  have HB : Hid (Below w.heap.size w W) := Lib.hid (by rw [hW]; exact (((Below.refl _ w).alloc (by omega) _).alloc (by simp) _).alloc (by simp; omega) _)
  have HSZ : Hid (W.heap.size = w.heap.size + 3) := Lib.hid (by rw [hW]; simp)
  have HC : Hid (W.cell? ⟨w.heap.size, 0, none⟩ = some (.pointer (some ⟨gd, 0, none⟩)) ∧ W.cell? ⟨w.heap.size + 1, 0, none⟩ = some (.string s) ∧ W.cell? ⟨w.heap.size + 1 + 1, 0, none⟩ = some (.slice na bs.length nc)) := Lib.hid (by
    rw [hW]
    refine ⟨cell_past _ (cell_past _ (cell_new1 _ _ _ rfl) (by simp)) (by simp; omega), cell_past _ (cell_new1 _ _ _ (by simp)) (by simp), cell_new1 _ _ _ (by simp)⟩)
  have hwk := Work_any 39 #[.pointer (some ⟨w.heap.size + 1, 0, none⟩), .pointer (some ⟨w.heap.size, 0, none⟩), .pointer (some ⟨w.heap.size + 1 + 1, 0, none⟩)] en41 d X gd (appendB d.tick s bs) W
    (HD.out.1.same (fun _ h => h) fun k hk => HB.out.block k (HD.out.2 k hk)) HG.out.1.2.1 (fun w1 ho hz hd1 hst => by
      have hnx : ∀ k, w.heap.size ≤ k → ¬ X k := fun k hk hx => by have := HD.out.2 k hx; omega
      have hsz := HSZ.out
      exact AppendC_any d.tick X gd _ _ _ s bs F _ w1 ⟨hd1, fun k hk => by have := HD.out.2 k hk; omega⟩ HG.out.tick hs
        (HV.out.same (fun _ h => h) fun k hk => (ho.block k (by have := (HF.out k hk).1; omega) (HF.out k hk).2).trans (HB.out.block k (HF.out k hk).1)) (fun k hk => ⟨by have := (HF.out k hk).1; omega, (HF.out k hk).2⟩) (by rw [tick_fs]; exact hu)
        ((cell_only ho (by omega) (hnx _ (by omega)) 0).trans HC.out.2.1) ((cell_only ho (by omega) (hnx _ (by omega)) 0).trans HC.out.1) ((cell_only ho (by omega) (hnx _ (by omega)) 0).trans HC.out.2.2)
        ⟨⟨by omega, hnx _ (by omega)⟩, ⟨by omega, hnx _ (by omega)⟩, by omega, hnx _ (by omega)⟩)
  rw [← append_eq] at hwk
  have HWK := Lib.hid hwk
  have HWE := Lib.hid hW
  clear hwk hW
  go_enter Tryd.func25, Tryd.ntmps25
  go_wp2_with fail
  rw [← HWE.out]
  refine HWK.out.mono ?_
  intro e w' hp
  have HP := Lib.hid (hp.wrap HO.out)
  obtain ⟨rfl, -, -⟩ := hp
  go_wp2_with fail
  go_ret
  exact HP.out
end Go.Proofs.YtikcdchmggdmdaaDoor.M

/- Part: ProjM. -/
namespace Go.Proofs.YtikcdchmggdmdaaDoor.M
open Go.RowKit Go.Maps
open D (Fl Dk)

section
variable {P : Program} {ops : Array Oper} {Q : Exit → Act → World → Prop} {md : Region.Mode} {S : World → Prop} {fuel : Nat} {listed : Array Bool} {a : Act} {w : World} {i j : Nat} {oi oj : Oper}

/-- One of two operations comes up next, whichever. -/
theorem H_either (hr : Region.ready md ops listed = [i, j]) (hi : ops[i]? = some oi) (hj : ops[j]? = some oj) (hwi : Region.wanted oi (yielded ops a.tmps) = true) (hwj : Region.wanted oj (yielded ops a.tmps) = true)
    (h1 : oi.wp P a w (fun a' w' => S w' ∧ wpAnyH P md ops Q S fuel (listed.setIfInBounds i true) a' w') Q)
    (h2 : oj.wp P a w (fun a' w' => S w' ∧ wpAnyH P md ops Q S fuel (listed.setIfInBounds j true) a' w') Q) : wpAnyH P md ops Q S (fuel + 1) listed a w :=
  wpAnyH_ready hr (by simp) (AllReadyH.cons hi (fun K' hK => by rw [if_pos hwi]; exact Oper.wp_mono (fun a w h => hK.out a w h.1 fun _ => h.2) h1)
    (AllReadyH.cons hj (fun K' hK => by rw [if_pos hwj]; exact Oper.wp_mono (fun a w h => hK.out a w h.1 fun _ => h.2) h2) AllReadyH.nil))
end

def cutB (e : Dk) (s : ByteArray) (n : Int) : Int × Dk :=
  match e.fs[D.find e.fs s]? with
  | none => (30, e)
  | some f =>
    if n < 0 ∨ (f.b.length : Int) < n then (2, e)
    else (0, { e with fs := e.fs.modify (D.find e.fs s) fun f => { f with b := f.b.take n.toNat, safe := min f.safe n.toNat } })

theorem cut_eq (d : Dk) (s : ByteArray) (n : Int) : D.cut d s n = if d.stopped then (32, d) else cutB d.tick s n := rfl

theorem get_find {fs : List Fl} (hr : D.Rising fs) {f : Fl} (hf : f ∈ fs) : fs[D.find fs f.nm]? = some f := by
  have ht : D.isThere fs f.nm = true := D.isThere_mem.2 ⟨f, hf, rfl⟩
  have hl := D.find_lt ht
  rw [List.getElem?_eq_getElem hl]
  congr 1
  exact hr.uniq (List.getElem_mem hl) hf (D.find_nm hl)

end Go.Proofs.YtikcdchmggdmdaaDoor.M

/- Part: ProjN. -/
namespace Go.Proofs.YtikcdchmggdmdaaDoor.M
open Go.RowKit Go.Maps
open D (Fl Dk)

def renameB (e : Dk) (a b : ByteArray) : Int × Dk :=
  if D.isThere e.fs a = false ∨ D.okName b = false then (30, e)
  else
    match e.fs[D.find e.fs a]? with
    | none => (30, e)
    | some f =>
      let fs := e.fs.eraseIdx (D.find e.fs a)
      let fs := fs.eraseIdx (D.find fs b)
      (0, { e with fs := D.add fs { f with nm := b } })

theorem rename_eq (d : Dk) (a b : ByteArray) : D.rename d a b = if d.stopped then (32, d) else renameB d.tick a b := rfl

theorem bytesOf_erase {fs : List Fl} (hr : D.Rising fs) (s : ByteArray) : D.used (fs.eraseIdx (D.find fs s)) + (bytesOf fs s).length = D.used fs := by
  cases ht : D.isThere fs s with
  | false =>
    rw [D.erase_beyond ht]
    unfold bytesOf
    rw [find_none ht]; simp
  | true =>
    obtain ⟨f, hf, rfl⟩ := D.isThere_mem.1 ht
    have hl := D.find_lt ht
    have h1 := D.used_erase fs _ hl
    have h2 := get_find hr hf
    rw [List.getElem?_eq_getElem hl] at h2
    unfold bytesOf
    rw [find_some hr hf]
    simp only [Option.some.injEq] at h2
    rw [h2] at h1
    exact h1

theorem turned_facts {w w' : World} {gm : Nat} (h : w.mapTurned w' gm) : w'.heap.size = w.heap.size ∧ (∀ k, k ≠ gm → w'.heap[k]? = w.heap[k]?) ∧ Only (fun k => k = gm) w w' := by
  have hg := h.grown
  have hsz : w'.heap.size = w.heap.size := by
    obtain ⟨es, c, es', c', h1, h2⟩ := h
    rw [h2]; simp [Go.ChangeMaps.setBlock]
  have hk : ∀ k, k ≠ gm → w'.heap[k]? = w.heap[k]? := fun k hk => by
    rcases Nat.lt_or_ge k w.heap.size with h1 | h1
    · exact hg.block k h1 (by simpa using hk)
    · rw [Array.getElem?_eq_none (by omega), Array.getElem?_eq_none (by omega)]
  exact ⟨hsz, hk, hg.os, hg.tape, hg.output, by omega, fun k _ h1 => hk k h1⟩

/-- What Rename leaves. -/
theorem rename_done {W w3 w4 w5 : World} {X : Nat → Prop} {gd gm n n2 : Nat} {d : Dk} {M M' : DataW Nat} {E : ByteArray → Nat × Value} {f : Fl} {b : ByteArray} (h : PDAt W X gd d d.free gm M E) (hr : D.Rising d.fs) (hf : f ∈ d.fs)
    (_hm3 : w3.ownsMap Tryd.prog 9 ptrElem gm n (M.del (.string f.nm.data.toList))) (ho3 : ∀ k, k ≠ gm → w3.heap[k]? = W.heap[k]?)
    (ho4 : ∀ k, k ≠ gd → k ≠ gm → w4.heap[k]? = w3.heap[k]?)
    (h4 : PDAt w4 X gd { d with fs := (d.fs.eraseIdx (D.find d.fs f.nm)).eraseIdx (D.find (d.fs.eraseIdx (D.find d.fs f.nm)) b) } (d.free + ((bytesOf (d.fs.eraseIdx (D.find d.fs f.nm)) b).length : Int)) gm M' E)
    (hm5 : w5.ownsMap Tryd.prog 9 ptrElem gm n2 (M'.put (.string b.data.toList) (.held (E f.nm).1))) (ho5 : ∀ k, k ≠ gm → w5.heap[k]? = w4.heap[k]?) (hok : D.okName b = true) :
    PDsk w5 X gd (renameB d f.nm b).2 ∧ (renameB d f.nm b).1 = 0 := by
  obtain ⟨k1, k2, k3⟩ := h.kinds
  have ht : D.isThere d.fs f.nm = true := D.isThere_mem.2 ⟨f, hf, rfl⟩
  have hE : renameB d f.nm b = (0, { d with fs := D.add ((d.fs.eraseIdx (D.find d.fs f.nm)).eraseIdx (D.find (d.fs.eraseIdx (D.find d.fs f.nm)) b)) { f with nm := b } }) := by
    unfold renameB
    rw [if_neg (by rw [ht, hok]; simp), get_find hr hf]
  have hr1 := hr.erase (D.find d.fs f.nm)
  have hm1 : ∀ g, g ∈ (d.fs.eraseIdx (D.find d.fs f.nm)).eraseIdx (D.find (d.fs.eraseIdx (D.find d.fs f.nm)) b) ↔ (g ∈ d.fs ∧ g.nm ≠ f.nm) ∧ g.nm ≠ b := fun g => by rw [D.mem_erase hr1, D.mem_erase hr]
  have hfa := h.each f hf
  have hkeep : ∀ k, k ≠ gd → k ≠ gm → w5.heap[k]? = W.heap[k]? := fun k h1 h2 => (ho5 k h2).trans ((ho4 k h1 h2).trans (ho3 k h2))
  have hfa5 : FileAt w5 (E f.nm).1 (E f.nm).2 { f with nm := b } := hfa.same (hkeep _ (k2 f hf).1 (k2 f hf).2) fun k hk => hkeep k (k3 f hf k hk).1 (k3 f hf k hk).2.1
  rw [hE]
  refine ⟨⟨gm, M'.put (.string b.data.toList) (.held (E f.nm).1), fun t => if t = b then ((E f.nm).1, (E f.nm).2) else E t, ?_⟩, rfl⟩
  have hfree : ({ d with fs := D.add ((d.fs.eraseIdx (D.find d.fs f.nm)).eraseIdx (D.find (d.fs.eraseIdx (D.find d.fs f.nm)) b)) { f with nm := b } } : Dk).free = d.free + ((bytesOf (d.fs.eraseIdx (D.find d.fs f.nm)) b).length : Int) := by
    have h1 := bytesOf_erase hr1 b
    have h2 := bytesOf_erase hr f.nm
    have h3 : bytesOf d.fs f.nm = f.b := by unfold bytesOf; rw [find_some hr hf]
    rw [h3] at h2
    unfold D.Dk.free
    simp only
    rw [D.used_add]
    simp only
    omega
  rw [hfree]
  exact h4.added (x := { f with nm := b }) (Y := X) (D.isThere_not.2 fun g hg => ((hm1 g).1 hg).2) rfl (fun _ hk => hk) hm5 ((ho5 gd k1.symm).trans h4.box) hfa5 (h.foot.2.2 f hf)
    (fun g hg => by
      have := (hm1 g).1 hg
      exact h.apart f hf g this.1.1 fun e => this.1.2 e.symm) fun k _ _ hk => ho5 k hk

end Go.Proofs.YtikcdchmggdmdaaDoor.M

/- Part: ProjL. -/
namespace Go.Proofs.YtikcdchmggdmdaaDoor.M
open Go.RowKit Go.Maps
open D (Fl Dk)

def syncB (e : Dk) (names : List ByteArray) : Int × Dk :=
  if names.all (D.isThere e.fs) = false then (30, e) else (0, { e with fs := names.foldl (fun fs s => D.syncAt fs (D.find fs s)) e.fs })

theorem sync_eq (d : Dk) (names : List ByteArray) : D.sync d names = if d.stopped then (32, d) else syncB d.tick names := rfl

def syncF (fs : List Fl) (l : List ByteArray) : List Fl := l.foldl (fun fs s => D.syncAt fs (D.find fs s)) fs

theorem syncF_names (l : List ByteArray) : ∀ fs : List Fl, (syncF fs l).map (·.nm) = fs.map (·.nm) := by
  induction l with
  | nil => intro fs; rfl
  | cons s r ih => intro fs; exact (ih _).trans (D.names_modify _ _ _ fun _ => rfl)

theorem used_same {fs gs : List Fl} (h : fs.map (fun f => f.b.length) = gs.map (fun f => f.b.length)) : D.used fs = D.used gs := by unfold D.used; rw [h]

theorem syncF_used (l : List ByteArray) : ∀ fs : List Fl, D.used (syncF fs l) = D.used fs := by
  induction l with
  | nil => intro fs; rfl
  | cons s r ih =>
    intro fs
    refine (ih _).trans (used_same ?_)
    unfold D.syncAt
    apply List.ext_getElem?
    intro j
    rw [List.getElem?_map, List.getElem?_map, List.getElem?_modify]
    cases fs[j]? with
    | none => rfl
    | some f => by_cases hj : D.find fs s = j <;> simp [hj]

theorem isThere_of_names {fs gs : List Fl} (h : fs.map (·.nm) = gs.map (·.nm)) (s : ByteArray) : D.isThere fs s = D.isThere gs s := by
  have hm : ∀ (a b : List Fl), a.map (·.nm) = b.map (·.nm) → D.isThere a s = true → D.isThere b s = true := fun a b e hh => by
    obtain ⟨f, hf, hft⟩ := D.isThere_mem.1 hh
    have : s ∈ b.map (·.nm) := by rw [← e]; exact List.mem_map.2 ⟨f, hf, hft⟩
    obtain ⟨g, hg, hgt⟩ := List.mem_map.1 this
    exact D.isThere_mem.2 ⟨g, hg, hgt⟩
  rw [Bool.eq_iff_iff]
  exact ⟨hm _ _ h, hm _ _ h.symm⟩

/-- The state at the head of the loop. -/
def PSyncAt (w1 : World) (X : Nat → Prop) (gd gm : Nat) (d : Dk) (fr : Int) (M : DataW Nat) (names : List ByteArray) (k : Nat) (wr : World) : Prop :=
  Only X w1 wr ∧ wr.heap.size = w1.heap.size ∧ ∃ E, PDAt wr X gd { d with fs := syncF d.fs (names.take k) } fr gm M E

set_option maxRecDepth 20000 in
set_option maxHeartbeats 3200000 in
theorem SyncC_any (d : Dk) (X : Nat → Prop) (gd bd bn : Nat) (names : List ByteArray) (F : Nat → Prop) (vn : Value) (w : World) (hd : PDskIn w X gd d) (hg : Good d) (hs : ∀ s ∈ names, s.size ≤ 9223372036854775807)
    (hv : RepSl w F names vn) (hF : ∀ k, F k → k < w.heap.size ∧ ¬ X k)
    (c1 : w.cell? ⟨bd, 0, none⟩ = some (.pointer (some ⟨gd, 0, none⟩))) (c2 : w.cell? ⟨bn, 0, none⟩ = some vn) (hbx : (bd < w.heap.size ∧ ¬ X bd) ∧ (bn < w.heap.size ∧ ¬ X bn)) :
    Calls Tryd.prog 44 #[.pointer (some ⟨bd, 0, none⟩), .pointer (some ⟨bn, 0, none⟩)] w (PPost w X gd (syncB d names)) := by
  obtain ⟨na, nc, rfl, hnl⟩ := hv.slice
  have HV := Lib.hid hv
  have HF := Lib.hid hF
  have HX := Lib.hid hd.2
  have HD := Lib.hid hd.1
  have HG := Lib.hid hg
  have HS := Lib.hid hs
  have HBX := Lib.hid hbx
  have HC1 := Lib.hid c1
  obtain ⟨⟨b1, -⟩, b2, -⟩ := hbx
  clear hv hF hd hg hs
  go_enter Tryd.func44, Tryd.ntmps44
  go_wp2_with fail
  refine (Has_any d X gd names F _ w HD.out HV.out (fun k hk => (HF.out k hk).1) HS.out).mono ?_
  rintro e w1 ⟨rfl, rfl⟩
  cases hall : names.all (D.isThere d.fs) with
  | false =>
    have HE : Hid (syncB d names = (30, d)) := Lib.hid (by unfold syncB; rw [if_pos hall])
    clear hall
    go_wp2_with fail
    go_ret
    rw [HE.out]
    exact PPost.of (Only.refl _ _) rfl (Only.refl _ _) HD.out.up
  | true =>
    have HALL := Lib.hid hall
    have HE : Hid (syncB d names = (0, { d with fs := syncF d.fs names })) := Lib.hid (by unfold syncB; rw [if_neg (by rw [hall]; simp)]; rfl)
    obtain ⟨gm, M, E, hat⟩ := HD.out
    have H0 : Hid (PSyncAt w X gd gm d d.free M names 0 w) := Lib.hid ⟨Only.refl _ _, rfl, E, hat⟩
    clear hall hat
    go_wp2_with fail
    go_loopw [4, 11] (fun _ i wr => ∃ k : Nat, k ≤ names.length ∧ i = .int .i64 (k : Int) ∧ PSyncAt w X gd gm d d.free M names k wr) (fun _ i _ => names.length - (intOf i).toNat)
    case atStart => exact ⟨0, Nat.zero_le _, rfl, H0.out⟩
    case round =>
      obtain ⟨k, hk, rfl, ho, hz, E, hat⟩ := hrel
      by_cases hlt : k < names.length
      · have hkk : (k : Int) < (names.length : Int) := by omega
        have hv2 : RepSl wr F names (.slice na names.length nc) := HV.out.same (fun _ h => h) fun j hj => ho.block j (HF.out j hj).1 (HF.out j hj).2
        obtain ⟨b, off, rfl, hFb, hc⟩ := hv2.elem k hlt
        have hbz : b < wr.heap.size := by rw [hz]; exact (HF.out b hFb).1
        obtain ⟨s, hse⟩ : ∃ s, s = names[k] := ⟨_, rfl⟩
        rw [← hse] at hc
        have hmem : s ∈ names := by rw [hse]; exact List.getElem_mem hlt
        have hl := hat.look (HS.out s hmem) (w' := wr) rfl
        obtain ⟨⟨-, -, d2⟩, -, hgz⟩ := hat.cells
        have hr2 : D.Rising (syncF d.fs (names.take k)) := HG.out.2.1.of_names (syncF_names _ _)
        have ht : D.isThere (syncF d.fs (names.take k)) s = true := by
          rw [isThere_of_names (syncF_names _ _)]
          exact List.all_eq_true.1 HALL.out s hmem
        obtain ⟨f, hf, hfs⟩ := D.isThere_mem.1 ht
        have hp : ptrOf { d with fs := syncF d.fs (names.take k) } E s = .pointer (some ⟨(E s).1, 0, none⟩) := by
          unfold ptrOf
          simp only [ht, if_true]
        rw [hp] at hl
        have hfa := hat.each f hf
        rw [hfs] at hfa
        have HNEXT : Hid (∀ w2, FileAt w2 (E s).1 (E s).2 { f with safe := f.b.length } → Only (fun j => j = (E s).1) wr w2 → w2.heap.size = wr.heap.size → PSyncAt w X gd gm d d.free M names (k + 1) w2) := Lib.hid fun w2 h1 h2 h3 => by
          have hx : ∀ j, X j → j < wr.heap.size := fun j hj => by rw [hz]; exact HX.out j hj
          obtain ⟨q1, E', q2⟩ := file_done (f := f) hat hx hr2 hf (fun g => { g with safe := g.b.length }) (fun _ => rfl) (v' := (E s).2) (by rw [hfs]; exact h1) (by rw [hfs]) (by rw [hfs]; exact h2)
          refine ⟨ho.then q1, by omega, E', ?_⟩
          have e : syncF d.fs (names.take (k + 1)) = (syncF d.fs (names.take k)).modify (D.find (syncF d.fs (names.take k)) f.nm) fun g => { g with safe := g.b.length } := by
            rw [List.take_succ_eq_append_getElem hlt, ← hse, hfs]
            unfold syncF
            rw [List.foldl_append]
            rfl
          rw [e]
          exact q2
        have HFA := Lib.hid hfa
        obtain ⟨g, hgb⟩ : ∃ g, g = (E s).1 := ⟨_, rfl⟩
        rw [← hgb] at hl HFA HNEXT
        have c1 : wr.cell? ⟨bd, 0, none⟩ = some (.pointer (some ⟨gd, 0, none⟩)) := (cell_only ho HBX.out.1.1 HBX.out.1.2 0).trans HC1.out
        have b1 : bd < wr.heap.size := Nat.lt_of_lt_of_le HBX.out.1.1 ho.size
        clear hat hf hfs hr2 ht hp hfa hgb hmem hse hv2 ho hz
        go_wp2_with fail
        refine (FSync_any g _ f _ HFA.out).mono ?_
        rintro e w2 ⟨rfl, h2, h3, h1⟩
        have HN := Lib.hid (HNEXT.out w2 h1 h2 h3)
        clear h1 h2 h3
        go_wp2_with fail
        go_roundw
        case rel => exact ⟨k + 1, by omega, by go_num, HN.out⟩
        case measure => simp [intOf]; omega
      · have hkk : ¬ (k : Int) < (names.length : Int) := by omega
        obtain rfl : k = names.length := by omega
        have HP : Hid (PPost w X gd (syncB d names) (.returned (.int .i64 0)) wr) := Lib.hid (by
          rw [HE.out]
          refine PPost.of (Only.refl _ _) rfl ho ⟨gm, M, E, ?_⟩
          rw [List.take_length] at hat
          have e : ({ d with fs := syncF d.fs names } : Dk).free = d.free := by
            unfold D.Dk.free
            simp only
            rw [syncF_used]
          rw [e]
          exact hat.same (fun _ h => .inl h) fun _ _ => rfl)
        clear hat ho hz
        go_wp2_with fail
        go_ret
        exact HP.out

set_option maxRecDepth 20000 in
set_option maxHeartbeats 1600000 in
theorem PSync_any (d : Dk) (X : Nat → Prop) (gd : Nat) (names : List ByteArray) (F : Nat → Prop) (vn : Value) (w : World) (hd : PDskIn w X gd d) (hg : Good d) (hs : ∀ s ∈ names, s.size ≤ 9223372036854775807)
    (hv : RepSl w F names vn) (hF : ∀ k, F k → k < w.heap.size ∧ ¬ X k) :
    Calls Tryd.prog 27 #[.pointer (some ⟨gd, 0, none⟩), vn] w (PPost w X gd (D.sync d names)) := by
  obtain ⟨na, nc, rfl, hnl⟩ := hv.slice
  have HV := Lib.hid hv
  have HF := Lib.hid hF
  have HD := Lib.hid hd
  have HG := Lib.hid hg
  have HS := Lib.hid hs
  clear hv hF hd hg hs
  obtain ⟨W, hW⟩ : ∃ W, W = (w.alloc (.cells #[.pointer (some ⟨gd, 0, none⟩)] 30)).alloc (.cells #[.slice na names.length nc] 59) := ⟨_, rfl⟩
  have HO : Hid (Only X w W) := Lib.hid (by rw [hW]; exact ((Only.refl X w).alloc _).alloc _)
  have HB : Hid (Below w.heap.size w W) := Lib.hid (by rw [hW]; exact ((Below.refl _ w).alloc (by omega) _).alloc (by simp) _)
  have HSZ : Hid (W.heap.size = w.heap.size + 2) := Lib.hid (by rw [hW]; simp)
  have HC : Hid (W.cell? ⟨w.heap.size, 0, none⟩ = some (.pointer (some ⟨gd, 0, none⟩)) ∧ W.cell? ⟨w.heap.size + 1, 0, none⟩ = some (.slice na names.length nc)) := Lib.hid (by
    rw [hW]
    exact ⟨cell_past _ (cell_new1 _ _ _ rfl) (by simp), cell_new1 _ _ _ (by simp)⟩)
  have hwk := Work_any 44 #[.pointer (some ⟨w.heap.size, 0, none⟩), .pointer (some ⟨w.heap.size + 1, 0, none⟩)] en49 d X gd (syncB d.tick names) W
    (HD.out.1.same (fun _ h => h) fun k hk => HB.out.block k (HD.out.2 k hk)) HG.out.1.2.1 (fun w1 ho hz hd1 hst => by
      have hnx : ∀ k, w.heap.size ≤ k → ¬ X k := fun k hk hx => by have := HD.out.2 k hx; omega
      have hsz := HSZ.out
      exact SyncC_any d.tick X gd _ _ names F _ w1 ⟨hd1, fun k hk => by have := HD.out.2 k hk; omega⟩ HG.out.tick HS.out
        (HV.out.same (fun _ h => h) fun k hk => (ho.block k (by have := (HF.out k hk).1; omega) (HF.out k hk).2).trans (HB.out.block k (HF.out k hk).1)) (fun k hk => ⟨by have := (HF.out k hk).1; omega, (HF.out k hk).2⟩)
        ((cell_only ho (by omega) (hnx _ (by omega)) 0).trans HC.out.1) ((cell_only ho (by omega) (hnx _ (by omega)) 0).trans HC.out.2)
        ⟨⟨by omega, hnx _ (by omega)⟩, by omega, hnx _ (by omega)⟩)
  rw [← sync_eq] at hwk
  have HWK := Lib.hid hwk
  have HWE := Lib.hid hW
  clear hwk hW
  go_enter Tryd.func27, Tryd.ntmps27
  go_wp2_with fail
  rw [← HWE.out]
  refine HWK.out.mono ?_
  intro e w' hp
  have HP := Lib.hid (hp.wrap HO.out)
  obtain ⟨rfl, -, -⟩ := hp
  go_wp2_with fail
  go_ret
  exact HP.out
end Go.Proofs.YtikcdchmggdmdaaDoor.M

/- Part: ProjH. -/
namespace Go.Proofs.YtikcdchmggdmdaaDoor.M
open Go.RowKit Go.Maps
open D (Fl Dk)

theorem zeroInt (w : World) : (zeroValue 3).run Tryd.prog w = .ok (.int .i64 0) w := by kernel_rfl

theorem nodup_snoc {l : List ByteArray} {s : ByteArray} : (l ++ [s]).Nodup ↔ l.Nodup ∧ s ∉ l := by
  rw [List.nodup_append]
  simp only [List.nodup_cons, List.not_mem_nil, not_false_eq_true, List.nodup_nil, and_self, true_and, List.mem_singleton]
  constructor
  · rintro ⟨h1, h2⟩
    exact ⟨h1, fun h => h2 s h s rfl rfl⟩
  · rintro ⟨h1, h2⟩
    refine ⟨h1, fun a ha b hb e => ?_⟩
    subst hb
    exact h2 (e ▸ ha)

/-- Is one named twice? -/
def dupB (l : List ByteArray) : Bool := decide (¬ l.Nodup)

/-- The map of what was seen. -/
def SeenAt (w : World) (B : Nat) (l : List ByteArray) (wr : World) : Prop :=
  Below w.heap.size w wr ∧ ∃ M : DataW Nat, wr.ownsMap Tryd.prog 9 (plainElem Tryd.prog 3) B l.length M ∧ (∀ s : ByteArray, Maps.has M (.string s.data.toList) = true ↔ s ∈ l) ∧ (Maps.size M = l.length ↔ l.Nodup) ∧ Maps.size M ≤ l.length

set_option maxRecDepth 20000 in
set_option maxHeartbeats 1600000 in
theorem Twice_any (names : List ByteArray) (F : Nat → Prop) (vn : Value) (w : World) (hv : RepSl w F names vn) (hF : ∀ k, F k → k < w.heap.size) (hs : ∀ s ∈ names, s.size ≤ 9223372036854775807) :
    Calls Tryd.prog 37 #[vn] w fun e w' => e = .returned (.bool (dupB names)) ∧ Below w.heap.size w w' := by
  have hmm := @run_makeMap Tryd.prog
  obtain ⟨na, nc, rfl, hnl⟩ := hv.slice
  have HV := Lib.hid hv
  have HF := Lib.hid hF
  have HS := Lib.hid hs
  clear hv hF hs
  go_enter Tryd.func37, Tryd.ntmps37
  go_wp2_with fail
  go_loopw [5, 9] (fun _ i wr => ∃ k : Nat, k ≤ names.length ∧ i = .int .i64 (k : Int) ∧ Hid (SeenAt w w.heap.size (names.take k) wr)) (fun _ i _ => names.length - (intOf i).toNat)
  case atStart =>
    refine ⟨0, Nat.zero_le _, rfl, Lib.hid ⟨(Below.refl _ _).alloc (Nat.le_refl _) _, .map [], World.ownsMap_made _ _ _ _, fun s => by simp [has_eq], by simp [Maps.size], by simp [Maps.size]⟩⟩
  case round =>
    obtain ⟨k, hk, rfl, HA⟩ := hrel
    by_cases hlt : k < names.length
    · have hkk : (k : Int) < (names.length : Int) := by omega
      obtain ⟨hbel, M, hown, hhas, hnd, hsz⟩ := HA.out
      have hv2 : RepSl wr F names (.slice na names.length nc) := HV.out.same (fun _ h => h) fun j hj => hbel.block j (HF.out j hj)
      obtain ⟨b, off, rfl, hFb, hc⟩ := hv2.elem k hlt
      have hbz : b < wr.heap.size := Nat.lt_of_lt_of_le (HF.out b hFb) hbel.size
      obtain ⟨s, hs⟩ : ∃ s, s = names[k] := ⟨_, rfl⟩
      rw [← hs] at hc
      have hss : s.size ≤ 9223372036854775807 := HS.out s (by rw [hs]; exact List.getElem_mem hlt)
      have hkey := key_of hss
      have HKEY := Lib.hid hkey
      have HOWN := Lib.hid hown
      have hlk : (names.take k).length = k := by simp; omega
      have HNEW : Hid (∀ (d' : DataW Nat) (w2 : World), w2.ownsMap Tryd.prog 9 (plainElem Tryd.prog 3) w.heap.size ((names.take k).length + 1) (M.put (.string s.data.toList) d') → wr.grownBy w2 (some w.heap.size) → SeenAt w w.heap.size (names.take (k + 1)) w2) := Lib.hid fun d' w2 ho hg => by
        have ht : names.take (k + 1) = names.take k ++ [s] := by rw [hs]; exact List.take_succ_eq_append_getElem hlt
        have htid := hown.tidy law9
        refine ⟨hbel.grown hg hbel.size (fun j hj => by cases hj; exact Nat.le_refl _), _, by rw [ht, List.length_append]; exact ho, fun t => ?_, ?_, ?_⟩
        · by_cases e : t = s
          · subst e
            rw [has_put_same htid.isMap (show WideAt.IsKeyLit (.string t.data.toList) from trivial), ht]
            simp
          · rw [has_put_other (key_ne e), hhas, ht]
            simp [e]
        · rw [size_put htid, ht, nodup_snoc, List.length_append, ← hnd, hlk]
          by_cases e : s ∈ names.take k
          · rw [if_pos ((hhas s).2 e)]
            simp only [e, not_true_eq_false, and_false, iff_false, List.length_cons, List.length_nil]
            omega
          · rw [if_neg fun h => e ((hhas s).1 h)]
            simp only [e, not_false_eq_true, and_true, List.length_cons, List.length_nil]
            omega
        · rw [size_put htid, ht, List.length_append]
          split <;> simp <;> omega
      have HM : Hid (names.length ≤ 9223372036854775807) := Lib.hid hnl
      have hb : (names.take k).length < maxLen := by unfold maxLen; omega
      clear hbel hown hhas hnd hsz hs hss hv2 hlk HA
      go_wp2_with (first
        | (at_lookup; refine wpList_lookup_own_int _ rfl _ _ 107 rfl 9 3 .i64 law9 Tryd.underlying107 Tryd.underlying3 (zeroInt _) w.heap.size _ _ rfl HOWN.out _ _ rfl HKEY.out ?_; intro c hat hwc)
        | (at_mapUpdate; refine wpList_mapUpdate_own _ rfl _ _ _ 107 rfl 9 3 law9 Tryd.underlying107 _ w.heap.size _ _ rfl HOWN.out hb _ _ _ rfl rfl HKEY.out _ [] (plainElem_int Tryd.underlying3 (wrap64_wf _)) ?_; intro w1 hown1 hgrow1)
        | go_in)
      have HN := Lib.hid (HNEW.out _ w1 hown1 hgrow1)
      clear hown1 hgrow1
      go_roundw
      case rel => exact ⟨k + 1, by omega, by go_num, HN⟩
      case measure => simp [intOf]; omega
    · have hkk : ¬ (k : Int) < (names.length : Int) := by omega
      obtain rfl : k = names.length := by omega
      obtain ⟨hbel, M, hown, hhas, hnd, hsz⟩ := HA.out
      rw [List.take_length] at hnd hsz
      have hlen := fun ty => hown.len Tryd.underlying107 ty
      obtain ⟨m, hm⟩ : ∃ m, m = Maps.size M := ⟨_, rfl⟩
      rw [← hm] at hlen hnd hsz
      have HB := Lib.hid hbel
      have HN : Hid (decide (m < names.length) = dupB names) := Lib.hid (by
        unfold dupB
        apply decide_eq_decide.2
        rw [← hnd]
        omega)
      clear hown hhas hnd hsz hm hbel
      go_wp2_with fail
      go_ret
      exact ⟨by rw [← HN.out]; rfl, HB.out⟩
end Go.Proofs.YtikcdchmggdmdaaDoor.M
