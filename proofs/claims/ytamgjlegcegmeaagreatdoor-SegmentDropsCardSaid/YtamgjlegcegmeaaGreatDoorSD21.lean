/- The program's disk: Names; is one named twice? -/
import Derived.Test.YtamgjlegcegmeaaGreatDoorSD18
import Derived.Test.YtamgjlegcegmeaaGreatDoorSortLaid
import Derived.Sort.OwnSorted
import Derived.Sort.KeysCollected
import Derived.Deep.LoopGhost
namespace Go.Proofs.YtamgjlegcegmeaaGreatDoor.M
open Go.RowKit Go.Maps Go.Sort
open D (Fl Dk)

/-- A file's name, as the bytes that a map's key reads as. -/
def nmOf (f : Fl) : List UInt8 := f.nm.data.toList

theorem encStr_nm (f : Fl) : encStr (nmOf f) = .string f.nm := by
  unfold nmOf
  simp

theorem bytes_back (x : List UInt8) : (⟨x.toArray⟩ : ByteArray).data.toList = x := by simp

theorem nm_is {f : Fl} {x : List UInt8} : nmOf f = x ↔ f.nm = ⟨x.toArray⟩ := by
  constructor
  · intro h
    apply D.nm_ext
    rw [D.toList_data, D.toList_data, bytes_back]; exact h
  · intro h
    unfold nmOf
    rw [h, bytes_back]

theorem rising_keys {fs : List Fl} (hr : D.Rising fs) : (fs.map nmOf).Pairwise fun a b => a < b := by
  refine List.pairwise_map.2 (List.Pairwise.imp (R := fun a b : Fl => a.nm.toList < b.nm.toList) (fun {a b} h => ?_) hr)
  rw [D.toList_data, D.toList_data] at h
  exact h

/-- What was collected of the map's keys, sorted, are the files' names. -/
theorem sorted_names {w : World} {X : Nat → Prop} {gd gm : Nat} {d : Dk} {fr : Int} {M : DataW Nat} {E : ByteArray → Nat × Value} (h : PDAt w X gd d fr gm M E) (hr : D.Rising d.fs) {ss : List (List UInt8)} (hp : ss.Perm (strKeys M)) :
    ss.mergeSort (fun x y => decide (x ≤ y)) = d.fs.map nmOf := by
  obtain ⟨es, hM, hpw⟩ := h.isMap
  obtain ⟨es', hM', hko⟩ := h.map.keysOf
  obtain rfl : es = es' := by rw [hM] at hM'; simpa using hM'
  have hk := rising_keys hr
  have hp2 : (d.fs.map nmOf).Perm (strKeys M) := by
    rw [hM]
    refine perm_strKeys hpw (fun p hp => by obtain ⟨v, hv⟩ := hko p hp; obtain ⟨x, _, hx, _⟩ := Maps.keyOf_str Tryz.underlying9 hv; exact ⟨x, hx⟩) (List.Pairwise.imp (R := fun a b : List UInt8 => a < b) (S := fun a b => a ≠ b) (fun {a b} hab e => List.lt_irrefl _ (by rw [e] at hab; exact hab)) hk) fun x => ?_
    rw [← hM]
    have hh := h.has ⟨x.toArray⟩
    rw [bytes_back] at hh
    rw [hh, D.isThere_mem, List.mem_map]
    constructor
    · rintro ⟨f, hf, e⟩; exact ⟨f, hf, nm_is.1 e⟩
    · rintro ⟨f, hf, e⟩; exact ⟨f, hf, nm_is.2 e⟩
  rw [show ss.mergeSort (fun x y => decide (x ≤ y)) = (d.fs.map nmOf).mergeSort leB from mergeSort_of_perm (hp.trans hp2.symm)]
  exact List.mergeSort_of_pairwise (hk.imp fun {a b} hab => by simpa using List.le_of_lt hab)

/-- How a pointer looks. -/
def mkPtr (o : Option Nat) : Value := .pointer (o.map fun b => ⟨b, 0, none⟩)

theorem ptr_shape (v : Value) (y : DataW Nat × List MemPlace) (h : ptrElem v = some y) : ∃ c, v = mkPtr c := by
  rcases ptrElem_inv h with ⟨rfl, _⟩ | ⟨b, rfl, _⟩
  · exact ⟨none, rfl⟩
  · exact ⟨some b, rfl⟩

theorem infoStr : (Tryz.prog.info? 9).map (fun i => (i.zero, i.size, i.bytes)) = some (some (.string ⟨#[]⟩), 1, 16) := by kernel_rfl

set_option maxRecDepth 20000 in
set_option maxHeartbeats 1600000 in
theorem Names_any (d : Dk) (X : Nat → Prop) (gd : Nat) (w : World) (hd : PDskIn w X gd d) (hr : D.Rising d.fs) (hn : d.fs.length ≤ 1099511627776) :
    Calls Tryz.prog 13 #[.pointer (some ⟨gd, 0, none⟩)] w fun e w' => ∃ v, e = .returned v ∧ Below w.heap.size w w' ∧ w'.ownsRow w.heap.size 9 1 v d.fs.length (d.fs.map fun f => .string f.nm) := by
  obtain ⟨i0, hi, hz0, hz1, hz2⟩ := info_parts infoStr
  obtain ⟨⟨gm, M, E, hat⟩, hX⟩ := hd
  obtain ⟨⟨-, -, c2⟩, -, hz⟩ := hat.cells
  have hgm := hX gm hat.foot.2.1
  have hown := hat.map
  have hsz := hat.size
  have HSORT := Lib.hid (fun (ss : List (List UInt8)) (hp : ss.Perm (strKeys M)) => sorted_names hat hr hp)
  have HSZ := Lib.hid hsz
  have HN := Lib.hid hn
  clear hat hr hX hn hsz
  go_enter Tryz.func13, Tryz.ntmps13
  go_wp2_with (first
    | (at_range; refine wpList_range_own _ rfl _ 53 rfl 9 79 law9 Tryz.underlying53 ptrElem gm _ M rfl hown ?_; intro w0 hrg0 hg0 hs0)
    | go_in)
  go_frame
  go_loopw [3, 4] (fun v _ wr => ∃ (left : Lit → Bool) (cnt : Nat) (ss : List (List UInt8)), wr.ranges Tryz.prog 9 ptrElem gm w.heap.size d.fs.length M left cnt ∧ ss.length + cnt ≤ Maps.size M ∧
      wr.ownsRow w.heap.size 9 1 v ss.length (ss.map encStr) ∧ Collected M left ss ∧ Below w.heap.size w wr)
    (fun _ _ wr => wr.rangeLeft gm w.heap.size)
  case atStart =>
    exact ⟨_, _, [], hrg0, by simp, World.ownsRow_nil _ _ _ _, Collected.start M, (Below.refl _ _).grown hg0 (Nat.le_refl _) (fun j hj => by cases hj)⟩
  case round =>
    obtain ⟨left, cnt, ss, hrg, hcs, hrow, hC, hnx⟩ := hrel
    go_wp2_with (first
      | (at_next; refine wpList_next_ranges _ rfl _ rfl 9 law9 ptrElem encStr mkPtr (fun key kl hk => by obtain ⟨x, hx, _⟩ := Maps.keyOf_str Tryz.underlying9 hk; exact ⟨x, hx⟩) ptr_shape gm w.heap.size d.fs.length _ _ _ rfl hrg ?_ ?_)
      | go_in)
    · intro hc0 hl0
      have HP := Lib.hid (HSORT.out ss (hC.perm hown law9 Tryz.underlying9 hl0))
      have HNX := Lib.hid hnx
      rcases hrow.2 with ⟨hnil, hlen⟩ | ⟨g, cap, cur, rfl, hbase, hb, h1, h2, h3, h4⟩
      · subst hnil
        have hss : ss = [] := List.length_eq_zero_iff.1 hlen
        subst hss
        have HROW := Lib.hid hrow
        clear hrow hnx hC hl0 hcs hlen
        go_wp2_with (go_at_call 37; refine (Any.slices_Sort_string_none Tryz.laysSort none 0 _).mono ?_; rintro e w' ⟨rfl, rfl⟩)
        go_ret
        have hp := HP.out
        simp at hp
        have hfs : d.fs = [] := by simpa using hp.symm
        exact ⟨_, rfl, HNX.out, by rw [hfs]; exact World.ownsRow_nil _ _ _ _⟩
      · have hH : Holds encStr wr g 0 ss.toArray := holds_of_block hb (by simpa using h4)
        have hgl : g < wr.heap.size := (Array.getElem?_eq_some_iff.1 hb).1
        have hc := Any.slices_Sort_string Tryz.laysSort g 0 cap ss wr hH hgl (by have := HN.out; have := HSZ.out; omega)
        have HD : Hid (∀ (nn : Nat) (os : Array Obj), Below w.heap.size w (grow (putRow encStr (Sort.ahead wr nn) g 0 (ss.mergeSort fun x y => decide (x ≤ y)).toArray) os) ∧ (grow (putRow encStr (Sort.ahead wr nn) g 0 (ss.mergeSort fun x y => decide (x ≤ y)).toArray) os).ownsRow w.heap.size 9 1 (.slice (some ⟨g, 0, none⟩) ss.length cap) d.fs.length (d.fs.map fun f => .string f.nm)) := Lib.hid fun nn os => by
          have hrs := ownsRow_sorted (n := nn) (os := os) (ss := ss) (ts := ss.mergeSort fun x y => decide (x ≤ y)) (by simp) hbase hb h1 h2 h3
          refine ⟨hnx.grown (grownBy_sorted _) hnx.size (fun j hj => by cases hj; exact hbase), ?_⟩
          have hl : d.fs.length = ss.length := by
            have h5 := congrArg List.length HP.out
            simpa using h5.symm
          rw [hl]
          have he : (ss.mergeSort fun x y => decide (x ≤ y)).map encStr = d.fs.map fun f => .string f.nm := by
            rw [HP.out, List.map_map]
            apply List.map_congr_left
            intro f _
            exact encStr_nm f
          rw [he] at hrs
          exact hrs
        clear hrow hnx hC hl0 hcs hb h1 h2 h3 h4 hH hgl hbase
        go_wp2_with (go_at_call 37; refine hc.mono ?_; rintro e w' ⟨rfl, nn, os, rfl⟩)
        go_ret
        obtain ⟨q1, q2⟩ := HD.out nn os
        exact ⟨_, rfl, q1, q2⟩
    · intro x c kl yd yp w2 cnt2 hkey hlk hv hat hrg2 hlt hg2 hs2 hen
      obtain ⟨x', ex, rfl, _⟩ := Maps.keyOf_str Tryz.underlying9 hkey
      obtain rfl : x = x' := encStr_inj ex
      have hrow2 := hrow.kept hg2 (Or.inr (row_ne_iter hrow hrg).symm)
      clear hs2
      have hnn := HN.out
      have hzz := HSZ.out
      go_wp2_with (first
        | (at_builtin; refine wpList_append_own _ rfl _ _ 43 rfl w.heap.size 9 i0 (.string ⟨#[]⟩) 1 16 Tryz.underlying43 hi hz0 hz1 hz2 rfl (by decide) _ _ _ rfl (hrow2.alloc _) ⟨w2.heap.size, 0, none⟩ 1 1 [encStr x] rfl rfl (cell_one_new _ _ _) (by simp [Value.oneCell', encStr]) (by unfold maxLen at *; omega) (by omega) (by have := hnx.size; have := hg2.size; simp; omega) ?_; intro v' w3 hown' hg3 hnil3; go_frame)
        | go_in)
      have hrg3 := (hrg2.alloc _).kept hg3 (row_ne_low hrow2 hgm) (row_ne_iter hrow2 hrg2)
      go_roundw
      case rel =>
        refine ⟨_, cnt2, ss ++ [x], hrg3, by simp; omega, by simpa using hown', hC.step hlk hat, ?_⟩
        exact ((hnx.grown hg2 hnx.size (fun j hj => by cases hj; exact Nat.le_refl _)).alloc (by have := hnx.size; have := hg2.size; omega) _).grown hg3 (by have := hnx.size; have := hg2.size; simp; omega) (fun j hj => (hrow2.lt j hj).1)
      case measure => rw [hrg3.left_eq, hrg.left_eq]; exact hlt
end Go.Proofs.YtamgjlegcegmeaaGreatDoor.M
