/- The program's disk: Names; is one named twice? The document's disk: Name, Free, find, Stopped, Stop. The document's disk: find, Stopped, Stop. The document's disk: Stop, take. The document's disk: take. The document's disk: add. The document's disk: Rename. The program's disk: a call that is stopped, or done. The program's disk: what Append leaves. -/
import Derived.Test.YtgakcaobalfpjaaGreatDoorHS4
import Derived.Test.YtgakcaobalfpjaaGreatDoorSortLaid
import Derived.Sort.OwnSorted
import Derived.Sort.KeysCollected
import Derived.Deep.LoopGhost
import Derived.Test.YtgakcaobalfpjaaGreatDoorHS3
import Derived.IntWalk
import Derived.WalkLawsBesides
import Derived.Outline
import Derived.Deep.QuietTactic
import Derived.BigQuiet
/- Part: ProjF. -/
namespace Go.Proofs.YtgakcaobalfpjaaGreatDoor.M
open Go.RowKit Go.Maps Go.Sort
open D (Fl Dk)

/-- A file's name, as the bytes that a map's key reads as. -/
def nmOf (f : Fl) : List UInt8 := f.nm.data.toList

theorem encStr_nm (f : Fl) : encStr (nmOf f) = .string f.nm := by
  unfold nmOf
  simp

theorem bytes_back (x : List UInt8) : (⟨x.toArray⟩ : ByteArray).data.toList = x := by simp

theorem nm_is {f : Fl} {x : List UInt8} : nmOf f = x ↔ f.nm = ⟨x.toArray⟩ := by
  constructor
  · intro h
    apply D.nm_ext
    rw [D.toList_data, D.toList_data, bytes_back]; exact h
  · intro h
    unfold nmOf
    rw [h, bytes_back]

theorem rising_keys {fs : List Fl} (hr : D.Rising fs) : (fs.map nmOf).Pairwise fun a b => a < b := by
  refine List.pairwise_map.2 (List.Pairwise.imp (R := fun a b : Fl => a.nm.toList < b.nm.toList) (fun {a b} h => ?_) hr)
  rw [D.toList_data, D.toList_data] at h
  exact h

/-- What was collected of the map's keys, sorted, are the files' names. -/
theorem sorted_names {w : World} {X : Nat → Prop} {gd gm : Nat} {d : Dk} {fr : Int} {M : DataW Nat} {E : ByteArray → Nat × Value} (h : PDAt w X gd d fr gm M E) (hr : D.Rising d.fs) {ss : List (List UInt8)} (hp : ss.Perm (strKeys M)) :
    ss.mergeSort (fun x y => decide (x ≤ y)) = d.fs.map nmOf := by
  obtain ⟨es, hM, hpw⟩ := h.isMap
  obtain ⟨es', hM', hko⟩ := h.map.keysOf
  obtain rfl : es = es' := by rw [hM] at hM'; simpa using hM'
  have hk := rising_keys hr
  have hp2 : (d.fs.map nmOf).Perm (strKeys M) := by
    rw [hM]
    refine perm_strKeys hpw (fun p hp => by obtain ⟨v, hv⟩ := hko p hp; obtain ⟨x, _, hx, _⟩ := Maps.keyOf_str Tryz.underlying9 hv; exact ⟨x, hx⟩) (List.Pairwise.imp (R := fun a b : List UInt8 => a < b) (S := fun a b => a ≠ b) (fun {a b} hab e => List.lt_irrefl _ (by rw [e] at hab; exact hab)) hk) fun x => ?_
    rw [← hM]
    have hh := h.has ⟨x.toArray⟩
    rw [bytes_back] at hh
    rw [hh, D.isThere_mem, List.mem_map]
    constructor
    · rintro ⟨f, hf, e⟩; exact ⟨f, hf, nm_is.1 e⟩
    · rintro ⟨f, hf, e⟩; exact ⟨f, hf, nm_is.2 e⟩
  rw [show ss.mergeSort (fun x y => decide (x ≤ y)) = (d.fs.map nmOf).mergeSort leB from mergeSort_of_perm (hp.trans hp2.symm)]
  exact List.mergeSort_of_pairwise (hk.imp fun {a b} hab => by simpa using List.le_of_lt hab)

/-- How a pointer looks. -/
def mkPtr (o : Option Nat) : Value := .pointer (o.map fun b => ⟨b, 0, none⟩)

theorem ptr_shape (v : Value) (y : DataW Nat × List MemPlace) (h : ptrElem v = some y) : ∃ c, v = mkPtr c := by
  rcases ptrElem_inv h with ⟨rfl, _⟩ | ⟨b, rfl, _⟩
  · exact ⟨none, rfl⟩
  · exact ⟨some b, rfl⟩

theorem infoStr : (Tryz.prog.info? 9).map (fun i => (i.zero, i.size, i.bytes)) = some (some (.string ⟨#[]⟩), 1, 16) := by kernel_rfl

set_option maxRecDepth 20000 in
set_option maxHeartbeats 1600000 in
theorem Names_any (d : Dk) (X : Nat → Prop) (gd : Nat) (w : World) (hd : PDskIn w X gd d) (hr : D.Rising d.fs) (hn : d.fs.length ≤ 1099511627776) :
    Calls Tryz.prog 29 #[.pointer (some ⟨gd, 0, none⟩)] w fun e w' => ∃ v, e = .returned v ∧ Below w.heap.size w w' ∧ w'.ownsRow w.heap.size 9 1 v d.fs.length (d.fs.map fun f => .string f.nm) := by
  obtain ⟨i0, hi, hz0, hz1, hz2⟩ := info_parts infoStr
  obtain ⟨⟨gm, M, E, hat⟩, hX⟩ := hd
  obtain ⟨⟨-, -, c2⟩, -, hz⟩ := hat.cells
  have hgm := hX gm hat.foot.2.1
  have hown := hat.map
  have hsz := hat.size
  have HSORT := Lib.hid (fun (ss : List (List UInt8)) (hp : ss.Perm (strKeys M)) => sorted_names hat hr hp)
  have HSZ := Lib.hid hsz
  have HN := Lib.hid hn
  clear hat hr hX hn hsz
  go_enter Tryz.func29, Tryz.ntmps29
  go_wp2_with (first
    | (at_range; refine wpList_range_own _ rfl _ 91 rfl 9 94 law9 Tryz.underlying91 ptrElem gm _ M rfl hown ?_; intro w0 hrg0 hg0 hs0)
    | go_in)
  go_frame
  go_loopw [3, 4] (fun v _ wr => ∃ (left : Lit → Bool) (cnt : Nat) (ss : List (List UInt8)), wr.ranges Tryz.prog 9 ptrElem gm w.heap.size d.fs.length M left cnt ∧ ss.length + cnt ≤ Maps.size M ∧
      wr.ownsRow w.heap.size 9 1 v ss.length (ss.map encStr) ∧ Collected M left ss ∧ Below w.heap.size w wr)
    (fun _ _ wr => wr.rangeLeft gm w.heap.size)
  case atStart =>
    exact ⟨_, _, [], hrg0, by simp, World.ownsRow_nil _ _ _ _, Collected.start M, (Below.refl _ _).grown hg0 (Nat.le_refl _) (fun j hj => by cases hj)⟩
  case round =>
    obtain ⟨left, cnt, ss, hrg, hcs, hrow, hC, hnx⟩ := hrel
    go_wp2_with (first
      | (at_next; refine wpList_next_ranges _ rfl _ rfl 9 law9 ptrElem encStr mkPtr (fun key kl hk => by obtain ⟨x, hx, _⟩ := Maps.keyOf_str Tryz.underlying9 hk; exact ⟨x, hx⟩) ptr_shape gm w.heap.size d.fs.length _ _ _ rfl hrg ?_ ?_)
      | go_in)
    · intro hc0 hl0
      have HP := Lib.hid (HSORT.out ss (hC.perm hown law9 Tryz.underlying9 hl0))
      have HNX := Lib.hid hnx
      rcases hrow.2 with ⟨hnil, hlen⟩ | ⟨g, cap, cur, rfl, hbase, hb, h1, h2, h3, h4⟩
      · subst hnil
        have hss : ss = [] := List.length_eq_zero_iff.1 hlen
        subst hss
        have HROW := Lib.hid hrow
        clear hrow hnx hC hl0 hcs hlen
        go_wp2_with (go_at_call 79; refine (Any.slices_Sort_string_none Tryz.laysSort none 0 _).mono ?_; rintro e w' ⟨rfl, rfl⟩)
        go_ret
        have hp := HP.out
        simp at hp
        have hfs : d.fs = [] := by simpa using hp.symm
        exact ⟨_, rfl, HNX.out, by rw [hfs]; exact World.ownsRow_nil _ _ _ _⟩
      · have hH : Holds encStr wr g 0 ss.toArray := holds_of_block hb (by simpa using h4)
        have hgl : g < wr.heap.size := (Array.getElem?_eq_some_iff.1 hb).1
        have hc := Any.slices_Sort_string Tryz.laysSort g 0 cap ss wr hH hgl (by have := HN.out; have := HSZ.out; omega)
        have HD : Hid (∀ (nn : Nat) (os : Array Obj), Below w.heap.size w (grow (putRow encStr (Sort.ahead wr nn) g 0 (ss.mergeSort fun x y => decide (x ≤ y)).toArray) os) ∧ (grow (putRow encStr (Sort.ahead wr nn) g 0 (ss.mergeSort fun x y => decide (x ≤ y)).toArray) os).ownsRow w.heap.size 9 1 (.slice (some ⟨g, 0, none⟩) ss.length cap) d.fs.length (d.fs.map fun f => .string f.nm)) := Lib.hid fun nn os => by
          have hrs := ownsRow_sorted (n := nn) (os := os) (ss := ss) (ts := ss.mergeSort fun x y => decide (x ≤ y)) (by simp) hbase hb h1 h2 h3
          refine ⟨hnx.grown (grownBy_sorted _) hnx.size (fun j hj => by cases hj; exact hbase), ?_⟩
          have hl : d.fs.length = ss.length := by
            have h5 := congrArg List.length HP.out
            simpa using h5.symm
          rw [hl]
          have he : (ss.mergeSort fun x y => decide (x ≤ y)).map encStr = d.fs.map fun f => .string f.nm := by
            rw [HP.out, List.map_map]
            apply List.map_congr_left
            intro f _
            exact encStr_nm f
          rw [he] at hrs
          exact hrs
        clear hrow hnx hC hl0 hcs hb h1 h2 h3 h4 hH hgl hbase
        go_wp2_with (go_at_call 79; refine hc.mono ?_; rintro e w' ⟨rfl, nn, os, rfl⟩)
        go_ret
        obtain ⟨q1, q2⟩ := HD.out nn os
        exact ⟨_, rfl, q1, q2⟩
    · intro x c kl yd yp w2 cnt2 hkey hlk hv hat hrg2 hlt hg2 hs2 hen
      obtain ⟨x', ex, rfl, _⟩ := Maps.keyOf_str Tryz.underlying9 hkey
      obtain rfl : x = x' := encStr_inj ex
      have hrow2 := hrow.kept hg2 (Or.inr (row_ne_iter hrow hrg).symm)
      clear hs2
      have hnn := HN.out
      have hzz := HSZ.out
      go_wp2_with (first
        | (at_builtin; refine wpList_append_own _ rfl _ _ 46 rfl w.heap.size 9 i0 (.string ⟨#[]⟩) 1 16 Tryz.underlying46 hi hz0 hz1 hz2 rfl (by decide) _ _ _ rfl (hrow2.alloc _) ⟨w2.heap.size, 0, none⟩ 1 1 [encStr x] rfl rfl (cell_one_new _ _ _) (by simp [Value.oneCell', encStr]) (by unfold maxLen at *; omega) (by omega) (by have := hnx.size; have := hg2.size; simp; omega) ?_; intro v' w3 hown' hg3 hnil3; go_frame)
        | go_in)
      have hrg3 := (hrg2.alloc _).kept hg3 (row_ne_low hrow2 hgm) (row_ne_iter hrow2 hrg2)
      go_roundw
      case rel =>
        refine ⟨_, cnt2, ss ++ [x], hrg3, by simp; omega, by simpa using hown', hC.step hlk hat, ?_⟩
        exact ((hnx.grown hg2 hnx.size (fun j hj => by cases hj; exact Nat.le_refl _)).alloc (by have := hnx.size; have := hg2.size; omega) _).grown hg3 (by have := hnx.size; have := hg2.size; simp; omega) (fun j hj => (hrow2.lt j hj).1)
      case measure => rw [hrg3.left_eq, hrg.left_eq]; exact hlt
end Go.Proofs.YtgakcaobalfpjaaGreatDoor.M

/- Part: DiskRef1. -/
namespace Go.Proofs.YtgakcaobalfpjaaGreatDoor.M
open Go.RowKit
open D (Fl Dk)

set_option maxRecDepth 20000 in
set_option maxHeartbeats 800000 in
theorem RefName_any (s : ByteArray) (w : World) (hs : s.size ≤ 9223372036854775807) :
    Calls Tryz.prog 54 #[.string s] w fun e w' => e = .returned (.bool (D.okName s)) ∧ w = w' := by
  go_enter Tryz.func54, Tryz.ntmps54
  go_wp2_with fail
  go_loop [3] (fun i => ∃ k : Nat, k ≤ s.size ∧ i = .int .i64 (k : Int) ∧ Hid ((s.data.toList.take k).all D.okByte = true)) (fun i => s.size - (intOf i).toNat)
  case atStart => exact ⟨0, Nat.zero_le _, rfl, Lib.hid rfl⟩
  case round =>
    obtain ⟨k, hk, rfl, HA⟩ := hrel
    by_cases hlt : k < s.size
    · have hkk : (k : Int) < (s.size : Int) := by omega
      have hN : Hid ((s.data.toList.take (k + 1)).all D.okByte = D.okByte s[k]) := Lib.hid (by
        rw [List.take_succ_eq_append_getElem (by simpa using hlt), List.all_append, HA.out]
        simp [List.all_cons]
        rfl)
      have hF : Hid (D.okByte s[k] = false → D.okName s = false) := Lib.hid fun h => by
        unfold D.okName
        have : s.data.toList.all D.okByte = false := by
          rw [List.all_eq_false]
          exact ⟨s.data.toList[k]'(by simpa using hlt), List.getElem_mem _, by
            have e : s.data.toList[k]'(by simpa using hlt) = s[k] := rfl
            rw [e, h]; simp⟩
        rw [this]; rfl
      have HI : Hid _ := Lib.hid (D.okByte_iff s[k])
      have hc0 : (0 : Int) ≤ (s[k].toNat : Int) := by omega
      rcases (show (97 ≤ s[k].toNat ∧ s[k].toNat ≤ 122) ∨ 122 < s[k].toNat ∨ (57 < s[k].toNat ∧ s[k].toNat < 97) ∨ (48 ≤ s[k].toNat ∧ s[k].toNat ≤ 57) ∨ s[k].toNat = 45 ∨ s[k].toNat = 46 ∨ (s[k].toNat < 48 ∧ s[k].toNat ≠ 45 ∧ s[k].toNat ≠ 46) by omega) with h | h | h | h | h | h | h
      · have p1 : (97 : Int) ≤ (s[k].toNat : Int) := by omega
        have p2 : (s[k].toNat : Int) ≤ 122 := by omega
        have HOK : Hid (D.okByte s[k] = true) := Lib.hid (HI.out.2 (by omega))
        clear h
        go_wp2_with fail
        go_round
        case rel => exact ⟨k + 1, by omega, by go_num, Lib.hid (by rw [hN.out, HOK.out])⟩
        case measure => simp [intOf]; omega
      · have p1 : (97 : Int) ≤ (s[k].toNat : Int) := by omega
        have p2 : decide ((s[k].toNat : Int) ≤ 122) = false := by simp; omega
        have p3 : (48 : Int) ≤ (s[k].toNat : Int) := by omega
        have p4 : decide ((s[k].toNat : Int) ≤ 57) = false := by simp; omega
        have p5 : ((s[k].toNat : Int) == 45) = false := by simp; omega
        have p6 : ((s[k].toNat : Int) == 46) = false := by simp; omega
        have HOK : Hid (D.okName s = false) := Lib.hid (hF.out (by rw [← Bool.not_eq_true, HI.out]; omega))
        clear h
        go_wp2_with fail
        go_ret
        exact ⟨by rw [HOK.out]; rfl, rfl⟩
      · have p1 : decide ((97 : Int) ≤ (s[k].toNat : Int)) = false := by simp; omega
        have p3 : (48 : Int) ≤ (s[k].toNat : Int) := by omega
        have p4 : decide ((s[k].toNat : Int) ≤ 57) = false := by simp; omega
        have p5 : ((s[k].toNat : Int) == 45) = false := by simp; omega
        have p6 : ((s[k].toNat : Int) == 46) = false := by simp; omega
        have HOK : Hid (D.okName s = false) := Lib.hid (hF.out (by rw [← Bool.not_eq_true, HI.out]; omega))
        clear h
        go_wp2_with fail
        go_ret
        exact ⟨by rw [HOK.out]; rfl, rfl⟩
      · have p1 : decide ((97 : Int) ≤ (s[k].toNat : Int)) = false := by simp; omega
        have p3 : (48 : Int) ≤ (s[k].toNat : Int) := by omega
        have p4 : (s[k].toNat : Int) ≤ 57 := by omega
        have HOK : Hid (D.okByte s[k] = true) := Lib.hid (HI.out.2 (by omega))
        clear h
        go_wp2_with fail
        go_round
        case rel => exact ⟨k + 1, by omega, by go_num, Lib.hid (by rw [hN.out, HOK.out])⟩
        case measure => simp [intOf]; omega
      · have p1 : decide ((97 : Int) ≤ (s[k].toNat : Int)) = false := by simp; omega
        have p3 : decide ((48 : Int) ≤ (s[k].toNat : Int)) = false := by simp; omega
        have p5 : ((s[k].toNat : Int) == 45) = true := by simp; omega
        have HOK : Hid (D.okByte s[k] = true) := Lib.hid (HI.out.2 (by omega))
        clear h
        go_wp2_with fail
        go_round
        case rel => exact ⟨k + 1, by omega, by go_num, Lib.hid (by rw [hN.out, HOK.out])⟩
        case measure => simp [intOf]; omega
      · have p1 : decide ((97 : Int) ≤ (s[k].toNat : Int)) = false := by simp; omega
        have p3 : decide ((48 : Int) ≤ (s[k].toNat : Int)) = false := by simp; omega
        have p5 : ((s[k].toNat : Int) == 45) = false := by simp; omega
        have p6 : ((s[k].toNat : Int) == 46) = true := by simp; omega
        have HOK : Hid (D.okByte s[k] = true) := Lib.hid (HI.out.2 (by omega))
        clear h
        go_wp2_with fail
        go_round
        case rel => exact ⟨k + 1, by omega, by go_num, Lib.hid (by rw [hN.out, HOK.out])⟩
        case measure => simp [intOf]; omega
      · have p1 : decide ((97 : Int) ≤ (s[k].toNat : Int)) = false := by simp; omega
        have p3 : decide ((48 : Int) ≤ (s[k].toNat : Int)) = false := by simp; omega
        have p5 : ((s[k].toNat : Int) == 45) = false := by simp; omega
        have p6 : ((s[k].toNat : Int) == 46) = false := by simp; omega
        have HOK : Hid (D.okName s = false) := Lib.hid (hF.out (by rw [← Bool.not_eq_true, HI.out]; omega))
        clear h
        go_wp2_with fail
        go_ret
        exact ⟨by rw [HOK.out]; rfl, rfl⟩
    · have hkk : ¬ (k : Int) < (s.size : Int) := by omega
      have HAL : Hid (D.okName s = decide (0 < s.size ∧ s.size ≤ 32)) := Lib.hid (by
        unfold D.okName
        have := HA.out
        rw [List.take_of_length_le (by rw [Array.length_toList]; exact Nat.le_of_not_lt hlt)] at this
        rw [this]; simp)
      by_cases h0 : 0 < s.size
      · have h1 : (0 : Int) < (s.size : Int) := by omega
        have HD : Hid (decide ((s.size : Int) ≤ 32) = D.okName s) := Lib.hid (by rw [HAL.out]; simp [h0]; omega)
        clear hlt
        go_wp2_with fail
        go_ret
        exact ⟨by rw [← HD.out]; rfl, rfl⟩
      · have h1 : ¬ (0 : Int) < (s.size : Int) := by omega
        have HD : Hid (D.okName s = false) := Lib.hid (by rw [HAL.out]; simp [h0])
        clear hlt
        go_wp2_with fail
        go_ret
        exact ⟨by rw [HD.out]; rfl, rfl⟩

theorem find_go (fs : List Fl) (s : ByteArray) : D.find fs s ≤ fs.length := List.findIdx_le_length

set_option maxRecDepth 20000 in
set_option maxHeartbeats 800000 in
theorem RefFree_any (d : Dk) (X : Nat → Prop) (gd : Nat) (w : World) (hd : Dsk w X gd d) (h0 : Hid (0 ≤ d.free ∧ 0 ≤ d.room ∧ d.room ≤ 9223372036854775807)) :
    Calls Tryz.prog 55 #[.pointer (some ⟨gd, 0, none⟩)] w fun e w' => e = .returned (.int .i64 d.free) ∧ w = w' := by
  obtain ⟨vl, fv, hat⟩ := hd
  obtain ⟨-, ⟨c0, c1, -, -⟩, -, hz, -, -⟩ := hat.cells
  obtain ⟨va, vc, rfl⟩ := owned_slice hat.row
  have hfl : (fv.length : Int) ≤ 9223372036854775807 := by have := hat.len.1; omega
  have hlen := hat.len.2
  have HLN := Lib.hid hlen
  have HAT := Lib.hid hat
  clear hat hlen
  go_enter Tryz.func55, Tryz.ntmps55
  go_wp2_with fail
  go_loop [3, 4] (fun n i => ∃ (k : Nat) (r : Int), k ≤ fv.length ∧ i = .int .i64 (k : Int) ∧ n = .int .i64 r ∧ Hid (r = d.room - (D.used (d.fs.take k) : Int))) (fun _ i => fv.length - (intOf i).toNat)
  case atStart => exact ⟨0, _, Nat.zero_le _, rfl, rfl, Lib.hid (by simp [D.used])⟩
  case round =>
    obtain ⟨k, r, hk, rfl, rfl, HR⟩ := hrel
    by_cases hlt : k < fv.length
    · have hkk : (k : Int) < (fv.length : Int) := by omega
      obtain ⟨ga, c, hv, -, -, hgz, -, -, -, e1, -, -⟩ := HAT.out.file k hlt
      cases hv
      obtain ⟨ba, bc, hb, hbl⟩ := HAT.out.bytes k hlt
      rw [hb] at e1
      have hgt := HAT.out.get k hlt (by have := HLN.out; omega)
      have hut := D.used_take d.fs k (by have := HLN.out; omega)
      have hul := D.used_le d.fs (k + 1)
      obtain ⟨n, hn⟩ : ∃ n, n = fv[k].1.b.length := ⟨_, rfl⟩
      rw [← hn] at e1 hbl
      have hb2 : 0 ≤ r - (n : Int) ∧ r - (n : Int) ≤ 9223372036854775807 := by
        have h1 := h0.out
        have h2 := HR.out
        unfold D.Dk.free at h1
        rw [← hgt, ← hn] at hut
        omega
      obtain ⟨hb3, hb4⟩ := hb2
      have HR2 : Hid (r - (n : Int) = d.room - (D.used (d.fs.take (k + 1)) : Int)) := Lib.hid (by rw [hut, HR.out, hn, hgt]; omega)
      clear hgt hut hul hn hb
      go_wp2_with fail
      go_round
      case rel => exact ⟨k + 1, _, by omega, by go_num, rfl, HR2⟩
      case measure => simp [intOf]; omega
    · have hkk : ¬ (k : Int) < (fv.length : Int) := by omega
      have HE : Hid (r = d.free) := Lib.hid (by
        rw [HR.out, List.take_of_length_le (by have := HLN.out; omega)]; rfl)
      go_wp2_with fail
      go_ret
      exact ⟨by rw [HE.out]; rfl, rfl⟩
end Go.Proofs.YtgakcaobalfpjaaGreatDoor.M

/- Part: DiskRef2. -/
namespace Go.Proofs.YtgakcaobalfpjaaGreatDoor.M
open Go.RowKit
open D (Fl Dk)

set_option maxRecDepth 20000 in
set_option maxHeartbeats 800000 in
theorem RefFind_any (d : Dk) (X : Nat → Prop) (gd : Nat) (s : ByteArray) (w : World) (hd : Dsk w X gd d) :
    Calls Tryz.prog 48 #[.pointer (some ⟨gd, 0, none⟩), .string s] w fun e w' => e = .returned (.int .i64 (D.findR d.fs s)) ∧ w = w' := by
  obtain ⟨vl, fv, hat⟩ := hd
  obtain ⟨-, ⟨-, c1, -, -⟩, -, hz, -, -⟩ := hat.cells
  obtain ⟨va, vc, rfl⟩ := owned_slice hat.row
  have hfl : (fv.length : Int) ≤ 9223372036854775807 := by have := hat.len.1; omega
  have HLN := Lib.hid hat.len.2
  have HAT := Lib.hid hat
  clear hat
  go_enter Tryz.func48, Tryz.ntmps48
  go_wp2_with fail
  go_loop [5] (fun i => ∃ k : Nat, k ≤ fv.length ∧ i = .int .i64 (k : Int) ∧ Hid (k ≤ D.find d.fs s)) (fun i => fv.length - (intOf i).toNat)
  case atStart => exact ⟨0, Nat.zero_le _, rfl, Lib.hid (Nat.zero_le _)⟩
  case round =>
    obtain ⟨k, hk, rfl, HR⟩ := hrel
    by_cases hlt : k < fv.length
    · have hkk : (k : Int) < (fv.length : Int) := by omega
      obtain ⟨ga, c, hv, -, -, hgz, -, -, e0, -, -, -⟩ := HAT.out.file k hlt
      cases hv
      have hkd : k < d.fs.length := by have := HLN.out; omega
      have hgt := HAT.out.get k hlt hkd
      obtain ⟨nm, hnm⟩ : ∃ nm, nm = fv[k].1.nm := ⟨_, rfl⟩
      rw [← hnm] at e0
      by_cases heq : (nm.toList == s.toList) = true
      · have HE : Hid (D.findR d.fs s = (k : Int)) := Lib.hid (by
          have := D.find_hit d.fs s k hkd HR.out (by rw [← hgt, ← hnm]; exact heq)
          unfold D.findR
          rw [this, if_pos hkd])
        clear hgt hnm
        go_wp2_with fail
        go_ret
        exact ⟨by rw [HE.out]; rfl, rfl⟩
      · have heq : (nm.toList == s.toList) = false := by simpa using heq
        have HE : Hid (k + 1 ≤ D.find d.fs s) := Lib.hid (D.find_next d.fs s k hkd HR.out (by rw [← hgt, ← hnm]; exact heq))
        clear hgt hnm
        go_wp2_with fail
        go_round
        case rel => exact ⟨k + 1, by omega, by go_num, HE⟩
        case measure => simp [intOf]; omega
    · have hkk : ¬ (k : Int) < (fv.length : Int) := by omega
      have HE : Hid (D.findR d.fs s = -1) := Lib.hid (by
        unfold D.findR
        rw [if_neg (by have := HR.out; have := HLN.out; omega)])
      go_wp2_with fail
      go_ret
      exact ⟨by rw [HE.out]; rfl, rfl⟩

/-- A disk whose own cells alone have turned. -/
theorem DkAt.turned {w w' : World} {X : Nat → Prop} {gd : Nat} {d e : Dk} {vl : Value} {fv : List (Fl × Value)} (h : DkAt w X gd d vl fv) (hf : e.fs = d.fs)
    (hb : ∃ cc : Int, w'.heap[gd]? = some (.cells #[.int .i64 e.room, vl, .bool e.ends, .int .i64 cc] 80) ∧ (e.ends = true → cc = (e.calls : Int))) (ho : ∀ k, k ≠ gd → w'.heap[k]? = w.heap[k]?) : DkAt w' X gd e vl fv := by
  have hn := h.apart
  rw [blocksOf, List.cons_append, List.nodup_cons] at hn
  refine ⟨hb, h.fs.trans hf.symm, ownsRow_same h.row fun k hk => ho k ?_, fun p hp => ownsRow_same (h.each p hp) fun k hk => ho k ?_, h.apart, h.foot⟩
  · intro e
    apply hn.1
    subst e
    simp [hk]
  · intro e
    apply hn.1
    subst e
    rw [List.mem_append, List.mem_flatMap]
    exact .inr ⟨p, hp, by simp [hk]⟩

theorem DkAt.own {w : World} {X : Nat → Prop} {gd : Nat} {d : Dk} {vl : Value} {fv : List (Fl × Value)} (h : DkAt w X gd d vl fv) : X gd := h.foot gd (by simp [blocksOf])

set_option maxRecDepth 20000 in
set_option maxHeartbeats 800000 in
theorem RefStopped_any (d : Dk) (X : Nat → Prop) (gd : Nat) (w : World) (hd : Dsk w X gd d) (hc : Hid (d.calls ≤ 9223372036854775807)) :
    Calls Tryz.prog 47 #[.pointer (some ⟨gd, 0, none⟩)] w fun e w' => e = .returned (.bool d.stopped) ∧ Only X w w' ∧ Dsk w' X gd d.tick ∧ w'.heap.size = w.heap.size := by
  obtain ⟨vl, fv, hat⟩ := hd
  obtain ⟨cc, ⟨-, -, c2, c3⟩, ⟨-, -, -, f3⟩, hz, hbox, hcc⟩ := hat.cells
  have HBX := Lib.hid hbox
  have HAT := Lib.hid hat
  clear hat
  clear hbox
  have hcl : (d.calls : Int) ≤ 9223372036854775807 := by have := hc.out; omega
  cases he : d.ends
  · have HE := Lib.hid he
    rw [he] at c2
    clear he hcc
    go_enter Tryz.func47, Tryz.ntmps47
    go_wp2_with fail
    go_ret
    refine ⟨by simp [D.Dk.stopped, HE.out], Only.refl _ _, ⟨vl, fv, ?_⟩, rfl⟩
    have : d.tick = d := by unfold D.Dk.tick; rw [if_neg (by simp [HE.out])]
    rw [this]; exact HAT.out
  · have HE := Lib.hid he
    rw [hcc he] at c3 HBX
    rw [he] at c2
    clear he hcc
    by_cases h0 : d.calls = 0
    · have h00 : ((d.calls : Int) == 0) = true := by simp [h0]
      have H0 := Lib.hid h0
      clear h0
      go_enter Tryz.func47, Tryz.ntmps47
      go_wp2_with fail
      go_ret
      refine ⟨by simp [D.Dk.stopped, HE.out, H0.out], Only.refl _ _, ⟨vl, fv, ?_⟩, rfl⟩
      have : d.tick = d := by unfold D.Dk.tick; rw [if_neg (by simp [H0.out])]
      rw [this]; exact HAT.out
    · have h00 : ((d.calls : Int) == 0) = false := by simp; omega
      have h1 : (0 : Int) < (d.calls : Int) := by omega
      have H0 := Lib.hid h0
      clear h0
      go_enter Tryz.func47, Tryz.ntmps47
      go_wp2_with fail
      go_ret
      have ht : d.tick = { d with calls := d.calls - 1 } := by unfold D.Dk.tick; rw [if_pos ⟨HE.out, H0.out⟩]
      refine ⟨by simp [D.Dk.stopped, HE.out, H0.out], ⟨rfl, rfl, rfl, by simp, fun k hk hn => Below.heap_setCell _ _ _ _ (by simp; intro e; exact hn (e ▸ HAT.out.own))⟩, ⟨vl, fv, HAT.out.turned (by rw [ht]) ?_ fun k hk => Below.heap_setCell _ _ _ _ (by simpa using hk)⟩, by simp⟩
      refine ⟨((d.calls - 1 : Nat) : Int), ?_, fun _ => by rw [ht]⟩
      rw [heap_setCell_same _ _ _ _ _ _ HBX.out, ht]
      have e1 : (d.calls : Int) - 1 = ((d.calls - 1 : Nat) : Int) := by have := H0.out; omega
      simp [e1]
end Go.Proofs.YtgakcaobalfpjaaGreatDoor.M

/- Part: DiskRef3. -/
namespace Go.Proofs.YtgakcaobalfpjaaGreatDoor.M
open Go.RowKit
open D (Fl Dk)

set_option maxRecDepth 20000 in
set_option maxHeartbeats 800000 in
theorem RefStop_any (d : Dk) (X : Nat → Prop) (gd : Nat) (n : Int) (w : World) (hd : Dsk w X gd d) (_hn : Hid (-9223372036854775808 ≤ n ∧ n ≤ 9223372036854775807)) :
    Calls Tryz.prog 12 #[.pointer (some ⟨gd, 0, none⟩), .int .i64 n] w fun e w' => e = .returned (.tuple #[]) ∧ Only X w w' ∧ Dsk w' X gd (D.stop d n) ∧ w'.heap.size = w.heap.size := by
  obtain ⟨vl, fv, hat⟩ := hd
  obtain ⟨cc, ⟨-, -, c2, c3⟩, ⟨-, -, f2, f3⟩, hz, hbox, -⟩ := hat.cells
  have HBX := Lib.hid hbox
  have HAT := Lib.hid hat
  clear hat hbox
  go_enter Tryz.func12, Tryz.ntmps12
  go_wp2_with fail
  go_end0
  have hb1 := heap_setCell_same _ _ 2 _ _ (.bool (decide (0 ≤ n))) HBX.out
  have hb2 := heap_setCell_same _ _ 3 _ _ (.int .i64 n) hb1
  refine ⟨rfl, ⟨rfl, rfl, rfl, by simp, fun k hk hne => ?_⟩, ⟨vl, fv, HAT.out.turned rfl ⟨n, ?_, fun h => ?_⟩ fun k hk => ?_⟩, by simp⟩
  · have : k ≠ gd := fun e => hne (e ▸ HAT.out.own)
    rw [Below.heap_setCell _ _ _ _ (by simpa using this), Below.heap_setCell _ _ _ _ (by simpa using this)]
  · rw [hb2]; simp [D.stop]
  · simp only [D.stop, decide_eq_true_eq] at h ⊢
    omega
  · rw [Below.heap_setCell _ _ _ _ (by simpa using hk), Below.heap_setCell _ _ _ _ (by simpa using hk)]

theorem flCells_append (a b : List (Fl × Value)) : flCells (a ++ b) = flCells a ++ flCells b := by simp [flCells]

theorem infoFile : (Tryz.prog.info? 83).map (fun i => (i.zero, i.size, i.bytes)) = some (some (.agg #[.string ByteArray.empty, .slice none 0 0, .int .i64 0]), 3, 48) := by kernel_rfl

/-- A part of the files' row, as an append reads it. -/
theorem DkAt.yields {w : World} {X : Nat → Prop} {gd : Nat} {d : Dk} {vl : Value} {fv : List (Fl × Value)} (h : DkAt w X gd d vl fv) {ga c : Nat} (hv : vl = .slice (some ⟨ga, 0, none⟩) fv.length c) (i m c' : Nat) (hm : i + m ≤ fv.length) :
    Yields w (.slice (some ⟨ga, i * 3, none⟩) m c') m 3 (flCells ((fv.drop i).take m)) := by
  have hr := h.row
  rw [hv] at hr
  refine ⟨by rw [flCells_length]; simp; omega, ?_, .inr ⟨_, c', rfl, ?_⟩⟩
  · intro u hu
    simp only [flCells, List.mem_flatMap] at hu
    obtain ⟨p, hp, hu⟩ := hu
    have hp2 : p ∈ fv := List.mem_of_mem_drop (List.mem_of_mem_take hp)
    obtain ⟨a, c, hs⟩ := owned_slice (h.each p hp2)
    simp only [flV, List.mem_cons, List.not_mem_nil, or_false] at hu
    rcases hu with rfl | rfl | rfl
    · rfl
    · rw [hs]; rfl
    · rfl
  · intro j u hj
    have hjl : j < m * 3 := by
      have := (List.getElem?_eq_some_iff.1 hj).1
      rw [flCells_length] at this
      simp at this
      omega
    rw [show (⟨ga, i * 3, none⟩ : Addr).add j = ⟨ga, i * 3 + j, none⟩ from by cases j <;> simp [Addr.add], hr.cellAt _ (by omega)]
    have e : flCells fv = flCells (fv.take i) ++ (flCells ((fv.drop i).take m) ++ flCells ((fv.drop i).drop m)) := by
      rw [← flCells_append, ← flCells_append, List.take_append_drop, List.take_append_drop]
    rw [e, List.getElem?_append_right (by rw [flCells_length]; simp; omega), List.getElem?_append_left (by simp only [flCells_length, List.length_take, List.length_drop]; omega), ← hj]
    congr 1
    rw [flCells_length]
    simp
    omega
end Go.Proofs.YtgakcaobalfpjaaGreatDoor.M

/- Part: DiskRef4. -/
namespace Go.Proofs.YtgakcaobalfpjaaGreatDoor.M
open Go.RowKit
open D (Fl Dk)

/-- Three cells of a block that is known whole. -/
theorem three_of {w : World} {g : Nat} {x y z : Value} {t : TypeId} (h : w.heap[g]? = some (.cells #[x, y, z] t)) :
    w.cell? ⟨g, 0, none⟩ = some x ∧ w.cell? ⟨g, 1, none⟩ = some y ∧ w.cell? ⟨g, 2, none⟩ = some z ∧
    w.frozen? ⟨g, 0, none⟩ = false ∧ w.frozen? ⟨g, 1, none⟩ = false ∧ w.frozen? ⟨g, 2, none⟩ = false ∧ g < w.heap.size :=
  ⟨cell_of_row w g 0 _ t _ h, cell_of_row w g 1 _ t _ h, cell_of_row w g 2 _ t _ h, frozen_of_row w g 0 _ t h, frozen_of_row w g 1 _ t h, frozen_of_row w g 2 _ t h, lt_of_heap h⟩

theorem ownBlock_len {a : Option Addr} {n m c c' : Nat} : (Value.slice a n c).ownBlock = (Value.slice a m c').ownBlock := by
  cases a with
  | none => rfl
  | some a => rfl

theorem erase_parts {α : Type} (l : List α) (i : Nat) : l.eraseIdx i = l.take i ++ l.drop (i + 1) := List.eraseIdx_eq_take_drop_succ ..

theorem parts_of_list {α : Type} (l : List α) (i : Nat) (h : i < l.length) : l = l.take i ++ l[i] :: l.drop (i + 1) := by
  rw [← List.drop_eq_getElem_cons h, List.take_append_drop]

/-- The disk, behind a file's taking out. -/
theorem take_done {w w2 wF : World} {d : Dk} {X : Nat → Prop} {gd : Nat} {vl v2 : Value} {fv : List (Fl × Value)} {i : Nat} {cc : Int} (hat : DkAt w X gd d vl fv) (hX : ∀ k, X k → k < w.heap.size) (hi : i < fv.length)
    (hcc : d.ends = true → cc = (d.calls : Int)) (hsz : w.heap.size ≤ w2.heap.size) (hold : ∀ k, k < w.heap.size → w2.heap[k]? = w.heap[k]?) (hos : w2.os = w.os ∧ w2.tape = w.tape ∧ w2.output = w.output)
    (ho : w2.ownsRow 0 83 3 v2 (fv.eraseIdx i).length (flCells (fv.eraseIdx i))) (hno : ∀ k, v2.ownBlock = some k → w.heap.size < k ∧ k < w2.heap.size)
    (hFo : ∀ k, k ≠ gd → k ≠ w.heap.size → wF.heap[k]? = w2.heap[k]?) (hFg : wF.heap[gd]? = some (.cells #[.int .i64 d.room, v2, .bool d.ends, .int .i64 cc] 80)) (hFs : wF.heap.size = w2.heap.size)
    (hFw : wF.os = w2.os ∧ wF.tape = w2.tape ∧ wF.output = w2.output) :
    Only (fun k => k = gd) w wF ∧ DkAt wF (More X w wF) gd { d with fs := d.fs.eraseIdx i } v2 (fv.eraseIdx i) ∧ (∀ k, fv[i].2.ownBlock = some k → wF.heap[k]? = w.heap[k]? ∧ k ∉ blocksOf gd v2 (fv.eraseIdx i)) ∧ (∀ k, v2.ownBlock = some k → w.heap.size ≤ k) := by
  have hgw := hX gd hat.own
  have hap := hat.apart
  have hkeep : ∀ k, k < w.heap.size → k ≠ gd → wF.heap[k]? = w.heap[k]? := fun k hk hg => (hFo k hg (by omega)).trans (hold k hk)
  have hfile : ∀ p ∈ fv, ∀ k, p.2.ownBlock = some k → k < w.heap.size ∧ k ≠ gd := fun p hp k hk => by
    have hm := mem_blocks_file (gd := gd) (vl := vl) hp hk
    refine ⟨hX k (hat.foot k hm), fun e => ?_⟩
    rw [blocksOf, List.cons_append, List.nodup_cons] at hap
    apply hap.1
    rw [← e, List.mem_append, List.mem_flatMap]
    exact .inr ⟨p, hp, by simp [hk]⟩
  have hsub : ∀ p ∈ fv.eraseIdx i, p ∈ fv := fun p hp => List.mem_of_mem_eraseIdx hp
  have hnd : ((fv.eraseIdx i).flatMap fun p : Fl × Value => p.2.ownBlock.toList).Nodup ∧ ∀ k, fv[i].2.ownBlock = some k → k ∉ (fv.eraseIdx i).flatMap fun p : Fl × Value => p.2.ownBlock.toList := by
    have h1 : (fv.flatMap fun p : Fl × Value => p.2.ownBlock.toList).Nodup := by
      rw [blocksOf] at hap
      exact (List.nodup_append.1 hap).2.1
    rw [parts_of_list fv i hi, List.flatMap_append, List.flatMap_cons] at h1
    rw [erase_parts, List.flatMap_append]
    obtain ⟨a1, a2, a3⟩ := List.nodup_append.1 h1
    obtain ⟨b1, b2, b3⟩ := List.nodup_append.1 a2
    refine ⟨List.nodup_append.2 ⟨a1, b2, fun x hx y hy => a3 x hx y (List.mem_append.2 (.inr hy))⟩, fun k hk hm => ?_⟩
    have hkm : k ∈ fv[i].2.ownBlock.toList := by simp [hk]
    rcases List.mem_append.1 hm with hm | hm
    · exact a3 k hm k (List.mem_append.2 (.inl hkm)) rfl
    · exact b3 k hkm k hm rfl
  refine ⟨⟨hFw.1.trans hos.1, hFw.2.1.trans hos.2.1, hFw.2.2.trans hos.2.2, by omega, fun k hk hn => hkeep k hk hn⟩, ⟨⟨cc, hFg, hcc⟩, ?_, ownsRow_same ho fun k hk => ?_, fun p hp => ?_, ?_, ?_⟩, ?_, fun k hk => Nat.le_of_lt (hno k hk).1⟩
  · show (fv.eraseIdx i).map (·.1) = d.fs.eraseIdx i
    rw [erase_parts, List.map_append, List.map_take, List.map_drop, hat.fs, ← erase_parts]
  · have := hno k hk
    exact hFo k (by omega) (by omega)
  · exact ownsRow_same (hat.each p (hsub p hp)) fun k hk => by
      obtain ⟨h1, h2⟩ := hfile p (hsub p hp) k hk
      exact hkeep k h1 h2
  · rw [blocksOf, List.cons_append, List.nodup_cons]
    refine ⟨fun hm => ?_, List.nodup_append.2 ⟨?_, hnd.1, fun x hx y hy e => ?_⟩⟩
    · rcases List.mem_append.1 hm with hm | hm
      · have := hno gd (by simpa using hm)
        omega
      · obtain ⟨p, hp, hk⟩ := List.mem_flatMap.1 hm
        exact (hfile p (hsub p hp) gd (by simpa using hk)).2 rfl
    · cases v2.ownBlock <;> simp
    · have h1 := hno x (by simpa using hx)
      obtain ⟨p, hp, hk⟩ := List.mem_flatMap.1 hy
      have h2 := (hfile p (hsub p hp) y (by simpa using hk)).1
      omega
  · intro k hk
    rw [blocksOf, List.cons_append, List.mem_cons, List.mem_append, List.mem_flatMap] at hk
    rcases hk with rfl | hk | ⟨p, hp, hk⟩
    · exact .inl hat.own
    · have := hno k (by simpa using hk)
      exact .inr ⟨by omega, by omega⟩
    · exact .inl (hat.foot k (mem_blocks_file (hsub p hp) (by simpa using hk)))
  · intro k hk
    obtain ⟨h1, h2⟩ := hfile fv[i] (List.getElem_mem hi) k hk
    refine ⟨hkeep k h1 h2, fun hm => ?_⟩
    rw [blocksOf, List.cons_append, List.mem_cons, List.mem_append] at hm
    rcases hm with h3 | hm | hm
    · exact h2 h3
    · have := hno k (by simpa using hm)
      omega
    · exact hnd.2 k hk hm

set_option maxRecDepth 20000 in
set_option maxHeartbeats 3200000 in
theorem RefTake_any (d : Dk) (X : Nat → Prop) (gd : Nat) (vl : Value) (fv : List (Fl × Value)) (i : Nat) (w : World) (hat : DkAt w X gd d vl fv) (hX : ∀ k, X k → k < w.heap.size) (hi : i < fv.length) (h4 : Hid (fv.length ≤ 4096)) :
    Calls Tryz.prog 49 #[.pointer (some ⟨gd, 0, none⟩), .int .i64 (i : Int)] w fun e w' => ∃ vl', e = .returned (.agg #[.string fv[i].1.nm, fv[i].2, .int .i64 (fv[i].1.safe : Int)]) ∧ Only (fun k => k = gd) w w' ∧
      DkAt w' (More X w w') gd { d with fs := d.fs.eraseIdx i } vl' (fv.eraseIdx i) ∧ (∀ k, fv[i].2.ownBlock = some k → w'.heap[k]? = w.heap[k]? ∧ k ∉ blocksOf gd vl' (fv.eraseIdx i)) ∧ (∀ k, vl'.ownBlock = some k → w.heap.size ≤ k) := by
  obtain ⟨cc, ⟨-, c1, -, -⟩, ⟨-, f1, -, -⟩, hz, hbox, hcc⟩ := hat.cells
  obtain ⟨ga, c, rfl, hXa, hga, hgaz, hnc, hcm, e0, e1, e2, hfz⟩ := hat.file i hi
  obtain ⟨va, vc, hvi, hvl⟩ := hat.bytes i hi
  have HVI := Lib.hid hvi
  rw [hvi] at e1 ⊢
  have HBX := Lib.hid hbox
  have HAT := Lib.hid hat
  have HCC := Lib.hid hcc
  have HX := Lib.hid hX
  have hil : (i : Int) < (fv.length : Int) := by omega
  have hic : (i : Int) ≤ (c : Int) := by omega
  have hi1 : (i : Int) + 1 ≤ (fv.length : Int) := by omega
  have hfl : (fv.length : Int) ≤ 4096 := by have := h4.out; omega
  obtain ⟨nm, hnm⟩ : ∃ nm, nm = fv[i].1.nm := ⟨_, rfl⟩
  obtain ⟨bl, hbl⟩ : ∃ bl, bl = fv[i].1.b.length := ⟨_, rfl⟩
  obtain ⟨sf, hsf⟩ : ∃ sf, sf = fv[i].1.safe := ⟨_, rfl⟩
  rw [← hnm] at e0 ⊢
  rw [← hbl] at e1 ⊢
  rw [← hsf] at e2 ⊢
  have HNM := Lib.hid hnm
  have HBL := Lib.hid hbl
  have HSF := Lib.hid hsf
  obtain ⟨iF, hiF, hiF0, hiF1, hiF2⟩ := info_parts infoFile
  clear hat hbox hcc hX hvi hnm hbl hsf hfz hvl
  go_enter Tryz.func49, Tryz.ntmps49
  go_wp2_with (at_builtin; refine wpList_append_any _ rfl _ _ 78 rfl 0 83 iF (.agg #[.string ByteArray.empty, .slice none 0 0, .int .i64 0]) 3 48 Tryz.underlying78 hiF hiF0 hiF1 hiF2 rfl (by decide) _ 0 [] rfl (World.ownsRow_nil _ _ _ _) (.slice (some ⟨ga, 0, none⟩) i c) rfl i (flCells ((fv.drop 0).take i)) ?c1 ?c2 ?c3 ?c4 ?_)
  case c1 =>
    have := fun o1 o2 => (HAT.out.same (Y := X) (w' := (w.alloc o1).alloc o2) (fun _ h => h) fun k hk => by
      have := HX.out k hk
      rw [Below.heap_alloc _ _ _ (by simp; omega), Below.heap_alloc _ _ _ this]).yields rfl 0 i c (by omega)
    simp only [Nat.zero_mul, List.drop_zero] at this ⊢
    exact this _ _
  case c2 => unfold maxLen; have := h4.out; omega
  case c3 => have := h4.out; omega
  case c4 => omega
  intro v1 w1 happ1
  obtain ⟨ho1, hg1, hw1⟩ := happ1
  rw [Nat.zero_add, List.nil_append] at ho1
  have hk1 : ∀ k, k < w.heap.size + 2 → w1.heap[k]? = ((w.alloc (.cells #[.string ByteArray.empty, .slice none 0 0, .int .i64 0] 83)).alloc (.cells #[.string nm, .slice va bl vc, .int .i64 (sf : Int)] 83)).heap[k]? :=
    fun k hk => hg1.block k (by simp; omega) (by simp [Value.ownBlock])
  have hold1 : ∀ k, k < w.heap.size → w1.heap[k]? = w.heap[k]? := fun k hk => by
    rw [hk1 k (by omega), Below.heap_alloc _ _ _ (by simp; omega), Below.heap_alloc _ _ _ hk]
  have hx4 := (hk1 w.heap.size (by omega)).trans (old_alloc (heap_new _ _ _ rfl))
  have hx5 := (hk1 (w.heap.size + 1) (by omega)).trans (heap_new _ _ _ (by simp))
  have hs1 := hg1.size
  simp only [World.size_alloc] at hs1
  obtain ⟨a1, k1, rfl⟩ := owned_slice ho1
  have hno1 : ∀ k, (Value.slice a1 i k1).ownBlock = some k → w.heap.size + 2 ≤ k := fun k hk => by
    rcases hw1 with h | h
    · rw [hk] at h; simp [Value.ownBlock] at h
    · rw [hk] at h; simp at h; omega
  obtain ⟨-, ⟨-, g1, -, -⟩, ⟨-, h1, -, -⟩, hz1, -⟩ := (HAT.out.same (w' := w1) (Y := X) (fun _ h => h) fun k hk => hold1 k (HX.out k hk)).cells
  have HAT1 : Hid _ := Lib.hid (HAT.out.same (w' := w1) (Y := X) (fun _ h => h) fun k hk => hold1 k (HX.out k hk))
  have HO1 := Lib.hid ho1
  have HX4 := Lib.hid hx4
  have HX5 := Lib.hid hx5
  have HOLD1 := Lib.hid hold1
  have HNO1 := Lib.hid hno1
  have HT1 : Hid (w1.os = w.os ∧ w1.tape = w.tape ∧ w1.output = w.output) := Lib.hid ⟨hg1.os, hg1.tape, hg1.output⟩
  clear ho1 hg1 hw1 hk1 hold1 hx4 hx5 hno1
  by_cases hcap : c = i + 1
  · subst hcap
    have hn1 : fv.length = i + 1 := by omega
    go_wp2_with (at_builtin; refine wpList_append_any _ rfl (.tmp 23) (.tmp 30) 78 rfl 0 83 iF (.agg #[.string ByteArray.empty, .slice none 0 0, .int .i64 0]) 3 48 Tryz.underlying78 hiF hiF0 hiF1 hiF2 rfl (by decide) _ i _ rfl HO1.out (.slice (some ⟨ga, 0, none⟩) 0 0) rfl 0 [] ⟨rfl, by simp, .inr ⟨_, _, rfl, by simp⟩⟩ ?d2 ?d3 ?d4 ?_)
    case d2 => unfold maxLen; have := h4.out; omega
    case d3 => have := h4.out; omega
    case d4 => omega
    intro v2 w2 happ2
    obtain ⟨ho2, hg2, hw2⟩ := happ2
    rw [Nat.add_zero, List.append_nil] at ho2
    obtain ⟨a2, k2, rfl⟩ := owned_slice ho2
    have hx4 : w2.heap[w.heap.size]? = _ := (hg2.block _ (by omega) (fun h => by have := HNO1.out _ h.symm; omega)).trans HX4.out
    have hx5 : w2.heap[w.heap.size + 1]? = _ := (hg2.block _ (by omega) (fun h => by have := HNO1.out _ h.symm; omega)).trans HX5.out
    have hxg : w2.heap[gd]? = w1.heap[gd]? := hg2.block gd (by omega) (fun h => by have := HNO1.out _ h.symm; omega)
    obtain ⟨m0, m1, m2, n0, n1, n2, nz⟩ := three_of hx4
    obtain ⟨p0, p1, p2, -, -, -, pz⟩ := three_of hx5
    have r1 : w2.cell? ⟨gd, 1, none⟩ = _ := (World.cell?_of_block (w := w1) (w' := w2) (a := ⟨gd, 1, none⟩) hxg).trans g1
    have s1 : w2.frozen? ⟨gd, 1, none⟩ = false := by rw [show w2.frozen? ⟨gd, 1, none⟩ = w1.frozen? ⟨gd, 1, none⟩ from by simp [World.frozen?, hxg]]; exact h1
    have gz2 : gd < w2.heap.size := by omega
    have HNO2 : Hid (∀ k, (Value.slice a2 i k2).ownBlock = some k → w.heap.size < k ∧ k < w2.heap.size) := Lib.hid fun k hk => by
      have h1 := (ho2.lt k hk).2
      rcases hw2 with h | h
      · rw [h] at hk; have := HNO1.out k hk; omega
      · rw [hk] at h; cases h; omega
    have hs2 := hg2.size
    have HOLD2 : Hid (∀ k, k < w.heap.size → w2.heap[k]? = w.heap[k]?) := Lib.hid fun k hk => (hg2.block k (by omega) (fun h => by have := HNO1.out _ h.symm; omega)).trans (HOLD1.out k hk)
    have HGD2 : Hid (w2.heap[gd]? = w.heap[gd]?) := Lib.hid (HOLD2.out gd hz)
    have HT2 : Hid (w2.os = w.os ∧ w2.tape = w.tape ∧ w2.output = w.output) := Lib.hid ⟨hg2.os.trans HT1.out.1, hg2.tape.trans HT1.out.2.1, hg2.output.trans HT1.out.2.2⟩
    have HX42 := Lib.hid hx4
    have HX52 := Lib.hid hx5
    have HO2 := Lib.hid ho2
    have HG2 := Lib.hid hg2
    have HW2 := Lib.hid hw2
    clear hx4 hx5 hxg ho2 hg2 hw2
    go_wp2_with fail
    obtain ⟨wF, hwF⟩ : ∃ wF, wF = (((w2.setCell ⟨gd, 1, none⟩ (.slice a2 i k2)).setCell ⟨w.heap.size, 0, none⟩ (.string nm)).setCell ⟨w.heap.size, 1, none⟩ (.slice va bl vc)).setCell ⟨w.heap.size, 2, none⟩ (.int .i64 (sf : Int)) := ⟨_, rfl⟩
    have hF4 : wF.heap[w.heap.size]? = some (.cells #[.string nm, .slice va bl vc, .int .i64 (sf : Int)] 83) := by
      have q0 := old_set (a := ⟨gd, 1, none⟩) (v := .slice a2 i k2) HX42.out (by simp; omega)
      have q1 := heap_setCell_same _ _ 0 _ _ (.string nm) q0
      have q2 := heap_setCell_same _ _ 1 _ _ (.slice va bl vc) q1
      have q3 := heap_setCell_same _ _ 2 _ _ (.int .i64 (sf : Int)) q2
      rw [hwF, q3]; simp
    have hFg : wF.heap[gd]? = some (.cells #[.int .i64 d.room, .slice a2 i k2, .bool d.ends, .int .i64 cc] 80) := by
      have q0 := heap_setCell_same _ _ 1 _ _ (.slice a2 i k2) (HGD2.out.trans HBX.out)
      rw [hwF, Below.heap_setCell _ _ _ _ (by simp; omega), Below.heap_setCell _ _ _ _ (by simp; omega), Below.heap_setCell _ _ _ _ (by simp; omega), q0]; simp
    have hfin := take_done HAT.out HX.out hi HCC.out (w2 := w2) (wF := wF) (v2 := .slice a2 i k2) (cc := cc) (by omega) HOLD2.out HT2.out (by
        have e : fv.eraseIdx i = fv.take i := by rw [erase_parts, List.drop_of_length_le (by omega), List.append_nil]
        rw [e, show (fv.take i).length = i from by simp; omega]; exact HO2.out) HNO2.out
      (fun k h1 h2 => by rw [hwF, Below.heap_setCell _ _ _ _ (by simpa using h2), Below.heap_setCell _ _ _ _ (by simpa using h2), Below.heap_setCell _ _ _ _ (by simpa using h2), Below.heap_setCell _ _ _ _ (by simpa using h1)]) hFg (by rw [hwF]; simp) (by rw [hwF]; exact ⟨rfl, rfl, rfl⟩)
    rw [← hwF]
    exact bodyPost_ret (v := .agg #[.string nm, .slice va bl vc, .int .i64 (sf : Int)]) (results_cell_row (P := Tryz.prog) Tryz.results49 _ _ w.heap.size 83 _ (0, 0) _ rfl hF4 Tryz.underlying83 rfl (by kernel_rfl)) rfl ⟨.slice a2 i k2, rfl, hfin.1, hfin.2.1, fun k hk => hfin.2.2.1 k (by rw [HVI.out, ownBlock_len (m := bl) (c' := vc)]; exact hk), hfin.2.2.2⟩
  · have hc1 : ¬ (c : Int) = (i : Int) + 1 := by omega
    have HY : Hid (Yields w1 (.slice (some ⟨ga, (i + 1) * 3, none⟩) (fv.length - (i + 1)) (c - (i + 1))) (fv.length - (i + 1)) 3 (flCells (fv.drop (i + 1)))) := Lib.hid (by
      have := HAT1.out.yields rfl (i + 1) (fv.length - (i + 1)) (c - (i + 1)) (by omega)
      rw [List.take_of_length_le (by simp)] at this
      exact this)
    go_wp2_with (at_builtin; refine wpList_append_any _ rfl (.tmp 23) (.tmp 30) 78 rfl 0 83 iF (.agg #[.string ByteArray.empty, .slice none 0 0, .int .i64 0]) 3 48 Tryz.underlying78 hiF hiF0 hiF1 hiF2 rfl (by decide) _ i _ rfl HO1.out (.slice (some ⟨ga, (i + 1) * 3, none⟩) (fv.length - (i + 1)) (c - (i + 1))) rfl (fv.length - (i + 1)) (flCells (fv.drop (i + 1))) HY.out ?d2 ?d3 ?d4 ?_)
    case d2 => unfold maxLen; have := h4.out; omega
    case d3 => have := h4.out; omega
    case d4 => omega
    intro v2 w2 happ2
    obtain ⟨ho2, hg2, hw2⟩ := happ2
    obtain ⟨a2, k2, rfl⟩ := owned_slice ho2
    have hx4 : w2.heap[w.heap.size]? = _ := (hg2.block _ (by omega) (fun h => by have := HNO1.out _ h.symm; omega)).trans HX4.out
    have hx5 : w2.heap[w.heap.size + 1]? = _ := (hg2.block _ (by omega) (fun h => by have := HNO1.out _ h.symm; omega)).trans HX5.out
    have hxg : w2.heap[gd]? = w1.heap[gd]? := hg2.block gd (by omega) (fun h => by have := HNO1.out _ h.symm; omega)
    obtain ⟨m0, m1, m2, n0, n1, n2, nz⟩ := three_of hx4
    obtain ⟨p0, p1, p2, -, -, -, pz⟩ := three_of hx5
    have r1 : w2.cell? ⟨gd, 1, none⟩ = _ := (World.cell?_of_block (w := w1) (w' := w2) (a := ⟨gd, 1, none⟩) hxg).trans g1
    have s1 : w2.frozen? ⟨gd, 1, none⟩ = false := by rw [show w2.frozen? ⟨gd, 1, none⟩ = w1.frozen? ⟨gd, 1, none⟩ from by simp [World.frozen?, hxg]]; exact h1
    have gz2 : gd < w2.heap.size := by omega
    have HNO2 : Hid (∀ k, (Value.slice a2 (i + (fv.length - (i + 1))) k2).ownBlock = some k → w.heap.size < k ∧ k < w2.heap.size) := Lib.hid fun k hk => by
      have h1 := (ho2.lt k hk).2
      rcases hw2 with h | h
      · rw [h] at hk; have := HNO1.out k hk; omega
      · rw [hk] at h; cases h; omega
    have hs2 := hg2.size
    have HOLD2 : Hid (∀ k, k < w.heap.size → w2.heap[k]? = w.heap[k]?) := Lib.hid fun k hk => (hg2.block k (by omega) (fun h => by have := HNO1.out _ h.symm; omega)).trans (HOLD1.out k hk)
    have HGD2 : Hid (w2.heap[gd]? = w.heap[gd]?) := Lib.hid (HOLD2.out gd hz)
    have HT2 : Hid (w2.os = w.os ∧ w2.tape = w.tape ∧ w2.output = w.output) := Lib.hid ⟨hg2.os.trans HT1.out.1, hg2.tape.trans HT1.out.2.1, hg2.output.trans HT1.out.2.2⟩
    have HX42 := Lib.hid hx4
    have HX52 := Lib.hid hx5
    have HO2 := Lib.hid ho2
    have HG2 := Lib.hid hg2
    have HW2 := Lib.hid hw2
    clear hx4 hx5 hxg ho2 hg2 hw2
    go_wp2_with fail
    obtain ⟨wF, hwF⟩ : ∃ wF, wF = (((w2.setCell ⟨gd, 1, none⟩ (.slice a2 (i + (fv.length - (i + 1))) k2)).setCell ⟨w.heap.size, 0, none⟩ (.string nm)).setCell ⟨w.heap.size, 1, none⟩ (.slice va bl vc)).setCell ⟨w.heap.size, 2, none⟩ (.int .i64 (sf : Int)) := ⟨_, rfl⟩
    have hF4 : wF.heap[w.heap.size]? = some (.cells #[.string nm, .slice va bl vc, .int .i64 (sf : Int)] 83) := by
      have q0 := old_set (a := ⟨gd, 1, none⟩) (v := .slice a2 (i + (fv.length - (i + 1))) k2) HX42.out (by simp; omega)
      have q1 := heap_setCell_same _ _ 0 _ _ (.string nm) q0
      have q2 := heap_setCell_same _ _ 1 _ _ (.slice va bl vc) q1
      have q3 := heap_setCell_same _ _ 2 _ _ (.int .i64 (sf : Int)) q2
      rw [hwF, q3]; simp
    have hFg : wF.heap[gd]? = some (.cells #[.int .i64 d.room, .slice a2 (i + (fv.length - (i + 1))) k2, .bool d.ends, .int .i64 cc] 80) := by
      have q0 := heap_setCell_same _ _ 1 _ _ (.slice a2 (i + (fv.length - (i + 1))) k2) (HGD2.out.trans HBX.out)
      rw [hwF, Below.heap_setCell _ _ _ _ (by simp; omega), Below.heap_setCell _ _ _ _ (by simp; omega), Below.heap_setCell _ _ _ _ (by simp; omega), q0]; simp
    have hfin := take_done HAT.out HX.out hi HCC.out (w2 := w2) (wF := wF) (v2 := .slice a2 (i + (fv.length - (i + 1))) k2) (cc := cc) (by omega) HOLD2.out HT2.out (by
        rw [erase_parts, flCells_append, show (fv.take i ++ fv.drop (i + 1)).length = i + (fv.length - (i + 1)) from by simp; omega]; exact HO2.out) HNO2.out
      (fun k h1 h2 => by rw [hwF, Below.heap_setCell _ _ _ _ (by simpa using h2), Below.heap_setCell _ _ _ _ (by simpa using h2), Below.heap_setCell _ _ _ _ (by simpa using h2), Below.heap_setCell _ _ _ _ (by simpa using h1)]) hFg (by rw [hwF]; simp) (by rw [hwF]; exact ⟨rfl, rfl, rfl⟩)
    rw [← hwF]
    exact bodyPost_ret (v := .agg #[.string nm, .slice va bl vc, .int .i64 (sf : Int)]) (results_cell_row (P := Tryz.prog) Tryz.results49 _ _ w.heap.size 83 _ (0, 0) _ rfl hF4 Tryz.underlying83 rfl (by kernel_rfl)) rfl ⟨.slice a2 (i + (fv.length - (i + 1))) k2, rfl, hfin.1, hfin.2.1, fun k hk => hfin.2.2.1 k (by rw [HVI.out, ownBlock_len (m := bl) (c' := vc)]; exact hk), hfin.2.2.2⟩
end Go.Proofs.YtgakcaobalfpjaaGreatDoor.M

/- Part: DiskRef5. -/
namespace Go.Proofs.YtgakcaobalfpjaaGreatDoor.M
open Go.RowKit
open D (Fl Dk)

/-- The disk, behind the making of another list of files. -/
theorem relist_done {w w2 wF : World} {d : Dk} {X : Nat → Prop} {gd : Nat} {vl v2 : Value} {fv fv2 : List (Fl × Value)} {cc : Int} (hat : DkAt w X gd d vl fv) (hX : ∀ k, X k → k < w.heap.size)
    (hcc : d.ends = true → cc = (d.calls : Int)) (hsz : w.heap.size ≤ w2.heap.size) (hold : ∀ k, k < w.heap.size → w2.heap[k]? = w.heap[k]?) (hos : w2.os = w.os ∧ w2.tape = w.tape ∧ w2.output = w.output)
    (ho : w2.ownsRow 0 83 3 v2 fv2.length (flCells fv2)) (hno : ∀ k, v2.ownBlock = some k → w.heap.size ≤ k ∧ k < w2.heap.size)
    (hf2 : ∀ p ∈ fv2, w.ownsRow 0 5 1 p.2 p.1.b.length (p.1.b.map byteV) ∧ ∀ k, p.2.ownBlock = some k → X k ∧ k ≠ gd) (hnd : (fv2.flatMap fun p : Fl × Value => p.2.ownBlock.toList).Nodup)
    (hFo : ∀ k, k ≠ gd → wF.heap[k]? = w2.heap[k]?) (hFg : wF.heap[gd]? = some (.cells #[.int .i64 d.room, v2, .bool d.ends, .int .i64 cc] 80)) (hFs : wF.heap.size = w2.heap.size)
    (hFw : wF.os = w2.os ∧ wF.tape = w2.tape ∧ wF.output = w2.output) :
    Only (fun k => k = gd) w wF ∧ DkAt wF (More X w wF) gd { d with fs := fv2.map (·.1) } v2 fv2 := by
  have hgw := hX gd hat.own
  have hkeep : ∀ k, k < w.heap.size → k ≠ gd → wF.heap[k]? = w.heap[k]? := fun k hk hg => (hFo k hg).trans (hold k hk)
  refine ⟨⟨hFw.1.trans hos.1, hFw.2.1.trans hos.2.1, hFw.2.2.trans hos.2.2, by omega, fun k hk hn => hkeep k hk hn⟩, ⟨⟨cc, hFg, hcc⟩, rfl, ownsRow_same ho fun k hk => ?_, fun p hp => ?_, ?_, ?_⟩⟩
  · have := hno k hk
    exact hFo k (by omega)
  · exact ownsRow_same (hf2 p hp).1 fun k hk => by
      obtain ⟨h1, h2⟩ := (hf2 p hp).2 k hk
      exact hkeep k (hX k h1) h2
  · rw [blocksOf, List.cons_append, List.nodup_cons]
    refine ⟨fun hm => ?_, List.nodup_append.2 ⟨?_, hnd, fun x hx y hy e => ?_⟩⟩
    · rcases List.mem_append.1 hm with hm | hm
      · have := hno gd (by simpa using hm)
        omega
      · obtain ⟨p, hp, hk⟩ := List.mem_flatMap.1 hm
        exact ((hf2 p hp).2 gd (by simpa using hk)).2 rfl
    · cases v2.ownBlock <;> simp
    · have h1 := hno x (by simpa using hx)
      obtain ⟨p, hp, hk⟩ := List.mem_flatMap.1 hy
      have h2 := hX y ((hf2 p hp).2 y (by simpa using hk)).1
      omega
  · intro k hk
    rw [blocksOf, List.cons_append, List.mem_cons, List.mem_append, List.mem_flatMap] at hk
    rcases hk with rfl | hk | ⟨p, hp, hk⟩
    · exact .inl hat.own
    · have := hno k (by simpa using hk)
      exact .inr ⟨by omega, by omega⟩
    · exact .inl ((hf2 p hp).2 k (by simpa using hk)).1

/-- A row of files that a call makes, since the world w; behind w one block was made. -/
structure AddAt (w : World) (box : Obj) (n : Nat) (xs : List Value) (v : Value) (wr : World) : Prop where
  os : wr.os = w.os
  tape : wr.tape = w.tape
  output : wr.output = w.output
  size : w.heap.size + 1 ≤ wr.heap.size
  old : ∀ k, k < w.heap.size → wr.heap[k]? = w.heap[k]?
  bx : wr.heap[w.heap.size]? = some box
  row : wr.ownsRow 0 83 3 v n xs
  new : ∀ k, v.ownBlock = some k → w.heap.size + 1 ≤ k

theorem AddAt.app {w wr w' : World} {box : Obj} {n m : Nat} {xs news : List Value} {v v' : Value} (h : AddAt w box n xs v wr) (ha : AppLeft wr 0 83 3 v n m xs news v' w') : AddAt w box (n + m) (xs ++ news) v' w' := by
  obtain ⟨h1, h2, h3⟩ := ha
  have hs := h.size
  have hne : ∀ k, k < w.heap.size + 1 → v.ownBlock ≠ some k := fun k hk e => by have := h.new k e; omega
  refine ⟨h2.os.trans h.os, h2.tape.trans h.tape, h2.output.trans h.output, Nat.le_trans hs h2.size, fun k hk => (h2.block k (by omega) fun e => hne k (by omega) e.symm).trans (h.old k hk),
    (h2.block _ (by omega) fun e => hne _ (by omega) e.symm).trans h.bx, h1, fun k hk => ?_⟩
  rcases h3 with h3 | h3
  · exact h.new k (by rw [← h3]; exact hk)
  · rw [hk] at h3
    cases h3
    exact hs

theorem AddAt.alloc {w wr : World} {box : Obj} {n : Nat} {xs : List Value} {v : Value} (h : AddAt w box n xs v wr) (o : Obj) : AddAt w box n xs v (wr.alloc o) := by
  have hs := h.size
  exact ⟨h.os, h.tape, h.output, by simp; omega, fun k hk => by rw [Below.heap_alloc _ _ _ (by omega)]; exact h.old k hk, old_alloc h.bx, h.row.alloc o, h.new⟩

theorem wpList_add_append {w wr : World} {ops : Array Oper} {rest : List Oper} {o : Oper} {a : Act} {Q : Exit → Act → World → Prop} (hgd : o.guard = none) (s y : Operand)
    (ho : o.op = .call { callee := .builtin .append, args := #[s, y], argTypes := #[78, 78] })
    {box : Obj} {n m : Nat} {xs news : List Value} {v x : Value} (hs : a.eval s = v) (hown : AddAt w box n xs v wr) (hy : a.eval y = x) (hx : Yields wr x m 3 news) (hl : n + m ≤ 10000)
    (h : ∀ v' w', AddAt w box (n + m) (xs ++ news) v' w' → wpList Tryz.prog ops Q rest (a.put o.dst v') w') : wpList Tryz.prog ops Q (o :: rest) a wr := by
  obtain ⟨iF, hiF, hiF0, hiF1, hiF2⟩ := info_parts infoFile
  exact wpList_append_any wr hgd s y 78 ho 0 83 iF (.agg #[.string ByteArray.empty, .slice none 0 0, .int .i64 0]) 3 48 Tryz.underlying78 hiF hiF0 hiF1 hiF2 rfl (by decide) v n xs hs hown.row x hy m news hx
    (by unfold maxLen; omega) (by omega) (Nat.zero_le _) fun v' w' ha => h v' w' (hown.app ha)

theorem yields_none (w : World) : Yields w (.slice none 0 0) 0 3 [] := ⟨rfl, by simp, .inl ⟨rfl, rfl⟩⟩

theorem yields_bare (w : World) (a : Addr) (c : Nat) : Yields w (.slice (some a) 0 c) 0 3 [] := ⟨rfl, by simp, .inr ⟨a, c, rfl, by simp⟩⟩

theorem yields_new {w : World} {p : Fl × Value} {a : Option Addr} {n c g : Nat} (hp : p.2 = .slice a n c) (hg : g = w.heap.size) :
    Yields (w.alloc (.cells #[.string p.1.nm, .slice a n c, .int .i64 (p.1.safe : Int)] 83)) (.slice (some ⟨g, 0, none⟩) 1 1) 1 3 (flCells [p]) := by
  subst hg
  refine ⟨by simp [flCells, flV], ?_, .inr ⟨_, 1, rfl, fun j u hj => ?_⟩⟩
  · intro u hu
    simp only [flCells, flV, List.flatMap_cons, List.flatMap_nil, List.append_nil, List.mem_cons, List.not_mem_nil, or_false, hp] at hu
    rcases hu with rfl | rfl | rfl <;> rfl
  · have h := cell_of_row _ w.heap.size j _ _ _ (heap_alloc_new w (.cells #[.string p.1.nm, .slice a n c, .int .i64 (p.1.safe : Int)] 83))
    have e : ((⟨w.heap.size, 0, none⟩ : Addr).add j) = ⟨w.heap.size, j, none⟩ := by cases j <;> simp [Addr.add]
    rw [e, h]
    simpa [flCells, flV, hp] using hj

/-- The disk, behind the adding of a file. -/
theorem add_done {w w3 wF : World} {box : Obj} {d : Dk} {X : Nat → Prop} {gd k : Nat} {vl v3 v : Value} {fv : List (Fl × Value)} {f : Fl} {cc : Int} (hat : DkAt w X gd d vl fv) (hX : ∀ k, X k → k < w.heap.size) (hcc : d.ends = true → cc = (d.calls : Int))
    (hk : k = D.place d.fs f.nm) (hA : AddAt w box (fv.take k ++ (f, v) :: fv.drop k).length (flCells (fv.take k ++ (f, v) :: fv.drop k)) v3 w3)
    (hfo : w.ownsRow 0 5 1 v f.b.length (f.b.map byteV)) (hfb : ∀ k, v.ownBlock = some k → X k ∧ k ∉ blocksOf gd vl fv)
    (hF : wF = w3.setCell ⟨gd, 1, none⟩ v3) (hb : w.heap[gd]? = some (.cells #[.int .i64 d.room, vl, .bool d.ends, .int .i64 cc] 80)) :
    Only (fun k => k = gd) w wF ∧ Dsk wF (More X w wF) gd { d with fs := D.add d.fs f } := by
  have hgw := hX gd hat.own
  have hap := hat.apart
  have hsub : ∀ p ∈ fv.take k ++ (f, v) :: fv.drop k, p ∈ fv ∨ p = (f, v) := fun p hp => by
    rcases List.mem_append.1 hp with h | h
    · exact .inl (List.mem_of_mem_take h)
    · rcases List.mem_cons.1 h with h | h
      · exact .inr h
      · exact .inl (List.mem_of_mem_drop h)
  have hvn : ∀ k, v.ownBlock = some k → k ≠ gd ∧ k ∉ fv.flatMap fun p : Fl × Value => p.2.ownBlock.toList := fun j hj => by
    have := (hfb j hj).2
    rw [blocksOf, List.cons_append, List.mem_cons, List.mem_append, not_or, not_or] at this
    exact ⟨this.1, this.2.2⟩
  have hnd : ((fv.take k ++ (f, v) :: fv.drop k).flatMap fun p : Fl × Value => p.2.ownBlock.toList).Nodup := by
    have h1 : (fv.flatMap fun p : Fl × Value => p.2.ownBlock.toList).Nodup := by
      rw [blocksOf] at hap
      exact (List.nodup_append.1 hap).2.1
    rw [← List.take_append_drop k fv, List.flatMap_append] at h1
    have hv : ∀ x, x ∈ v.ownBlock.toList → x ∉ (fv.take k).flatMap (fun p : Fl × Value => p.2.ownBlock.toList) ∧ x ∉ (fv.drop k).flatMap (fun p : Fl × Value => p.2.ownBlock.toList) := fun x hx => by
      have := (hvn x (by simpa using hx)).2
      rw [← List.take_append_drop k fv, List.flatMap_append, List.mem_append, not_or] at this
      exact this
    obtain ⟨a1, a2, a3⟩ := List.nodup_append.1 h1
    rw [List.flatMap_append, List.flatMap_cons]
    refine List.nodup_append.2 ⟨a1, List.nodup_append.2 ⟨?_, a2, fun x hx y hy e => ?_⟩, fun x hx y hy e => ?_⟩
    · cases v.ownBlock <;> simp
    · subst e; exact (hv x hx).2 hy
    · subst e
      rcases List.mem_append.1 hy with hy | hy
      · exact (hv x hy).1 hx
      · exact a3 x hx x hy rfl
  have hb3 : w3.heap[gd]? = some (.cells #[.int .i64 d.room, vl, .bool d.ends, .int .i64 cc] 80) := (hA.old gd hgw).trans hb
  have h := relist_done (w2 := w3) (wF := wF) (v2 := v3) (fv2 := fv.take k ++ (f, v) :: fv.drop k) (cc := cc) hat hX hcc (by have := hA.size; omega) hA.old ⟨hA.os, hA.tape, hA.output⟩ hA.row
    (fun j hj => ⟨by have := hA.new j hj; omega, (hA.row.lt j hj).2⟩)
    (fun p hp => by
      rcases hsub p hp with h | rfl
      · refine ⟨hat.each p h, fun j hj => ⟨hat.foot j (mem_blocks_file h hj), fun e => ?_⟩⟩
        rw [blocksOf, List.cons_append, List.nodup_cons] at hap
        apply hap.1
        rw [← e, List.mem_append, List.mem_flatMap]
        exact .inr ⟨p, h, by simp [hj]⟩
      · exact ⟨hfo, fun j hj => ⟨(hfb j hj).1, (hvn j hj).1⟩⟩)
    hnd (fun j hj => by rw [hF, Below.heap_setCell _ _ _ _ (by simpa using hj)]) (by rw [hF, heap_setCell_same _ _ _ _ _ _ hb3]; simp) (by rw [hF]; simp) (by rw [hF]; exact ⟨rfl, rfl, rfl⟩)
  refine ⟨h.1, v3, fv.take k ++ (f, v) :: fv.drop k, ?_⟩
  have e : (fv.take k ++ (f, v) :: fv.drop k).map (·.1) = D.add d.fs f := by
    unfold D.add
    rw [← hk, List.map_append, List.map_cons, List.map_take, List.map_drop, hat.fs]
  rw [← e]
  exact h.2

set_option maxRecDepth 20000 in
set_option maxHeartbeats 3200000 in
theorem RefAdd_any (d : Dk) (X : Nat → Prop) (gd : Nat) (vl : Value) (fv : List (Fl × Value)) (f : Fl) (fa : Option Addr) (fc : Nat) (w : World) (hat : DkAt w X gd d vl fv) (hX : ∀ k, X k → k < w.heap.size) (h4 : Hid (fv.length ≤ 4096))
    (hfo : w.ownsRow 0 5 1 (.slice fa f.b.length fc) f.b.length (f.b.map byteV)) (hfb : ∀ k, (Value.slice fa f.b.length fc).ownBlock = some k → X k ∧ k ∉ blocksOf gd vl fv) :
    Calls Tryz.prog 56 #[.pointer (some ⟨gd, 0, none⟩), .agg #[.string f.nm, .slice fa f.b.length fc, .int .i64 (f.safe : Int)]] w fun e w' => e = .returned (.tuple #[]) ∧ Only (fun k => k = gd) w w' ∧
      Dsk w' (More X w w') gd { d with fs := D.add d.fs f } := by
  obtain ⟨cc, ⟨-, c1, -, -⟩, ⟨-, f1, -, -⟩, hz, hbox, hcc⟩ := hat.cells
  obtain ⟨la, lc, rfl⟩ := owned_slice hat.row
  have HBX := Lib.hid hbox
  have HAT := Lib.hid hat
  have HCC := Lib.hid hcc
  have HX := Lib.hid hX
  have HFO := Lib.hid hfo
  have HFB := Lib.hid hfb
  have HLN := Lib.hid hat.len.2
  have hfl : (fv.length : Int) ≤ 4096 := by have := h4.out; omega
  obtain ⟨iF, hiF, hiF0, hiF1, hiF2⟩ := info_parts infoFile
  clear hat hbox hcc hX hfo hfb
  have HW0 : Hid (Below (w.heap.size + 1) (w.alloc (.cells #[.string f.nm, .slice fa f.b.length fc, .int .i64 (f.safe : Int)] 83)) (w.alloc (.cells #[.string f.nm, .slice fa f.b.length fc, .int .i64 (f.safe : Int)] 83))) := Lib.hid (Below.refl _ _)
  go_enter Tryz.func56, Tryz.ntmps56
  go_wp2_with fail
  go_loopw [4] (fun i wr => ∃ k : Nat, i = .int .i64 (k : Int) ∧ k ≤ fv.length ∧ Hid (k ≤ D.place d.fs f.nm) ∧ Hid (Below (w.heap.size + 1) (w.alloc (.cells #[.string f.nm, .slice fa f.b.length fc, .int .i64 (f.safe : Int)] 83)) wr ∧ wr.heap.size = w.heap.size + 1)) (fun i _ => fv.length - (intOf i).toNat)
  case atStart => exact ⟨0, rfl, Nat.zero_le _, Lib.hid (Nat.zero_le _), Lib.hid ⟨HW0.out, by simp⟩⟩
  case round =>
    obtain ⟨k, rfl, hk, HP, HB⟩ := hrel
    have hb := HB.out.1
    have hbs := HB.out.2
    have hold : ∀ j, j < w.heap.size → wr.heap[j]? = w.heap[j]? := fun j hj => by
      rw [hb.block j (by omega), Below.heap_alloc _ _ _ hj]
    have hbox : wr.heap[w.heap.size]? = some (.cells #[.string f.nm, .slice fa f.b.length fc, .int .i64 (f.safe : Int)] 83) := (hb.block _ (by omega)).trans (heap_new _ _ _ rfl)
    obtain ⟨-, ⟨-, g1, -, -⟩, ⟨-, h1, -, -⟩, hz1, -⟩ := (HAT.out.same (w' := wr) (Y := X) (fun _ h => h) fun j hj => hold j (HX.out j hj)).cells
    have HATr : Hid _ := Lib.hid (HAT.out.same (w' := wr) (Y := X) (fun _ h => h) fun j hj => hold j (HX.out j hj))
    obtain ⟨b0, b1, b2, -, -, -, bz⟩ := three_of hbox
    have HST : Hid (∀ n, AddAt w (.cells #[.string f.nm, .slice fa f.b.length fc, .int .i64 (f.safe : Int)] 83) 0 [] (.slice none 0 0) (wr.drewN n)) := Lib.hid fun n =>
      ⟨hb.os, hb.tape, hb.output, by show _ ≤ wr.heap.size; omega, hold, hbox, World.ownsRow_nil _ _ _ _, fun j hj => by simp [Value.ownBlock] at hj⟩
    have HOLD := Lib.hid hold
    clear hb hold hbox
    by_cases hlt : k < fv.length
    · have hkk : (k : Int) < (fv.length : Int) := by omega
      obtain ⟨ga, c, hv, hXa, -, hgz, hnc, hcm, e0, -, -, -⟩ := HATr.out.file k hlt
      cases hv
      have hkd : k < d.fs.length := by have := HLN.out; omega
      have hgt := HAT.out.get k hlt hkd
      obtain ⟨nm, hnm⟩ : ∃ nm, nm = fv[k].1.nm := ⟨_, rfl⟩
      rw [← hnm] at e0
      have HNM : Hid (nm = d.fs[k].nm) := Lib.hid (by rw [hnm, hgt])
      clear hgt hnm
      by_cases hless : Op.bytesLess nm.toList f.nm.toList = true
      · have HN : Hid (k + 1 ≤ D.place d.fs f.nm) := Lib.hid (D.idx_next _ d.fs k hkd HP.out (by rw [← HNM.out, hless]; rfl))
        go_wp2_with fail
        go_quiet (fail)
        go_wp2_with fail
        go_roundw
        case rel => exact ⟨k + 1, by go_num, by omega, HN, Lib.hid ⟨⟨HB.out.1.os, HB.out.1.tape, HB.out.1.output, HB.out.1.size, HB.out.1.block⟩, HB.out.2⟩⟩
        case measure => simp [intOf]; omega
      · have hless : Op.bytesLess nm.toList f.nm.toList = false := by simpa using hless
        have HKP : Hid (k = D.place d.fs f.nm) := Lib.hid (D.idx_hit _ d.fs k hkd HP.out (by rw [← HNM.out, hless]; rfl)).symm
        have HY1 : Hid (∀ n, Yields (wr.drewN n) (.slice (some ⟨ga, 0, none⟩) k lc) k 3 (flCells (fv.take k))) := Lib.hid fun n => by
          have := (HATr.out.same (w' := wr.drewN n) (Y := X) (fun _ h => h) fun _ _ => rfl).yields rfl 0 k lc (by omega)
          simpa using this
        have hlc : (k : Int) ≤ (lc : Int) := by omega
        by_cases hcap : lc = k
        · exact absurd hcap (by omega)
        · have hcc1 : ¬ (lc : Int) = (k : Int) := by omega
          go_wp2_with fail
          go_quiet (fail)
          go_wp2_with (at_builtin; refine wpList_add_append rfl (.tmp 28) (.tmp 34) rfl rfl (HST.out _) rfl (HY1.out _) (by omega) ?_)
          intro v1 w1 hA1
          obtain ⟨a1, k1, rfl⟩ := owned_slice hA1.row
          obtain ⟨s0, s1, s2, -, -, -, sz⟩ := three_of hA1.bx
          have HA1 := Lib.hid hA1
          clear hA1
          go_wp2_with (at_builtin; refine wpList_add_append rfl (.tmp 36) (.tmp 38) rfl rfl (HA1.out.alloc _) rfl (yields_new (p := (f, .slice fa f.b.length fc)) rfl rfl) (by omega) ?_)
          intro v2 w2 hA2
          obtain ⟨a2, k2, rfl⟩ := owned_slice hA2.row
          obtain ⟨-, ⟨-, j1, -, -⟩, -, jz, -⟩ := (HAT.out.same (w' := w2) (Y := X) (fun _ h => h) fun j hj => hA2.old j (HX.out j hj)).cells
          have HY2 : Hid (Yields w2 (.slice (some ⟨ga, k * 3, none⟩) (fv.length - k) (lc - k)) (fv.length - k) 3 (flCells (fv.drop k))) := Lib.hid (by
            have := (HAT.out.same (w' := w2) (Y := X) (fun _ h => h) fun j hj => hA2.old j (HX.out j hj)).yields rfl k (fv.length - k) (lc - k) (by omega)
            rw [List.take_of_length_le (by simp)] at this
            exact this)
          have HA2 := Lib.hid hA2
          clear hA2
          go_wp2_with (at_builtin; refine wpList_add_append rfl (.tmp 41) (.tmp 47) rfl rfl HA2.out rfl HY2.out (by omega) ?_)
          intro v3 w3 hA3
          obtain ⟨a3, k3, rfl⟩ := owned_slice hA3.row
          obtain ⟨-, ⟨-, l1, -, -⟩, ⟨-, m1, -, -⟩, lz, -⟩ := (HAT.out.same (w' := w3) (Y := X) (fun _ h => h) fun j hj => hA3.old j (HX.out j hj)).cells
          have HA3 := Lib.hid hA3
          clear hA3
          go_wp2_with fail
          go_end0
          have hfin := add_done (v3 := _) (v := .slice fa f.b.length fc) (wF := _) HAT.out HX.out HCC.out HKP.out (by
            have hA := HA3.out
            rw [show fv.take k ++ (f, Value.slice fa f.b.length fc) :: fv.drop k = fv.take k ++ [(f, Value.slice fa f.b.length fc)] ++ fv.drop k from by simp, flCells_append, flCells_append]
            rw [show (fv.take k ++ [(f, Value.slice fa f.b.length fc)] ++ fv.drop k).length = k + 1 + (fv.length - k) from by simp; omega]
            simpa only [List.append_assoc] using hA) HFO.out HFB.out rfl HBX.out
          exact ⟨rfl, hfin.1, hfin.2⟩
    · have hkk : ¬ (k : Int) < (fv.length : Int) := by omega
      obtain rfl : k = fv.length := by omega
      have HKP : Hid (fv.length = D.place d.fs f.nm) := Lib.hid (by
        have := HP.out
        have h2 : D.place d.fs f.nm ≤ d.fs.length := List.findIdx_le_length
        have := HLN.out
        omega)
      clear hlt
      cases la with
      | none =>
        have h0 : fv.length = 0 := by
          rcases HAT.out.row.2 with ⟨_, h⟩ | ⟨g, cap, cur, h, _⟩
          · exact h
          · cases h
        have hlc0 : lc = 0 := by
          rcases HAT.out.row.2 with ⟨h, _⟩ | ⟨g, cap, cur, h, _⟩
          · simp only [Value.slice.injEq] at h; exact h.2.2
          · cases h
        subst hlc0
        have hfe : fv = [] := List.eq_nil_of_length_eq_zero h0
        subst hfe
        have HY1 : Hid (∀ n, Yields (wr.drewN n) (.slice none 0 0) 0 3 []) := Lib.hid fun n => yields_none _
        go_wp2_with fail
        go_quiet (fail)
        go_wp2_with (at_builtin; refine wpList_add_append rfl (.tmp 28) (.tmp 34) rfl rfl (HST.out _) rfl (HY1.out _) (by omega) ?_)
        intro v1 w1 hA1
        obtain ⟨a1, k1, rfl⟩ := owned_slice hA1.row
        obtain ⟨s0, s1, s2, -, -, -, sz⟩ := three_of hA1.bx
        have HA1 := Lib.hid hA1
        clear hA1
        go_wp2_with (at_builtin; refine wpList_add_append rfl (.tmp 36) (.tmp 38) rfl rfl (HA1.out.alloc _) rfl (yields_new (p := (f, .slice fa f.b.length fc)) rfl rfl) (by omega) ?_)
        intro v2 w2 hA2
        obtain ⟨a2, k2, rfl⟩ := owned_slice hA2.row
        obtain ⟨-, ⟨-, j1, -, -⟩, -, jz, -⟩ := (HAT.out.same (w' := w2) (Y := X) (fun _ h => h) fun j hj => hA2.old j (HX.out j hj)).cells
        have HY2 : Hid (Yields w2 (.slice none 0 0) 0 3 []) := Lib.hid (yields_none _)
        have HA2 := Lib.hid hA2
        clear hA2
        go_wp2_with (at_builtin; refine wpList_add_append rfl (.tmp 41) (.tmp 47) rfl rfl HA2.out rfl HY2.out (by omega) ?_)
        intro v3 w3 hA3
        obtain ⟨a3, k3, rfl⟩ := owned_slice hA3.row
        obtain ⟨-, ⟨-, l1, -, -⟩, ⟨-, m1, -, -⟩, lz, -⟩ := (HAT.out.same (w' := w3) (Y := X) (fun _ h => h) fun j hj => hA3.old j (HX.out j hj)).cells
        have HA3 := Lib.hid hA3
        clear hA3
        go_wp2_with fail
        go_end0
        have hfin := add_done (v3 := _) (v := .slice fa f.b.length fc) (wF := _) HAT.out HX.out HCC.out HKP.out (by
          have hA := HA3.out
          skip
          exact hA) HFO.out HFB.out rfl HBX.out
        exact ⟨rfl, hfin.1, hfin.2⟩
      | some la =>
        obtain ⟨ga, hga, hnl⟩ : ∃ ga, la = ⟨ga, 0, none⟩ ∧ fv.length ≤ lc := by
          rcases HAT.out.row.2 with ⟨h, _⟩ | ⟨g, cap, cur, h, _, _, hn, _⟩
          · cases h
          · cases h; exact ⟨g, rfl, hn⟩
        subst hga
        have HY1 : Hid (∀ n, Yields (wr.drewN n) (.slice (some ⟨ga, 0, none⟩) fv.length lc) fv.length 3 (flCells (fv.take fv.length))) := Lib.hid fun n => by
          have := (HATr.out.same (w' := wr.drewN n) (Y := X) (fun _ h => h) fun _ _ => rfl).yields rfl 0 fv.length lc (by omega)
          rw [Nat.zero_mul, List.drop_zero] at this
          exact this
        by_cases hcap : lc = fv.length
        · subst hcap
          go_wp2_with fail
          go_quiet (fail)
          go_wp2_with (at_builtin; refine wpList_add_append rfl (.tmp 28) (.tmp 34) rfl rfl (HST.out _) rfl (HY1.out _) (by omega) ?_)
          intro v1 w1 hA1
          obtain ⟨a1, k1, rfl⟩ := owned_slice hA1.row
          obtain ⟨s0, s1, s2, -, -, -, sz⟩ := three_of hA1.bx
          have HA1 := Lib.hid hA1
          clear hA1
          go_wp2_with (at_builtin; refine wpList_add_append rfl (.tmp 36) (.tmp 38) rfl rfl (HA1.out.alloc _) rfl (yields_new (p := (f, .slice fa f.b.length fc)) rfl rfl) (by omega) ?_)
          intro v2 w2 hA2
          obtain ⟨a2, k2, rfl⟩ := owned_slice hA2.row
          obtain ⟨-, ⟨-, j1, -, -⟩, -, jz, -⟩ := (HAT.out.same (w' := w2) (Y := X) (fun _ h => h) fun j hj => hA2.old j (HX.out j hj)).cells
          have HY2 : Hid (Yields w2 (.slice (some ⟨ga, 0, none⟩) 0 0) 0 3 []) := Lib.hid (yields_bare _ _ _)
          have HA2 := Lib.hid hA2
          clear hA2
          go_wp2_with (at_builtin; refine wpList_add_append rfl (.tmp 41) (.tmp 47) rfl rfl HA2.out rfl HY2.out (by omega) ?_)
          intro v3 w3 hA3
          obtain ⟨a3, k3, rfl⟩ := owned_slice hA3.row
          obtain ⟨-, ⟨-, l1, -, -⟩, ⟨-, m1, -, -⟩, lz, -⟩ := (HAT.out.same (w' := w3) (Y := X) (fun _ h => h) fun j hj => hA3.old j (HX.out j hj)).cells
          have HA3 := Lib.hid hA3
          clear hA3
          go_wp2_with fail
          go_end0
          have hfin := add_done (v3 := _) (v := .slice fa f.b.length fc) (wF := _) HAT.out HX.out HCC.out HKP.out (by
            have hA := HA3.out
            rw [show fv.drop fv.length = [] from List.drop_length, show fv.take fv.length = fv from List.take_length, show fv ++ (f, Value.slice fa f.b.length fc) :: [] = fv ++ [(f, Value.slice fa f.b.length fc)] from rfl, flCells_append, show (fv ++ [(f, Value.slice fa f.b.length fc)]).length = fv.length + 1 from by simp]
            simpa only [List.append_assoc] using hA) HFO.out HFB.out rfl HBX.out
          exact ⟨rfl, hfin.1, hfin.2⟩
        · have hcc1 : ¬ (lc : Int) = (fv.length : Int) := by omega
          go_wp2_with fail
          go_quiet (fail)
          go_wp2_with (at_builtin; refine wpList_add_append rfl (.tmp 28) (.tmp 34) rfl rfl (HST.out _) rfl (HY1.out _) (by omega) ?_)
          intro v1 w1 hA1
          obtain ⟨a1, k1, rfl⟩ := owned_slice hA1.row
          obtain ⟨s0, s1, s2, -, -, -, sz⟩ := three_of hA1.bx
          have HA1 := Lib.hid hA1
          clear hA1
          go_wp2_with (at_builtin; refine wpList_add_append rfl (.tmp 36) (.tmp 38) rfl rfl (HA1.out.alloc _) rfl (yields_new (p := (f, .slice fa f.b.length fc)) rfl rfl) (by omega) ?_)
          intro v2 w2 hA2
          obtain ⟨a2, k2, rfl⟩ := owned_slice hA2.row
          obtain ⟨-, ⟨-, j1, -, -⟩, -, jz, -⟩ := (HAT.out.same (w' := w2) (Y := X) (fun _ h => h) fun j hj => hA2.old j (HX.out j hj)).cells
          have HY2 : Hid (Yields w2 (.slice (some ⟨ga, fv.length * 3, none⟩) 0 (lc - fv.length)) 0 3 []) := Lib.hid (yields_bare _ _ _)
          have HA2 := Lib.hid hA2
          clear hA2
          go_wp2_with (at_builtin; refine wpList_add_append rfl (.tmp 41) (.tmp 47) rfl rfl HA2.out rfl HY2.out (by omega) ?_)
          intro v3 w3 hA3
          obtain ⟨a3, k3, rfl⟩ := owned_slice hA3.row
          obtain ⟨-, ⟨-, l1, -, -⟩, ⟨-, m1, -, -⟩, lz, -⟩ := (HAT.out.same (w' := w3) (Y := X) (fun _ h => h) fun j hj => hA3.old j (HX.out j hj)).cells
          have HA3 := Lib.hid hA3
          clear hA3
          go_wp2_with fail
          go_end0
          have hfin := add_done (v3 := _) (v := .slice fa f.b.length fc) (wF := _) HAT.out HX.out HCC.out HKP.out (by
            have hA := HA3.out
            rw [show fv.drop fv.length = [] from List.drop_length, show fv.take fv.length = fv from List.take_length, show fv ++ (f, Value.slice fa f.b.length fc) :: [] = fv ++ [(f, Value.slice fa f.b.length fc)] from rfl, flCells_append, show (fv ++ [(f, Value.slice fa f.b.length fc)]).length = fv.length + 1 from by simp]
            simpa only [List.append_assoc] using hA) HFO.out HFB.out rfl HBX.out
          exact ⟨rfl, hfin.1, hfin.2⟩
end Go.Proofs.YtgakcaobalfpjaaGreatDoor.M

/- Part: DiskRef6. -/
namespace Go.Proofs.YtgakcaobalfpjaaGreatDoor.M
open Go.RowKit
open D (Fl Dk)

theorem tick_fs (d : Dk) : d.tick.fs = d.fs := by unfold D.Dk.tick; split <;> rfl

theorem tick_room (d : Dk) : d.tick.room = d.room := by unfold D.Dk.tick; split <;> rfl

theorem tick_calls (d : Dk) : d.tick.calls ≤ d.calls := by
  unfold D.Dk.tick
  split
  · exact Nat.sub_le _ _
  · exact Nat.le_refl _

/-- What a call of the disk leaves. -/
def CallPost (w : World) (X : Nat → Prop) (gd : Nat) (r : Int × Dk) (e : Ending) (w' : World) : Prop :=
  e = .returned (.int .i64 r.1) ∧ Only X w w' ∧ Dsk w' (More X w w') gd r.2

theorem Dsk.up {w w' : World} {X : Nat → Prop} {gd : Nat} {d : Dk} (h : Dsk w' X gd d) : Dsk w' (More X w w') gd d := h.same (fun _ hk => .inl hk) fun _ _ => rfl

theorem findR_neg {fs : List Fl} {s : ByteArray} (h : D.isThere fs s = false) : D.findR fs s = -1 := by
  unfold D.isThere at h
  unfold D.findR
  rw [if_neg (by simpa using h)]

theorem findR_pos {fs : List Fl} {s : ByteArray} (h : D.isThere fs s = true) : D.findR fs s = (D.find fs s : Int) ∧ D.find fs s < fs.length := by
  unfold D.isThere at h
  unfold D.findR
  have h' : D.find fs s < fs.length := by simpa using h
  exact ⟨by rw [if_pos h'], h'⟩

theorem rename_32 {d : Dk} {a b : ByteArray} (h : d.stopped = true) : D.rename d a b = (32, d) := by unfold D.rename; rw [if_pos h]

theorem rename_30 {d : Dk} {a b : ByteArray} (h : d.stopped = false) (hn : D.isThere d.fs a = false ∨ D.okName b = false) : D.rename d a b = (30, d.tick) := by
  unfold D.rename
  rw [if_neg (by rw [h]; simp)]
  simp only [tick_fs]
  rw [if_pos hn]

theorem rename_0 {d : Dk} {a b : ByteArray} (h : d.stopped = false) (ha : D.isThere d.fs a = true) (hb : D.okName b = true) (hi : D.find d.fs a < d.fs.length) :
    D.rename d a b = (0, { d.tick with fs := D.add ((d.fs.eraseIdx (D.find d.fs a)).eraseIdx (D.find (d.fs.eraseIdx (D.find d.fs a)) b)) { d.fs[D.find d.fs a] with nm := b } }) := by
  unfold D.rename
  rw [if_neg (by rw [h]; simp)]
  simp only [tick_fs]
  rw [if_neg (by rw [ha, hb]; simp), List.getElem?_eq_getElem hi]

theorem stopped_tick {d : Dk} (hst : d.stopped = true) : d.tick = d := by
  unfold D.Dk.tick
  unfold D.Dk.stopped at hst
  simp only [Bool.and_eq_true, beq_iff_eq] at hst
  rw [if_neg (by simp [hst.2])]

end Go.Proofs.YtgakcaobalfpjaaGreatDoor.M

/- Part: ProjG. -/
namespace Go.Proofs.YtgakcaobalfpjaaGreatDoor.M
open Go.RowKit Go.Maps
open D (Fl Dk)

theorem rest_stopped {d : Dk} (h : d.stopped = true) : restOf d = 0 := by
  unfold D.Dk.stopped at h
  simp only [Bool.and_eq_true, beq_iff_eq] at h
  unfold restOf
  rw [if_pos h.1, h.2]; rfl

theorem rest_not {d : Dk} (h : d.stopped = false) : (restOf d = -1 ∧ d.tick = d) ∨ (0 < restOf d ∧ restOf d ≠ -1 ∧ restOf d = (d.calls : Int) ∧ restOf d.tick = restOf d - 1) := by
  unfold D.Dk.stopped at h
  unfold restOf D.Dk.tick
  cases he : d.ends with
  | false => left; simp
  | true =>
    rw [he] at h
    simp at h
    right
    simp only [if_true, h, not_false_eq_true, and_self, ne_eq, true_and, if_true]
    refine ⟨by omega, by omega, by omega⟩

theorem PDAt.tick {w : World} {X : Nat → Prop} {gd gm : Nat} {d : Dk} {M : DataW Nat} {E : ByteArray → Nat × Value} (h : PDAt w X gd d d.free gm M E) (ht : d.tick = d) : PDAt w X gd d.tick d.tick.free gm M E := by rw [ht]; exact h

/-- A world behind 'work' has lowered the rest. -/
theorem PDsk.ticked {w : World} {X : Nat → Prop} {gd : Nat} {d : Dk} (h : PDsk w X gd d) {r : Int} (hr : r = restOf d.tick) {w' : World} (hw : w' = w.setCell ⟨gd, 1, none⟩ (.int .i64 r)) : Only X w w' ∧ w'.heap.size = w.heap.size ∧ PDsk w' X gd d.tick := by
  subst hw hr
  obtain ⟨gm, M, E, h⟩ := h
  have hb := heap_setCell_same _ _ 1 _ _ (.int .i64 (restOf d.tick)) h.box
  refine ⟨(Only.refl X w).set (.inl h.foot.1) _, by simp, gm, M, E, h.ticked (tick_fs d) ?_ fun k hk => Below.heap_setCell _ _ _ _ (by simpa using hk)⟩
  rw [hb]
  simp [D.Dk.free, tick_room, tick_fs]

theorem PPost.after {w w1 w' : World} {X : Nat → Prop} {gd : Nat} {r : Int × Dk} {e : Ending} (h1 : Only X w w1) (hs : w1.heap.size = w.heap.size) (h : PPost w1 X gd r e w') : PPost w X gd r e w' := by
  obtain ⟨a, b, c⟩ := h
  refine ⟨a, h1.trans (b.mono fun k hk => .inl hk), c.same (fun k hk => ?_) fun _ _ => rfl⟩
  rcases hk with hk | hk
  · exact .inl hk
  · exact .inr ⟨by omega, hk.2⟩

set_option maxRecDepth 20000 in
set_option maxHeartbeats 1600000 in
/-- One of the calls that change a disk: the closure's contract is asked of the disk behind the count. -/
theorem Work_any (n : Nat) (caps : Array Value) (he : ∀ (args : Array Value) (w : World), (callFunc n args).run Tryz.prog w = .ok (.enter n args) w) (d : Dk) (X : Nat → Prop) (gd : Nat) (r : Int × Dk) (w : World) (hd : PDsk w X gd d) (hc : d.calls ≤ 9223372036854775807)
    (hdo : ∀ w1, Only X w w1 → w1.heap.size = w.heap.size → PDsk w1 X gd d.tick → d.stopped = false → Calls Tryz.prog n caps w1 (PPost w1 X gd r)) :
    Calls Tryz.prog 42 #[.pointer (some ⟨gd, 0, none⟩), .func (.func n) #[] caps] w (PPost w X gd (if d.stopped then (32, d) else r)) := by
  have HD := Lib.hid hd
  have HDO := Lib.hid hdo
  obtain ⟨gm, M, E, hat⟩ := hd
  obtain ⟨⟨-, c1, -⟩, ⟨-, f1, -⟩, hz⟩ := hat.cells
  have HAT := Lib.hid hat
  clear hat hdo
  cases hst : d.stopped with
  | true =>
    rw [rest_stopped hst] at c1
    have HST := Lib.hid hst
    clear hst
    go_enter Tryz.func42, Tryz.ntmps42
    go_wp2_with fail
    go_ret
    exact ⟨rfl, Only.refl _ _, HD.out.up⟩
  | false =>
    rcases rest_not hst with ⟨h1, h2⟩ | ⟨h1, h2, h3, h4⟩
    · rw [h1] at c1
      have HC : Hid (Calls Tryz.prog n caps w (PPost w X gd r)) := Lib.hid (HDO.out w (Only.refl _ _) rfl (by rw [h2]; exact HD.out) hst)
      clear h1 h2 hst
      go_enter Tryz.func42, Tryz.ntmps42
      go_wp2_with fail
      refine HC.out.mono ?_
      rintro e w' ⟨rfl, ho, hd2⟩
      have HO := Lib.hid ho
      have HD2 := Lib.hid hd2
      clear ho hd2
      go_wp2_with fail
      go_ret
      exact ⟨rfl, HO.out, HD2.out⟩
    · obtain ⟨x, hx⟩ : ∃ x, x = restOf d := ⟨_, rfl⟩
      rw [← hx] at c1 h1 h2 h3 h4
      have q1 : x ≤ 9223372036854775807 := by omega
      have q2 : (x == 0) = false := by simp; omega
      have q3 : (x == -1) = false := by simp; omega
      have HC : Hid (∀ w1, w1 = w.setCell ⟨gd, 1, none⟩ (.int .i64 (x - 1)) → Only X w w1 ∧ w1.heap.size = w.heap.size ∧ Calls Tryz.prog n caps w1 (PPost w1 X gd r)) := Lib.hid fun w1 hw => by
        obtain ⟨a1, a2, a3⟩ := HD.out.ticked h4.symm hw
        exact ⟨a1, a2, HDO.out w1 a1 a2 a3 hst⟩
      have q4 : 0 < x := h1
      clear h2 h3 h4 hst hx h1
      go_enter Tryz.func42, Tryz.ntmps42
      go_wp2_with fail
      obtain ⟨a1, a2, a3⟩ := HC.out _ rfl
      refine a3.mono ?_
      rintro e w' hp
      have HP := Lib.hid (hp.after a1 a2)
      obtain ⟨rfl, -, -⟩ := hp
      clear a1 a2 a3
      go_wp2_with fail
      go_ret
      exact HP.out
end Go.Proofs.YtgakcaobalfpjaaGreatDoor.M

/- Part: ProjI. -/
namespace Go.Proofs.YtgakcaobalfpjaaGreatDoor.M
open Go.RowKit Go.Maps
open D (Fl Dk)

theorem Only.drewN (X : Nat → Prop) (w : World) (n : Nat) : Only X w (w.drewN n) := ⟨rfl, rfl, rfl, Nat.le_refl _, fun _ _ _ => rfl⟩

theorem used_layAt (fs : List Fl) (i : Nat) (l : List UInt8) (hi : i < fs.length) : D.used (D.layAt fs i l) = D.used fs + l.length := by
  have h := D.used_modify fs i (fun f => { f with b := f.b ++ l }) hi
  unfold D.layAt
  simp only [List.length_append] at h
  omega

theorem Only.then {X : Nat → Prop} {w w1 w2 : World} (h : Only X w w1) (g : Only X w1 w2) : Only X w w2 := h.trans (g.mono fun _ hk => .inl hk)

/-- Bytes laid behind a file's, and the disk's free bytes less. -/
theorem lay_done {W W2 W3 : World} {Y : Nat → Prop} {gd gm : Nat} {d : Dk} {fr left : Int} {M : DataW Nat} {E : ByteArray → Nat × Value} {f : Fl} {bs : List (List UInt8)} (h : PDAt W Y gd d fr gm M E) (hY : ∀ k, Y k → k < W.heap.size) (hr : D.Rising d.fs) (hf : f ∈ d.fs)
    (hp : PutAt W (E f.nm).1 (E f.nm).2 f bs bs.length W2) (hw3 : W3 = W2.setCell ⟨gd, 0, none⟩ (.int .i64 left)) :
    (W2.frozen? ⟨gd, 0, none⟩ = false ∧ gd < W2.heap.size ∧ W2.cell? ⟨gd, 0, none⟩ = some (.int .i64 fr)) ∧ Only Y W W3 ∧ ∃ E', PDAt W3 (More Y W W3) gd { d with fs := D.layAt d.fs (D.find d.fs f.nm) bs.flatten } left gm M E' := by
  obtain ⟨-, ho, v, hfa, hno⟩ := hp
  rw [List.take_length] at hfa
  obtain ⟨k1, k2, k3⟩ := h.kinds
  have ht : D.isThere d.fs f.nm = true := D.isThere_mem.2 ⟨f, hf, rfl⟩
  have hgz := hY gd h.foot.1
  have hold : ∀ k, k < W.heap.size → k ≠ (E f.nm).1 → (E f.nm).2.ownBlock ≠ some k → W2.heap[k]? = W.heap[k]? := fun k hk h1 h2 => ho.block k hk fun h3 => by
    rcases h3 with h3 | h3
    · exact h1 h3
    · exact h2 h3
  have hb2 : W2.heap[gd]? = some (.cells #[.int .i64 fr, .int .i64 (restOf d), .map (some gm)] 93) := (hold gd hgz (fun e => (k2 f hf).1 e.symm) fun e => (k3 f hf gd e).1 rfl).trans h.box
  have hY2 : ∀ k, More Y W W2 k → k < W2.heap.size := fun k hk => by
    rcases hk with hk | hk
    · exact Nat.lt_of_lt_of_le (hY k hk) ho.size
    · exact hk.2
  have hnm : (D.layAt d.fs (D.find d.fs f.nm) bs.flatten).map (·.nm) = d.fs.map (·.nm) := D.names_modify _ _ _ fun _ => rfl
  have hturn := h.turned hr ht (d' := { d with fs := D.layAt d.fs (D.find d.fs f.nm) bs.flatten }) (v' := v) (f' := { f with b := f.b ++ bs.flatten }) (w' := W2) (Y := More Y W W2) hY (fun k hk => .inl hk) rfl hnm
    (fun g hg => by
      rcases D.mem_modify hr hg with h1 | ⟨f0, h1, h2, h3⟩
      · exact .inl h1
      · have := hr.uniq h1 hf h2
        subst this
        exact .inr h3)
    rfl hfa (fun k hk => by
      rcases hno with h1 | ⟨g, h1, h2⟩
      · exact .inl (by rw [← h1]; exact hk)
      · rw [h1] at hk; cases hk
        have : k < W2.heap.size := (hfa.2.lt k h1).2
        exact .inr ⟨.inr ⟨h2, this⟩, h2⟩) hold
  have hb3 := heap_setCell_same _ _ 0 _ _ (.int .i64 left) hb2
  subst hw3
  refine ⟨⟨frozen_of_row W2 gd 0 _ _ hb2, lt_of_heap hb2, cell_of_row W2 gd 0 _ _ _ hb2⟩, ?_, (fun t => if t = f.nm then ((E f.nm).1, v) else E t), ?_⟩
  · refine (show Only Y W W2 from ⟨ho.os, ho.tape, ho.output, ho.size, fun k hk hn => ho.block k hk fun h3 => ?_⟩).set (.inl h.foot.1) _
    rcases h3 with h3 | h3
    · exact hn (h3 ▸ (h.foot.2.2 f hf).1)
    · exact hn ((h.foot.2.2 f hf).2 k h3)
  · exact (hturn.ticked (d' := { d with fs := D.layAt d.fs (D.find d.fs f.nm) bs.flatten }) (fr' := left) rfl (by rw [hb3]; simp [restOf]) (fun k hk => Below.heap_setCell _ _ _ _ (by simpa using hk))).same (fun k hk => by
      rcases hk with hk | hk
      · exact .inl hk
      · exact .inr ⟨hk.1, by simpa using hk.2⟩) fun _ _ => rfl

/-- What the closure of Append does. -/
def appendB (e : Dk) (s : ByteArray) (bs : List (List UInt8)) : Int × Dk :=
  if D.okName s = false then (30, e)
  else if (bs.flatten.length : Int) > e.free ∨ (D.isThere e.fs s = false ∧ 4096 ≤ e.fs.length) then (31, e)
  else (0, { e with fs := D.layAt (if D.isThere e.fs s then e.fs else D.add e.fs ⟨s, [], 0⟩) (D.find (if D.isThere e.fs s then e.fs else D.add e.fs ⟨s, [], 0⟩) s) bs.flatten })

theorem append_eq (d : Dk) (s : ByteArray) (bs : List (List UInt8)) : D.append d s bs = if d.stopped then (32, d) else appendB d.tick s bs := rfl

/-- A new file in the map. -/
theorem new_done {W W1 W2 : World} {X : Nat → Prop} {gd gm n : Nat} {d : Dk} {fr : Int} {M : DataW Nat} {E : ByteArray → Nat × Value} {s : ByteArray} (h : PDAt W X gd d fr gm M E) (hX : ∀ k, X k → k < W.heap.size) (hs : D.isThere d.fs s = false)
    (h1 : W1 = W.alloc (.cells #[.slice none 0 0, .int .i64 0] 108)) (hm : W2.ownsMap Tryz.prog 9 ptrElem gm n (M.put (.string s.data.toList) (.held W.heap.size))) (hg : W1.grownBy W2 (some gm)) (hz : W2.heap.size = W.heap.size + 1) :
    Only X W W2 ∧ PDAt W2 (fun k => X k ∨ k = W.heap.size) gd { d with fs := D.add d.fs ⟨s, [], 0⟩ } fr gm (M.put (.string s.data.toList) (.held W.heap.size)) (fun t => if t = s then (W.heap.size, .slice none 0 0) else E t) ∧ (∀ k, X k ∨ k = W.heap.size → k < W2.heap.size) := by
  subst h1
  obtain ⟨k1, k2, k3⟩ := h.kinds
  have hold : ∀ k, k < W.heap.size → k ≠ gm → W2.heap[k]? = W.heap[k]? := fun k hk hne => (hg.block k (by simp; omega) (by simpa using hne)).trans (Below.heap_alloc _ _ _ hk)
  have hgmlt := hX gm h.foot.2.1
  have hnew : W2.heap[W.heap.size]? = some (.cells #[.slice none 0 0, .int .i64 0] 108) := (hg.block W.heap.size (by simp) (by simp; omega)).trans (heap_alloc_new _ _)
  refine ⟨⟨hg.os, hg.tape, hg.output, by omega, fun k hk hne => hold k hk fun e => hne (e ▸ h.foot.2.1)⟩, ?_, fun k hk => by
    rcases hk with hk | hk
    · have := hX k hk; omega
    · omega⟩
  have hfl : ∀ f ∈ d.fs, (E f.nm).1 < W.heap.size := fun f hf => hX _ (h.foot.2.2 f hf).1
  exact h.added (x := ⟨s, [], 0⟩) (Y := fun k => X k ∨ k = W.heap.size) hs rfl (fun _ hk => .inl hk) hm ((hold gd (hX gd h.foot.1) k1.symm).trans h.box) ⟨hnew, World.ownsRow_nil _ _ _ _⟩ ⟨.inr rfl, fun k hk => by cases hk⟩
    (fun f hf => ⟨by have := hfl f hf; omega, fun k hk => by cases hk⟩) fun k hk h1 h2 => hold k (hX k hk) h2
end Go.Proofs.YtgakcaobalfpjaaGreatDoor.M
