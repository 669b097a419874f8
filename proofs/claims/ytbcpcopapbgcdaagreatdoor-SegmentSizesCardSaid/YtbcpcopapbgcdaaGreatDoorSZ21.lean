/- The document's disk: Name, Free, find, Stopped, Stop. The document's disk: find, Stopped, Stop. The document's disk: Stop, take. The document's disk: take. -/
import Derived.Test.YtbcpcopapbgcdaaGreatDoorSZ11
import Derived.IntWalk
import Derived.WalkLawsBesides
import Derived.Outline
/- Part: DiskRef1. -/
namespace Go.Proofs.YtbcpcopapbgcdaaGreatDoor.M
open Go.RowKit
open D (Fl Dk)

set_option maxRecDepth 20000 in
set_option maxHeartbeats 800000 in
theorem RefName_any (s : ByteArray) (w : World) (hs : s.size ≤ 9223372036854775807) :
    Calls Tryz.prog 98 #[.string s] w fun e w' => e = .returned (.bool (D.okName s)) ∧ w = w' := by
  go_enter Tryz.func98, Tryz.ntmps98
  go_wp2_with fail
  go_loop [3] (fun i => ∃ k : Nat, k ≤ s.size ∧ i = .int .i64 (k : Int) ∧ Hid ((s.data.toList.take k).all D.okByte = true)) (fun i => s.size - (intOf i).toNat)
  case atStart => exact ⟨0, Nat.zero_le _, rfl, Lib.hid rfl⟩
  case round =>
    obtain ⟨k, hk, rfl, HA⟩ := hrel
    by_cases hlt : k < s.size
    · have hkk : (k : Int) < (s.size : Int) := by omega
      have hN : Hid ((s.data.toList.take (k + 1)).all D.okByte = D.okByte s[k]) := Lib.hid (by
        rw [List.take_succ_eq_append_getElem (by simpa using hlt), List.all_append, HA.out]
        simp [List.all_cons]
        rfl)
      have hF : Hid (D.okByte s[k] = false → D.okName s = false) := Lib.hid fun h => by
        unfold D.okName
        have : s.data.toList.all D.okByte = false := by
          rw [List.all_eq_false]
          exact ⟨s.data.toList[k]'(by simpa using hlt), List.getElem_mem _, by
            have e : s.data.toList[k]'(by simpa using hlt) = s[k] := rfl
            rw [e, h]; simp⟩
        rw [this]; rfl
      have HI : Hid _ := Lib.hid (D.okByte_iff s[k])
      have hc0 : (0 : Int) ≤ (s[k].toNat : Int) := by omega
      rcases (show (97 ≤ s[k].toNat ∧ s[k].toNat ≤ 122) ∨ 122 < s[k].toNat ∨ (57 < s[k].toNat ∧ s[k].toNat < 97) ∨ (48 ≤ s[k].toNat ∧ s[k].toNat ≤ 57) ∨ s[k].toNat = 45 ∨ s[k].toNat = 46 ∨ (s[k].toNat < 48 ∧ s[k].toNat ≠ 45 ∧ s[k].toNat ≠ 46) by omega) with h | h | h | h | h | h | h
      · have p1 : (97 : Int) ≤ (s[k].toNat : Int) := by omega
        have p2 : (s[k].toNat : Int) ≤ 122 := by omega
        have HOK : Hid (D.okByte s[k] = true) := Lib.hid (HI.out.2 (by omega))
        clear h
        go_wp2_with fail
        go_round
        case rel => exact ⟨k + 1, by omega, by go_num, Lib.hid (by rw [hN.out, HOK.out])⟩
        case measure => simp [intOf]; omega
      · have p1 : (97 : Int) ≤ (s[k].toNat : Int) := by omega
        have p2 : decide ((s[k].toNat : Int) ≤ 122) = false := by simp; omega
        have p3 : (48 : Int) ≤ (s[k].toNat : Int) := by omega
        have p4 : decide ((s[k].toNat : Int) ≤ 57) = false := by simp; omega
        have p5 : ((s[k].toNat : Int) == 45) = false := by simp; omega
        have p6 : ((s[k].toNat : Int) == 46) = false := by simp; omega
        have HOK : Hid (D.okName s = false) := Lib.hid (hF.out (by rw [← Bool.not_eq_true, HI.out]; omega))
        clear h
        go_wp2_with fail
        go_ret
        exact ⟨by rw [HOK.out]; rfl, rfl⟩
      · have p1 : decide ((97 : Int) ≤ (s[k].toNat : Int)) = false := by simp; omega
        have p3 : (48 : Int) ≤ (s[k].toNat : Int) := by omega
        have p4 : decide ((s[k].toNat : Int) ≤ 57) = false := by simp; omega
        have p5 : ((s[k].toNat : Int) == 45) = false := by simp; omega
        have p6 : ((s[k].toNat : Int) == 46) = false := by simp; omega
        have HOK : Hid (D.okName s = false) := Lib.hid (hF.out (by rw [← Bool.not_eq_true, HI.out]; omega))
        clear h
        go_wp2_with fail
        go_ret
        exact ⟨by rw [HOK.out]; rfl, rfl⟩
      · have p1 : decide ((97 : Int) ≤ (s[k].toNat : Int)) = false := by simp; omega
        have p3 : (48 : Int) ≤ (s[k].toNat : Int) := by omega
        have p4 : (s[k].toNat : Int) ≤ 57 := by omega
        have HOK : Hid (D.okByte s[k] = true) := Lib.hid (HI.out.2 (by omega))
        clear h
        go_wp2_with fail
        go_round
        case rel => exact ⟨k + 1, by omega, by go_num, Lib.hid (by rw [hN.out, HOK.out])⟩
        case measure => simp [intOf]; omega
      · have p1 : decide ((97 : Int) ≤ (s[k].toNat : Int)) = false := by simp; omega
        have p3 : decide ((48 : Int) ≤ (s[k].toNat : Int)) = false := by simp; omega
        have p5 : ((s[k].toNat : Int) == 45) = true := by simp; omega
        have HOK : Hid (D.okByte s[k] = true) := Lib.hid (HI.out.2 (by omega))
        clear h
        go_wp2_with fail
        go_round
        case rel => exact ⟨k + 1, by omega, by go_num, Lib.hid (by rw [hN.out, HOK.out])⟩
        case measure => simp [intOf]; omega
      · have p1 : decide ((97 : Int) ≤ (s[k].toNat : Int)) = false := by simp; omega
        have p3 : decide ((48 : Int) ≤ (s[k].toNat : Int)) = false := by simp; omega
        have p5 : ((s[k].toNat : Int) == 45) = false := by simp; omega
        have p6 : ((s[k].toNat : Int) == 46) = true := by simp; omega
        have HOK : Hid (D.okByte s[k] = true) := Lib.hid (HI.out.2 (by omega))
        clear h
        go_wp2_with fail
        go_round
        case rel => exact ⟨k + 1, by omega, by go_num, Lib.hid (by rw [hN.out, HOK.out])⟩
        case measure => simp [intOf]; omega
      · have p1 : decide ((97 : Int) ≤ (s[k].toNat : Int)) = false := by simp; omega
        have p3 : decide ((48 : Int) ≤ (s[k].toNat : Int)) = false := by simp; omega
        have p5 : ((s[k].toNat : Int) == 45) = false := by simp; omega
        have p6 : ((s[k].toNat : Int) == 46) = false := by simp; omega
        have HOK : Hid (D.okName s = false) := Lib.hid (hF.out (by rw [← Bool.not_eq_true, HI.out]; omega))
        clear h
        go_wp2_with fail
        go_ret
        exact ⟨by rw [HOK.out]; rfl, rfl⟩
    · have hkk : ¬ (k : Int) < (s.size : Int) := by omega
      have HAL : Hid (D.okName s = decide (0 < s.size ∧ s.size ≤ 32)) := Lib.hid (by
        unfold D.okName
        have := HA.out
        rw [List.take_of_length_le (by rw [Array.length_toList]; exact Nat.le_of_not_lt hlt)] at this
        rw [this]; simp)
      by_cases h0 : 0 < s.size
      · have h1 : (0 : Int) < (s.size : Int) := by omega
        have HD : Hid (decide ((s.size : Int) ≤ 32) = D.okName s) := Lib.hid (by rw [HAL.out]; simp [h0]; omega)
        clear hlt
        go_wp2_with fail
        go_ret
        exact ⟨by rw [← HD.out]; rfl, rfl⟩
      · have h1 : ¬ (0 : Int) < (s.size : Int) := by omega
        have HD : Hid (D.okName s = false) := Lib.hid (by rw [HAL.out]; simp [h0])
        clear hlt
        go_wp2_with fail
        go_ret
        exact ⟨by rw [HD.out]; rfl, rfl⟩

theorem find_go (fs : List Fl) (s : ByteArray) : D.find fs s ≤ fs.length := List.findIdx_le_length

set_option maxRecDepth 20000 in
set_option maxHeartbeats 800000 in
theorem RefFree_any (d : Dk) (X : Nat → Prop) (gd : Nat) (w : World) (hd : Dsk w X gd d) (h0 : Hid (0 ≤ d.free ∧ 0 ≤ d.room ∧ d.room ≤ 9223372036854775807)) :
    Calls Tryz.prog 99 #[.pointer (some ⟨gd, 0, none⟩)] w fun e w' => e = .returned (.int .i64 d.free) ∧ w = w' := by
  obtain ⟨vl, fv, hat⟩ := hd
  obtain ⟨-, ⟨c0, c1, -, -⟩, -, hz, -, -⟩ := hat.cells
  obtain ⟨va, vc, rfl⟩ := owned_slice hat.row
  have hfl : (fv.length : Int) ≤ 9223372036854775807 := by have := hat.len.1; omega
  have hlen := hat.len.2
  have HLN := Lib.hid hlen
  have HAT := Lib.hid hat
  clear hat hlen
  go_enter Tryz.func99, Tryz.ntmps99
  go_wp2_with fail
  go_loop [3, 4] (fun n i => ∃ (k : Nat) (r : Int), k ≤ fv.length ∧ i = .int .i64 (k : Int) ∧ n = .int .i64 r ∧ Hid (r = d.room - (D.used (d.fs.take k) : Int))) (fun _ i => fv.length - (intOf i).toNat)
  case atStart => exact ⟨0, _, Nat.zero_le _, rfl, rfl, Lib.hid (by simp [D.used])⟩
  case round =>
    obtain ⟨k, r, hk, rfl, rfl, HR⟩ := hrel
    by_cases hlt : k < fv.length
    · have hkk : (k : Int) < (fv.length : Int) := by omega
      obtain ⟨ga, c, hv, -, -, hgz, -, -, -, e1, -, -⟩ := HAT.out.file k hlt
      cases hv
      obtain ⟨ba, bc, hb, hbl⟩ := HAT.out.bytes k hlt
      rw [hb] at e1
      have hgt := HAT.out.get k hlt (by have := HLN.out; omega)
      have hut := D.used_take d.fs k (by have := HLN.out; omega)
      have hul := D.used_le d.fs (k + 1)
      obtain ⟨n, hn⟩ : ∃ n, n = fv[k].1.b.length := ⟨_, rfl⟩
      rw [← hn] at e1 hbl
      have hb2 : 0 ≤ r - (n : Int) ∧ r - (n : Int) ≤ 9223372036854775807 := by
        have h1 := h0.out
        have h2 := HR.out
        unfold D.Dk.free at h1
        rw [← hgt, ← hn] at hut
        omega
      obtain ⟨hb3, hb4⟩ := hb2
      have HR2 : Hid (r - (n : Int) = d.room - (D.used (d.fs.take (k + 1)) : Int)) := Lib.hid (by rw [hut, HR.out, hn, hgt]; omega)
      clear hgt hut hul hn hb
      go_wp2_with fail
      go_round
      case rel => exact ⟨k + 1, _, by omega, by go_num, rfl, HR2⟩
      case measure => simp [intOf]; omega
    · have hkk : ¬ (k : Int) < (fv.length : Int) := by omega
      have HE : Hid (r = d.free) := Lib.hid (by
        rw [HR.out, List.take_of_length_le (by have := HLN.out; omega)]; rfl)
      go_wp2_with fail
      go_ret
      exact ⟨by rw [HE.out]; rfl, rfl⟩
end Go.Proofs.YtbcpcopapbgcdaaGreatDoor.M

/- Part: DiskRef2. -/
namespace Go.Proofs.YtbcpcopapbgcdaaGreatDoor.M
open Go.RowKit
open D (Fl Dk)

set_option maxRecDepth 20000 in
set_option maxHeartbeats 800000 in
theorem RefFind_any (d : Dk) (X : Nat → Prop) (gd : Nat) (s : ByteArray) (w : World) (hd : Dsk w X gd d) :
    Calls Tryz.prog 97 #[.pointer (some ⟨gd, 0, none⟩), .string s] w fun e w' => e = .returned (.int .i64 (D.findR d.fs s)) ∧ w = w' := by
  obtain ⟨vl, fv, hat⟩ := hd
  obtain ⟨-, ⟨-, c1, -, -⟩, -, hz, -, -⟩ := hat.cells
  obtain ⟨va, vc, rfl⟩ := owned_slice hat.row
  have hfl : (fv.length : Int) ≤ 9223372036854775807 := by have := hat.len.1; omega
  have HLN := Lib.hid hat.len.2
  have HAT := Lib.hid hat
  clear hat
  go_enter Tryz.func97, Tryz.ntmps97
  go_wp2_with fail
  go_loop [5] (fun i => ∃ k : Nat, k ≤ fv.length ∧ i = .int .i64 (k : Int) ∧ Hid (k ≤ D.find d.fs s)) (fun i => fv.length - (intOf i).toNat)
  case atStart => exact ⟨0, Nat.zero_le _, rfl, Lib.hid (Nat.zero_le _)⟩
  case round =>
    obtain ⟨k, hk, rfl, HR⟩ := hrel
    by_cases hlt : k < fv.length
    · have hkk : (k : Int) < (fv.length : Int) := by omega
      obtain ⟨ga, c, hv, -, -, hgz, -, -, e0, -, -, -⟩ := HAT.out.file k hlt
      cases hv
      have hkd : k < d.fs.length := by have := HLN.out; omega
      have hgt := HAT.out.get k hlt hkd
      obtain ⟨nm, hnm⟩ : ∃ nm, nm = fv[k].1.nm := ⟨_, rfl⟩
      rw [← hnm] at e0
      by_cases heq : (nm.toList == s.toList) = true
      · have HE : Hid (D.findR d.fs s = (k : Int)) := Lib.hid (by
          have := D.find_hit d.fs s k hkd HR.out (by rw [← hgt, ← hnm]; exact heq)
          unfold D.findR
          rw [this, if_pos hkd])
        clear hgt hnm
        go_wp2_with fail
        go_ret
        exact ⟨by rw [HE.out]; rfl, rfl⟩
      · have heq : (nm.toList == s.toList) = false := by simpa using heq
        have HE : Hid (k + 1 ≤ D.find d.fs s) := Lib.hid (D.find_next d.fs s k hkd HR.out (by rw [← hgt, ← hnm]; exact heq))
        clear hgt hnm
        go_wp2_with fail
        go_round
        case rel => exact ⟨k + 1, by omega, by go_num, HE⟩
        case measure => simp [intOf]; omega
    · have hkk : ¬ (k : Int) < (fv.length : Int) := by omega
      have HE : Hid (D.findR d.fs s = -1) := Lib.hid (by
        unfold D.findR
        rw [if_neg (by have := HR.out; have := HLN.out; omega)])
      go_wp2_with fail
      go_ret
      exact ⟨by rw [HE.out]; rfl, rfl⟩

/-- A disk whose own cells alone have turned. -/
theorem DkAt.turned {w w' : World} {X : Nat → Prop} {gd : Nat} {d e : Dk} {vl : Value} {fv : List (Fl × Value)} (h : DkAt w X gd d vl fv) (hf : e.fs = d.fs)
    (hb : ∃ cc : Int, w'.heap[gd]? = some (.cells #[.int .i64 e.room, vl, .bool e.ends, .int .i64 cc] 69) ∧ (e.ends = true → cc = (e.calls : Int))) (ho : ∀ k, k ≠ gd → w'.heap[k]? = w.heap[k]?) : DkAt w' X gd e vl fv := by
  have hn := h.apart
  rw [blocksOf, List.cons_append, List.nodup_cons] at hn
  refine ⟨hb, h.fs.trans hf.symm, ownsRow_same h.row fun k hk => ho k ?_, fun p hp => ownsRow_same (h.each p hp) fun k hk => ho k ?_, h.apart, h.foot⟩
  · intro e
    apply hn.1
    subst e
    simp [hk]
  · intro e
    apply hn.1
    subst e
    rw [List.mem_append, List.mem_flatMap]
    exact .inr ⟨p, hp, by simp [hk]⟩

theorem DkAt.own {w : World} {X : Nat → Prop} {gd : Nat} {d : Dk} {vl : Value} {fv : List (Fl × Value)} (h : DkAt w X gd d vl fv) : X gd := h.foot gd (by simp [blocksOf])

set_option maxRecDepth 20000 in
set_option maxHeartbeats 800000 in
theorem RefStopped_any (d : Dk) (X : Nat → Prop) (gd : Nat) (w : World) (hd : Dsk w X gd d) (hc : Hid (d.calls ≤ 9223372036854775807)) :
    Calls Tryz.prog 96 #[.pointer (some ⟨gd, 0, none⟩)] w fun e w' => e = .returned (.bool d.stopped) ∧ Only X w w' ∧ Dsk w' X gd d.tick ∧ w'.heap.size = w.heap.size := by
  obtain ⟨vl, fv, hat⟩ := hd
  obtain ⟨cc, ⟨-, -, c2, c3⟩, ⟨-, -, -, f3⟩, hz, hbox, hcc⟩ := hat.cells
  have HBX := Lib.hid hbox
  have HAT := Lib.hid hat
  clear hat
  clear hbox
  have hcl : (d.calls : Int) ≤ 9223372036854775807 := by have := hc.out; omega
  cases he : d.ends
  · have HE := Lib.hid he
    rw [he] at c2
    clear he hcc
    go_enter Tryz.func96, Tryz.ntmps96
    go_wp2_with fail
    go_ret
    refine ⟨by simp [D.Dk.stopped, HE.out], Only.refl _ _, ⟨vl, fv, ?_⟩, rfl⟩
    have : d.tick = d := by unfold D.Dk.tick; rw [if_neg (by simp [HE.out])]
    rw [this]; exact HAT.out
  · have HE := Lib.hid he
    rw [hcc he] at c3 HBX
    rw [he] at c2
    clear he hcc
    by_cases h0 : d.calls = 0
    · have h00 : ((d.calls : Int) == 0) = true := by simp [h0]
      have H0 := Lib.hid h0
      clear h0
      go_enter Tryz.func96, Tryz.ntmps96
      go_wp2_with fail
      go_ret
      refine ⟨by simp [D.Dk.stopped, HE.out, H0.out], Only.refl _ _, ⟨vl, fv, ?_⟩, rfl⟩
      have : d.tick = d := by unfold D.Dk.tick; rw [if_neg (by simp [H0.out])]
      rw [this]; exact HAT.out
    · have h00 : ((d.calls : Int) == 0) = false := by simp; omega
      have h1 : (0 : Int) < (d.calls : Int) := by omega
      have H0 := Lib.hid h0
      clear h0
      go_enter Tryz.func96, Tryz.ntmps96
      go_wp2_with fail
      go_ret
      have ht : d.tick = { d with calls := d.calls - 1 } := by unfold D.Dk.tick; rw [if_pos ⟨HE.out, H0.out⟩]
      refine ⟨by simp [D.Dk.stopped, HE.out, H0.out], ⟨rfl, rfl, rfl, by simp, fun k hk hn => Below.heap_setCell _ _ _ _ (by simp; intro e; exact hn (e ▸ HAT.out.own))⟩, ⟨vl, fv, HAT.out.turned (by rw [ht]) ?_ fun k hk => Below.heap_setCell _ _ _ _ (by simpa using hk)⟩, by simp⟩
      refine ⟨((d.calls - 1 : Nat) : Int), ?_, fun _ => by rw [ht]⟩
      rw [heap_setCell_same _ _ _ _ _ _ HBX.out, ht]
      have e1 : (d.calls : Int) - 1 = ((d.calls - 1 : Nat) : Int) := by have := H0.out; omega
      simp [e1]
end Go.Proofs.YtbcpcopapbgcdaaGreatDoor.M

/- Part: DiskRef3. -/
namespace Go.Proofs.YtbcpcopapbgcdaaGreatDoor.M
open Go.RowKit
open D (Fl Dk)

set_option maxRecDepth 20000 in
set_option maxHeartbeats 800000 in
theorem RefStop_any (d : Dk) (X : Nat → Prop) (gd : Nat) (n : Int) (w : World) (hd : Dsk w X gd d) (_hn : Hid (-9223372036854775808 ≤ n ∧ n ≤ 9223372036854775807)) :
    Calls Tryz.prog 39 #[.pointer (some ⟨gd, 0, none⟩), .int .i64 n] w fun e w' => e = .returned (.tuple #[]) ∧ Only X w w' ∧ Dsk w' X gd (D.stop d n) ∧ w'.heap.size = w.heap.size := by
  obtain ⟨vl, fv, hat⟩ := hd
  obtain ⟨cc, ⟨-, -, c2, c3⟩, ⟨-, -, f2, f3⟩, hz, hbox, -⟩ := hat.cells
  have HBX := Lib.hid hbox
  have HAT := Lib.hid hat
  clear hat hbox
  go_enter Tryz.func39, Tryz.ntmps39
  go_wp2_with fail
  go_end0
  have hb1 := heap_setCell_same _ _ 2 _ _ (.bool (decide (0 ≤ n))) HBX.out
  have hb2 := heap_setCell_same _ _ 3 _ _ (.int .i64 n) hb1
  refine ⟨rfl, ⟨rfl, rfl, rfl, by simp, fun k hk hne => ?_⟩, ⟨vl, fv, HAT.out.turned rfl ⟨n, ?_, fun h => ?_⟩ fun k hk => ?_⟩, by simp⟩
  · have : k ≠ gd := fun e => hne (e ▸ HAT.out.own)
    rw [Below.heap_setCell _ _ _ _ (by simpa using this), Below.heap_setCell _ _ _ _ (by simpa using this)]
  · rw [hb2]; simp [D.stop]
  · simp only [D.stop, decide_eq_true_eq] at h ⊢
    omega
  · rw [Below.heap_setCell _ _ _ _ (by simpa using hk), Below.heap_setCell _ _ _ _ (by simpa using hk)]

theorem flCells_append (a b : List (Fl × Value)) : flCells (a ++ b) = flCells a ++ flCells b := by simp [flCells]

theorem infoFile : (Tryz.prog.info? 147).map (fun i => (i.zero, i.size, i.bytes)) = some (some (.agg #[.string ByteArray.empty, .slice none 0 0, .int .i64 0]), 3, 48) := by kernel_rfl

/-- A part of the files' row, as an append reads it. -/
theorem DkAt.yields {w : World} {X : Nat → Prop} {gd : Nat} {d : Dk} {vl : Value} {fv : List (Fl × Value)} (h : DkAt w X gd d vl fv) {ga c : Nat} (hv : vl = .slice (some ⟨ga, 0, none⟩) fv.length c) (i m c' : Nat) (hm : i + m ≤ fv.length) :
    Yields w (.slice (some ⟨ga, i * 3, none⟩) m c') m 3 (flCells ((fv.drop i).take m)) := by
  have hr := h.row
  rw [hv] at hr
  refine ⟨by rw [flCells_length]; simp; omega, ?_, .inr ⟨_, c', rfl, ?_⟩⟩
  · intro u hu
    simp only [flCells, List.mem_flatMap] at hu
    obtain ⟨p, hp, hu⟩ := hu
    have hp2 : p ∈ fv := List.mem_of_mem_drop (List.mem_of_mem_take hp)
    obtain ⟨a, c, hs⟩ := owned_slice (h.each p hp2)
    simp only [flV, List.mem_cons, List.not_mem_nil, or_false] at hu
    rcases hu with rfl | rfl | rfl
    · rfl
    · rw [hs]; rfl
    · rfl
  · intro j u hj
    have hjl : j < m * 3 := by
      have := (List.getElem?_eq_some_iff.1 hj).1
      rw [flCells_length] at this
      simp at this
      omega
    rw [show (⟨ga, i * 3, none⟩ : Addr).add j = ⟨ga, i * 3 + j, none⟩ from by cases j <;> simp [Addr.add], hr.cellAt _ (by omega)]
    have e : flCells fv = flCells (fv.take i) ++ (flCells ((fv.drop i).take m) ++ flCells ((fv.drop i).drop m)) := by
      rw [← flCells_append, ← flCells_append, List.take_append_drop, List.take_append_drop]
    rw [e, List.getElem?_append_right (by rw [flCells_length]; simp; omega), List.getElem?_append_left (by simp only [flCells_length, List.length_take, List.length_drop]; omega), ← hj]
    congr 1
    rw [flCells_length]
    simp
    omega
end Go.Proofs.YtbcpcopapbgcdaaGreatDoor.M

/- Part: DiskRef4. -/
namespace Go.Proofs.YtbcpcopapbgcdaaGreatDoor.M
open Go.RowKit
open D (Fl Dk)

/-- Three cells of a block that is known whole. -/
theorem three_of {w : World} {g : Nat} {x y z : Value} {t : TypeId} (h : w.heap[g]? = some (.cells #[x, y, z] t)) :
    w.cell? ⟨g, 0, none⟩ = some x ∧ w.cell? ⟨g, 1, none⟩ = some y ∧ w.cell? ⟨g, 2, none⟩ = some z ∧
    w.frozen? ⟨g, 0, none⟩ = false ∧ w.frozen? ⟨g, 1, none⟩ = false ∧ w.frozen? ⟨g, 2, none⟩ = false ∧ g < w.heap.size :=
  ⟨cell_of_row w g 0 _ t _ h, cell_of_row w g 1 _ t _ h, cell_of_row w g 2 _ t _ h, frozen_of_row w g 0 _ t h, frozen_of_row w g 1 _ t h, frozen_of_row w g 2 _ t h, lt_of_heap h⟩

theorem ownBlock_len {a : Option Addr} {n m c c' : Nat} : (Value.slice a n c).ownBlock = (Value.slice a m c').ownBlock := by
  cases a with
  | none => rfl
  | some a => rfl

theorem erase_parts {α : Type} (l : List α) (i : Nat) : l.eraseIdx i = l.take i ++ l.drop (i + 1) := List.eraseIdx_eq_take_drop_succ ..

theorem parts_of_list {α : Type} (l : List α) (i : Nat) (h : i < l.length) : l = l.take i ++ l[i] :: l.drop (i + 1) := by
  rw [← List.drop_eq_getElem_cons h, List.take_append_drop]

/-- The disk, behind a file's taking out. -/
theorem take_done {w w2 wF : World} {d : Dk} {X : Nat → Prop} {gd : Nat} {vl v2 : Value} {fv : List (Fl × Value)} {i : Nat} {cc : Int} (hat : DkAt w X gd d vl fv) (hX : ∀ k, X k → k < w.heap.size) (hi : i < fv.length)
    (hcc : d.ends = true → cc = (d.calls : Int)) (hsz : w.heap.size ≤ w2.heap.size) (hold : ∀ k, k < w.heap.size → w2.heap[k]? = w.heap[k]?) (hos : w2.os = w.os ∧ w2.tape = w.tape ∧ w2.output = w.output)
    (ho : w2.ownsRow 0 147 3 v2 (fv.eraseIdx i).length (flCells (fv.eraseIdx i))) (hno : ∀ k, v2.ownBlock = some k → w.heap.size < k ∧ k < w2.heap.size)
    (hFo : ∀ k, k ≠ gd → k ≠ w.heap.size → wF.heap[k]? = w2.heap[k]?) (hFg : wF.heap[gd]? = some (.cells #[.int .i64 d.room, v2, .bool d.ends, .int .i64 cc] 69)) (hFs : wF.heap.size = w2.heap.size)
    (hFw : wF.os = w2.os ∧ wF.tape = w2.tape ∧ wF.output = w2.output) :
    Only (fun k => k = gd) w wF ∧ DkAt wF (More X w wF) gd { d with fs := d.fs.eraseIdx i } v2 (fv.eraseIdx i) ∧ (∀ k, fv[i].2.ownBlock = some k → wF.heap[k]? = w.heap[k]? ∧ k ∉ blocksOf gd v2 (fv.eraseIdx i)) ∧ (∀ k, v2.ownBlock = some k → w.heap.size ≤ k) := by
  have hgw := hX gd hat.own
  have hap := hat.apart
  have hkeep : ∀ k, k < w.heap.size → k ≠ gd → wF.heap[k]? = w.heap[k]? := fun k hk hg => (hFo k hg (by omega)).trans (hold k hk)
  have hfile : ∀ p ∈ fv, ∀ k, p.2.ownBlock = some k → k < w.heap.size ∧ k ≠ gd := fun p hp k hk => by
    have hm := mem_blocks_file (gd := gd) (vl := vl) hp hk
    refine ⟨hX k (hat.foot k hm), fun e => ?_⟩
    rw [blocksOf, List.cons_append, List.nodup_cons] at hap
    apply hap.1
    rw [← e, List.mem_append, List.mem_flatMap]
    exact .inr ⟨p, hp, by simp [hk]⟩
  have hsub : ∀ p ∈ fv.eraseIdx i, p ∈ fv := fun p hp => List.mem_of_mem_eraseIdx hp
  have hnd : ((fv.eraseIdx i).flatMap fun p : Fl × Value => p.2.ownBlock.toList).Nodup ∧ ∀ k, fv[i].2.ownBlock = some k → k ∉ (fv.eraseIdx i).flatMap fun p : Fl × Value => p.2.ownBlock.toList := by
    have h1 : (fv.flatMap fun p : Fl × Value => p.2.ownBlock.toList).Nodup := by
      rw [blocksOf] at hap
      exact (List.nodup_append.1 hap).2.1
    rw [parts_of_list fv i hi, List.flatMap_append, List.flatMap_cons] at h1
    rw [erase_parts, List.flatMap_append]
    obtain ⟨a1, a2, a3⟩ := List.nodup_append.1 h1
    obtain ⟨b1, b2, b3⟩ := List.nodup_append.1 a2
    refine ⟨List.nodup_append.2 ⟨a1, b2, fun x hx y hy => a3 x hx y (List.mem_append.2 (.inr hy))⟩, fun k hk hm => ?_⟩
    have hkm : k ∈ fv[i].2.ownBlock.toList := by simp [hk]
    rcases List.mem_append.1 hm with hm | hm
    · exact a3 k hm k (List.mem_append.2 (.inl hkm)) rfl
    · exact b3 k hkm k hm rfl
  refine ⟨⟨hFw.1.trans hos.1, hFw.2.1.trans hos.2.1, hFw.2.2.trans hos.2.2, by omega, fun k hk hn => hkeep k hk hn⟩, ⟨⟨cc, hFg, hcc⟩, ?_, ownsRow_same ho fun k hk => ?_, fun p hp => ?_, ?_, ?_⟩, ?_, fun k hk => Nat.le_of_lt (hno k hk).1⟩
  · show (fv.eraseIdx i).map (·.1) = d.fs.eraseIdx i
    rw [erase_parts, List.map_append, List.map_take, List.map_drop, hat.fs, ← erase_parts]
  · have := hno k hk
    exact hFo k (by omega) (by omega)
  · exact ownsRow_same (hat.each p (hsub p hp)) fun k hk => by
      obtain ⟨h1, h2⟩ := hfile p (hsub p hp) k hk
      exact hkeep k h1 h2
  · rw [blocksOf, List.cons_append, List.nodup_cons]
    refine ⟨fun hm => ?_, List.nodup_append.2 ⟨?_, hnd.1, fun x hx y hy e => ?_⟩⟩
    · rcases List.mem_append.1 hm with hm | hm
      · have := hno gd (by simpa using hm)
        omega
      · obtain ⟨p, hp, hk⟩ := List.mem_flatMap.1 hm
        exact (hfile p (hsub p hp) gd (by simpa using hk)).2 rfl
    · cases v2.ownBlock <;> simp
    · have h1 := hno x (by simpa using hx)
      obtain ⟨p, hp, hk⟩ := List.mem_flatMap.1 hy
      have h2 := (hfile p (hsub p hp) y (by simpa using hk)).1
      omega
  · intro k hk
    rw [blocksOf, List.cons_append, List.mem_cons, List.mem_append, List.mem_flatMap] at hk
    rcases hk with rfl | hk | ⟨p, hp, hk⟩
    · exact .inl hat.own
    · have := hno k (by simpa using hk)
      exact .inr ⟨by omega, by omega⟩
    · exact .inl (hat.foot k (mem_blocks_file (hsub p hp) (by simpa using hk)))
  · intro k hk
    obtain ⟨h1, h2⟩ := hfile fv[i] (List.getElem_mem hi) k hk
    refine ⟨hkeep k h1 h2, fun hm => ?_⟩
    rw [blocksOf, List.cons_append, List.mem_cons, List.mem_append] at hm
    rcases hm with h3 | hm | hm
    · exact h2 h3
    · have := hno k (by simpa using hm)
      omega
    · exact hnd.2 k hk hm

set_option maxRecDepth 20000 in
set_option maxHeartbeats 3200000 in
theorem RefTake_any (d : Dk) (X : Nat → Prop) (gd : Nat) (vl : Value) (fv : List (Fl × Value)) (i : Nat) (w : World) (hat : DkAt w X gd d vl fv) (hX : ∀ k, X k → k < w.heap.size) (hi : i < fv.length) (h4 : Hid (fv.length ≤ 4096)) :
    Calls Tryz.prog 135 #[.pointer (some ⟨gd, 0, none⟩), .int .i64 (i : Int)] w fun e w' => ∃ vl', e = .returned (.agg #[.string fv[i].1.nm, fv[i].2, .int .i64 (fv[i].1.safe : Int)]) ∧ Only (fun k => k = gd) w w' ∧
      DkAt w' (More X w w') gd { d with fs := d.fs.eraseIdx i } vl' (fv.eraseIdx i) ∧ (∀ k, fv[i].2.ownBlock = some k → w'.heap[k]? = w.heap[k]? ∧ k ∉ blocksOf gd vl' (fv.eraseIdx i)) ∧ (∀ k, vl'.ownBlock = some k → w.heap.size ≤ k) := by
  obtain ⟨cc, ⟨-, c1, -, -⟩, ⟨-, f1, -, -⟩, hz, hbox, hcc⟩ := hat.cells
  obtain ⟨ga, c, rfl, hXa, hga, hgaz, hnc, hcm, e0, e1, e2, hfz⟩ := hat.file i hi
  obtain ⟨va, vc, hvi, hvl⟩ := hat.bytes i hi
  have HVI := Lib.hid hvi
  rw [hvi] at e1 ⊢
  have HBX := Lib.hid hbox
  have HAT := Lib.hid hat
  have HCC := Lib.hid hcc
  have HX := Lib.hid hX
  have hil : (i : Int) < (fv.length : Int) := by omega
  have hic : (i : Int) ≤ (c : Int) := by omega
  have hi1 : (i : Int) + 1 ≤ (fv.length : Int) := by omega
  have hfl : (fv.length : Int) ≤ 4096 := by have := h4.out; omega
  obtain ⟨nm, hnm⟩ : ∃ nm, nm = fv[i].1.nm := ⟨_, rfl⟩
  obtain ⟨bl, hbl⟩ : ∃ bl, bl = fv[i].1.b.length := ⟨_, rfl⟩
  obtain ⟨sf, hsf⟩ : ∃ sf, sf = fv[i].1.safe := ⟨_, rfl⟩
  rw [← hnm] at e0 ⊢
  rw [← hbl] at e1 ⊢
  rw [← hsf] at e2 ⊢
  have HNM := Lib.hid hnm
  have HBL := Lib.hid hbl
  have HSF := Lib.hid hsf
  obtain ⟨iF, hiF, hiF0, hiF1, hiF2⟩ := info_parts infoFile
  clear hat hbox hcc hX hvi hnm hbl hsf hfz hvl
  go_enter Tryz.func135, Tryz.ntmps135
  go_wp2_with (at_builtin; refine wpList_append_any _ rfl _ _ 67 rfl 0 147 iF (.agg #[.string ByteArray.empty, .slice none 0 0, .int .i64 0]) 3 48 Tryz.underlying67 hiF hiF0 hiF1 hiF2 rfl (by decide) _ 0 [] rfl (World.ownsRow_nil _ _ _ _) (.slice (some ⟨ga, 0, none⟩) i c) rfl i (flCells ((fv.drop 0).take i)) ?c1 ?c2 ?c3 ?c4 ?_)
  case c1 =>
    have := fun o1 o2 => (HAT.out.same (Y := X) (w' := (w.alloc o1).alloc o2) (fun _ h => h) fun k hk => by
      have := HX.out k hk
      rw [Below.heap_alloc _ _ _ (by simp; omega), Below.heap_alloc _ _ _ this]).yields rfl 0 i c (by omega)
    simp only [Nat.zero_mul, List.drop_zero] at this ⊢
    exact this _ _
  case c2 => unfold maxLen; have := h4.out; omega
  case c3 => have := h4.out; omega
  case c4 => omega
  intro v1 w1 happ1
  obtain ⟨ho1, hg1, hw1⟩ := happ1
  rw [Nat.zero_add, List.nil_append] at ho1
  have hk1 : ∀ k, k < w.heap.size + 2 → w1.heap[k]? = ((w.alloc (.cells #[.string ByteArray.empty, .slice none 0 0, .int .i64 0] 147)).alloc (.cells #[.string nm, .slice va bl vc, .int .i64 (sf : Int)] 147)).heap[k]? :=
    fun k hk => hg1.block k (by simp; omega) (by simp [Value.ownBlock])
  have hold1 : ∀ k, k < w.heap.size → w1.heap[k]? = w.heap[k]? := fun k hk => by
    rw [hk1 k (by omega), Below.heap_alloc _ _ _ (by simp; omega), Below.heap_alloc _ _ _ hk]
  have hx4 := (hk1 w.heap.size (by omega)).trans (old_alloc (heap_new _ _ _ rfl))
  have hx5 := (hk1 (w.heap.size + 1) (by omega)).trans (heap_new _ _ _ (by simp))
  have hs1 := hg1.size
  simp only [World.size_alloc] at hs1
  obtain ⟨a1, k1, rfl⟩ := owned_slice ho1
  have hno1 : ∀ k, (Value.slice a1 i k1).ownBlock = some k → w.heap.size + 2 ≤ k := fun k hk => by
    rcases hw1 with h | h
    · rw [hk] at h; simp [Value.ownBlock] at h
    · rw [hk] at h; simp at h; omega
  obtain ⟨-, ⟨-, g1, -, -⟩, ⟨-, h1, -, -⟩, hz1, -⟩ := (HAT.out.same (w' := w1) (Y := X) (fun _ h => h) fun k hk => hold1 k (HX.out k hk)).cells
  have HAT1 : Hid _ := Lib.hid (HAT.out.same (w' := w1) (Y := X) (fun _ h => h) fun k hk => hold1 k (HX.out k hk))
  have HO1 := Lib.hid ho1
  have HX4 := Lib.hid hx4
  have HX5 := Lib.hid hx5
  have HOLD1 := Lib.hid hold1
  have HNO1 := Lib.hid hno1
  have HT1 : Hid (w1.os = w.os ∧ w1.tape = w.tape ∧ w1.output = w.output) := Lib.hid ⟨hg1.os, hg1.tape, hg1.output⟩
  clear ho1 hg1 hw1 hk1 hold1 hx4 hx5 hno1
  by_cases hcap : c = i + 1
  · subst hcap
    have hn1 : fv.length = i + 1 := by omega
    go_wp2_with (at_builtin; refine wpList_append_any _ rfl (.tmp 23) (.tmp 30) 67 rfl 0 147 iF (.agg #[.string ByteArray.empty, .slice none 0 0, .int .i64 0]) 3 48 Tryz.underlying67 hiF hiF0 hiF1 hiF2 rfl (by decide) _ i _ rfl HO1.out (.slice (some ⟨ga, 0, none⟩) 0 0) rfl 0 [] ⟨rfl, by simp, .inr ⟨_, _, rfl, by simp⟩⟩ ?d2 ?d3 ?d4 ?_)
    case d2 => unfold maxLen; have := h4.out; omega
    case d3 => have := h4.out; omega
    case d4 => omega
    intro v2 w2 happ2
    obtain ⟨ho2, hg2, hw2⟩ := happ2
    rw [Nat.add_zero, List.append_nil] at ho2
    obtain ⟨a2, k2, rfl⟩ := owned_slice ho2
    have hx4 : w2.heap[w.heap.size]? = _ := (hg2.block _ (by omega) (fun h => by have := HNO1.out _ h.symm; omega)).trans HX4.out
    have hx5 : w2.heap[w.heap.size + 1]? = _ := (hg2.block _ (by omega) (fun h => by have := HNO1.out _ h.symm; omega)).trans HX5.out
    have hxg : w2.heap[gd]? = w1.heap[gd]? := hg2.block gd (by omega) (fun h => by have := HNO1.out _ h.symm; omega)
    obtain ⟨m0, m1, m2, n0, n1, n2, nz⟩ := three_of hx4
    obtain ⟨p0, p1, p2, -, -, -, pz⟩ := three_of hx5
    have r1 : w2.cell? ⟨gd, 1, none⟩ = _ := (World.cell?_of_block (w := w1) (w' := w2) (a := ⟨gd, 1, none⟩) hxg).trans g1
    have s1 : w2.frozen? ⟨gd, 1, none⟩ = false := by rw [show w2.frozen? ⟨gd, 1, none⟩ = w1.frozen? ⟨gd, 1, none⟩ from by simp [World.frozen?, hxg]]; exact h1
    have gz2 : gd < w2.heap.size := by omega
    have HNO2 : Hid (∀ k, (Value.slice a2 i k2).ownBlock = some k → w.heap.size < k ∧ k < w2.heap.size) := Lib.hid fun k hk => by
      have h1 := (ho2.lt k hk).2
      rcases hw2 with h | h
      · rw [h] at hk; have := HNO1.out k hk; omega
      · rw [hk] at h; cases h; omega
    have hs2 := hg2.size
    have HOLD2 : Hid (∀ k, k < w.heap.size → w2.heap[k]? = w.heap[k]?) := Lib.hid fun k hk => (hg2.block k (by omega) (fun h => by have := HNO1.out _ h.symm; omega)).trans (HOLD1.out k hk)
    have HGD2 : Hid (w2.heap[gd]? = w.heap[gd]?) := Lib.hid (HOLD2.out gd hz)
    have HT2 : Hid (w2.os = w.os ∧ w2.tape = w.tape ∧ w2.output = w.output) := Lib.hid ⟨hg2.os.trans HT1.out.1, hg2.tape.trans HT1.out.2.1, hg2.output.trans HT1.out.2.2⟩
    have HX42 := Lib.hid hx4
    have HX52 := Lib.hid hx5
    have HO2 := Lib.hid ho2
    have HG2 := Lib.hid hg2
    have HW2 := Lib.hid hw2
    clear hx4 hx5 hxg ho2 hg2 hw2
    go_wp2_with fail
    obtain ⟨wF, hwF⟩ : ∃ wF, wF = (((w2.setCell ⟨gd, 1, none⟩ (.slice a2 i k2)).setCell ⟨w.heap.size, 0, none⟩ (.string nm)).setCell ⟨w.heap.size, 1, none⟩ (.slice va bl vc)).setCell ⟨w.heap.size, 2, none⟩ (.int .i64 (sf : Int)) := ⟨_, rfl⟩
    have hF4 : wF.heap[w.heap.size]? = some (.cells #[.string nm, .slice va bl vc, .int .i64 (sf : Int)] 147) := by
      have q0 := old_set (a := ⟨gd, 1, none⟩) (v := .slice a2 i k2) HX42.out (by simp; omega)
      have q1 := heap_setCell_same _ _ 0 _ _ (.string nm) q0
      have q2 := heap_setCell_same _ _ 1 _ _ (.slice va bl vc) q1
      have q3 := heap_setCell_same _ _ 2 _ _ (.int .i64 (sf : Int)) q2
      rw [hwF, q3]; simp
    have hFg : wF.heap[gd]? = some (.cells #[.int .i64 d.room, .slice a2 i k2, .bool d.ends, .int .i64 cc] 69) := by
      have q0 := heap_setCell_same _ _ 1 _ _ (.slice a2 i k2) (HGD2.out.trans HBX.out)
      rw [hwF, Below.heap_setCell _ _ _ _ (by simp; omega), Below.heap_setCell _ _ _ _ (by simp; omega), Below.heap_setCell _ _ _ _ (by simp; omega), q0]; simp
    have hfin := take_done HAT.out HX.out hi HCC.out (w2 := w2) (wF := wF) (v2 := .slice a2 i k2) (cc := cc) (by omega) HOLD2.out HT2.out (by
        have e : fv.eraseIdx i = fv.take i := by rw [erase_parts, List.drop_of_length_le (by omega), List.append_nil]
        rw [e, show (fv.take i).length = i from by simp; omega]; exact HO2.out) HNO2.out
      (fun k h1 h2 => by rw [hwF, Below.heap_setCell _ _ _ _ (by simpa using h2), Below.heap_setCell _ _ _ _ (by simpa using h2), Below.heap_setCell _ _ _ _ (by simpa using h2), Below.heap_setCell _ _ _ _ (by simpa using h1)]) hFg (by rw [hwF]; simp) (by rw [hwF]; exact ⟨rfl, rfl, rfl⟩)
    rw [← hwF]
    exact bodyPost_ret (v := .agg #[.string nm, .slice va bl vc, .int .i64 (sf : Int)]) (results_cell_row (P := Tryz.prog) Tryz.results135 _ _ w.heap.size 147 _ (0, 0) _ rfl hF4 Tryz.underlying147 rfl (by kernel_rfl)) rfl ⟨.slice a2 i k2, rfl, hfin.1, hfin.2.1, fun k hk => hfin.2.2.1 k (by rw [HVI.out, ownBlock_len (m := bl) (c' := vc)]; exact hk), hfin.2.2.2⟩
  · have hc1 : ¬ (c : Int) = (i : Int) + 1 := by omega
    have HY : Hid (Yields w1 (.slice (some ⟨ga, (i + 1) * 3, none⟩) (fv.length - (i + 1)) (c - (i + 1))) (fv.length - (i + 1)) 3 (flCells (fv.drop (i + 1)))) := Lib.hid (by
      have := HAT1.out.yields rfl (i + 1) (fv.length - (i + 1)) (c - (i + 1)) (by omega)
      rw [List.take_of_length_le (by simp)] at this
      exact this)
    go_wp2_with (at_builtin; refine wpList_append_any _ rfl (.tmp 23) (.tmp 30) 67 rfl 0 147 iF (.agg #[.string ByteArray.empty, .slice none 0 0, .int .i64 0]) 3 48 Tryz.underlying67 hiF hiF0 hiF1 hiF2 rfl (by decide) _ i _ rfl HO1.out (.slice (some ⟨ga, (i + 1) * 3, none⟩) (fv.length - (i + 1)) (c - (i + 1))) rfl (fv.length - (i + 1)) (flCells (fv.drop (i + 1))) HY.out ?d2 ?d3 ?d4 ?_)
    case d2 => unfold maxLen; have := h4.out; omega
    case d3 => have := h4.out; omega
    case d4 => omega
    intro v2 w2 happ2
    obtain ⟨ho2, hg2, hw2⟩ := happ2
    obtain ⟨a2, k2, rfl⟩ := owned_slice ho2
    have hx4 : w2.heap[w.heap.size]? = _ := (hg2.block _ (by omega) (fun h => by have := HNO1.out _ h.symm; omega)).trans HX4.out
    have hx5 : w2.heap[w.heap.size + 1]? = _ := (hg2.block _ (by omega) (fun h => by have := HNO1.out _ h.symm; omega)).trans HX5.out
    have hxg : w2.heap[gd]? = w1.heap[gd]? := hg2.block gd (by omega) (fun h => by have := HNO1.out _ h.symm; omega)
    obtain ⟨m0, m1, m2, n0, n1, n2, nz⟩ := three_of hx4
    obtain ⟨p0, p1, p2, -, -, -, pz⟩ := three_of hx5
    have r1 : w2.cell? ⟨gd, 1, none⟩ = _ := (World.cell?_of_block (w := w1) (w' := w2) (a := ⟨gd, 1, none⟩) hxg).trans g1
    have s1 : w2.frozen? ⟨gd, 1, none⟩ = false := by rw [show w2.frozen? ⟨gd, 1, none⟩ = w1.frozen? ⟨gd, 1, none⟩ from by simp [World.frozen?, hxg]]; exact h1
    have gz2 : gd < w2.heap.size := by omega
    have HNO2 : Hid (∀ k, (Value.slice a2 (i + (fv.length - (i + 1))) k2).ownBlock = some k → w.heap.size < k ∧ k < w2.heap.size) := Lib.hid fun k hk => by
      have h1 := (ho2.lt k hk).2
      rcases hw2 with h | h
      · rw [h] at hk; have := HNO1.out k hk; omega
      · rw [hk] at h; cases h; omega
    have hs2 := hg2.size
    have HOLD2 : Hid (∀ k, k < w.heap.size → w2.heap[k]? = w.heap[k]?) := Lib.hid fun k hk => (hg2.block k (by omega) (fun h => by have := HNO1.out _ h.symm; omega)).trans (HOLD1.out k hk)
    have HGD2 : Hid (w2.heap[gd]? = w.heap[gd]?) := Lib.hid (HOLD2.out gd hz)
    have HT2 : Hid (w2.os = w.os ∧ w2.tape = w.tape ∧ w2.output = w.output) := Lib.hid ⟨hg2.os.trans HT1.out.1, hg2.tape.trans HT1.out.2.1, hg2.output.trans HT1.out.2.2⟩
    have HX42 := Lib.hid hx4
    have HX52 := Lib.hid hx5
    have HO2 := Lib.hid ho2
    have HG2 := Lib.hid hg2
    have HW2 := Lib.hid hw2
    clear hx4 hx5 hxg ho2 hg2 hw2
    go_wp2_with fail
    obtain ⟨wF, hwF⟩ : ∃ wF, wF = (((w2.setCell ⟨gd, 1, none⟩ (.slice a2 (i + (fv.length - (i + 1))) k2)).setCell ⟨w.heap.size, 0, none⟩ (.string nm)).setCell ⟨w.heap.size, 1, none⟩ (.slice va bl vc)).setCell ⟨w.heap.size, 2, none⟩ (.int .i64 (sf : Int)) := ⟨_, rfl⟩
    have hF4 : wF.heap[w.heap.size]? = some (.cells #[.string nm, .slice va bl vc, .int .i64 (sf : Int)] 147) := by
      have q0 := old_set (a := ⟨gd, 1, none⟩) (v := .slice a2 (i + (fv.length - (i + 1))) k2) HX42.out (by simp; omega)
      have q1 := heap_setCell_same _ _ 0 _ _ (.string nm) q0
      have q2 := heap_setCell_same _ _ 1 _ _ (.slice va bl vc) q1
      have q3 := heap_setCell_same _ _ 2 _ _ (.int .i64 (sf : Int)) q2
      rw [hwF, q3]; simp
    have hFg : wF.heap[gd]? = some (.cells #[.int .i64 d.room, .slice a2 (i + (fv.length - (i + 1))) k2, .bool d.ends, .int .i64 cc] 69) := by
      have q0 := heap_setCell_same _ _ 1 _ _ (.slice a2 (i + (fv.length - (i + 1))) k2) (HGD2.out.trans HBX.out)
      rw [hwF, Below.heap_setCell _ _ _ _ (by simp; omega), Below.heap_setCell _ _ _ _ (by simp; omega), Below.heap_setCell _ _ _ _ (by simp; omega), q0]; simp
    have hfin := take_done HAT.out HX.out hi HCC.out (w2 := w2) (wF := wF) (v2 := .slice a2 (i + (fv.length - (i + 1))) k2) (cc := cc) (by omega) HOLD2.out HT2.out (by
        rw [erase_parts, flCells_append, show (fv.take i ++ fv.drop (i + 1)).length = i + (fv.length - (i + 1)) from by simp; omega]; exact HO2.out) HNO2.out
      (fun k h1 h2 => by rw [hwF, Below.heap_setCell _ _ _ _ (by simpa using h2), Below.heap_setCell _ _ _ _ (by simpa using h2), Below.heap_setCell _ _ _ _ (by simpa using h2), Below.heap_setCell _ _ _ _ (by simpa using h1)]) hFg (by rw [hwF]; simp) (by rw [hwF]; exact ⟨rfl, rfl, rfl⟩)
    rw [← hwF]
    exact bodyPost_ret (v := .agg #[.string nm, .slice va bl vc, .int .i64 (sf : Int)]) (results_cell_row (P := Tryz.prog) Tryz.results135 _ _ w.heap.size 147 _ (0, 0) _ rfl hF4 Tryz.underlying147 rfl (by kernel_rfl)) rfl ⟨.slice a2 (i + (fv.length - (i + 1))) k2, rfl, hfin.1, hfin.2.1, fun k hk => hfin.2.2.1 k (by rw [HVI.out, ownBlock_len (m := bl) (c' := vc)]; exact hk), hfin.2.2.2⟩
end Go.Proofs.YtbcpcopapbgcdaaGreatDoor.M
