/- The document's disk: find, Stopped, Stop. -/
import Derived.Test.YtgiipkmkmomofaaDiskRef1
namespace Go.Proofs.Ytgiipkmkmomofaa.M
open Go.RowKit
open D (Fl Dk)

set_option maxHeartbeats 800000 in
theorem RefFind_any (d : Dk) (X : Nat → Prop) (gd : Nat) (s : ByteArray) (w : World) (hd : Dsk w X gd d) :
    Calls Try.prog 55 #[.pointer (some ⟨gd, 0, none⟩), .string s] w fun e w' => e = .returned (.int .i64 (D.findR d.fs s)) ∧ w = w' := by
  obtain ⟨vl, fv, hat⟩ := hd
  obtain ⟨-, ⟨-, c1, -, -⟩, -, hz, -, -⟩ := hat.cells
  obtain ⟨va, vc, rfl⟩ := owned_slice hat.row
  have hfl : (fv.length : Int) ≤ 9223372036854775807 := by have := hat.len.1; omega
  have HLN := Lib.hid hat.len.2
  have HAT := Lib.hid hat
  clear hat
  go_enter Try.func55, Try.ntmps55
  go_wp2_with fail
  go_loop [5] (fun i => ∃ k : Nat, k ≤ fv.length ∧ i = .int .i64 (k : Int) ∧ Hid (k ≤ D.find d.fs s)) (fun i => fv.length - (intOf i).toNat)
  case atStart => exact ⟨0, Nat.zero_le _, rfl, Lib.hid (Nat.zero_le _)⟩
  case round =>
    obtain ⟨k, hk, rfl, HR⟩ := hrel
    by_cases hlt : k < fv.length
    · have hkk : (k : Int) < (fv.length : Int) := by omega
      obtain ⟨ga, c, hv, -, -, hgz, -, -, e0, -, -, -⟩ := HAT.out.file k hlt
      cases hv
      have hkd : k < d.fs.length := by have := HLN.out; omega
      have hgt := HAT.out.get k hlt hkd
      obtain ⟨nm, hnm⟩ : ∃ nm, nm = fv[k].1.nm := ⟨_, rfl⟩
      rw [← hnm] at e0
      by_cases heq : (nm.toList == s.toList) = true
      · have HE : Hid (D.findR d.fs s = (k : Int)) := Lib.hid (by
          have := D.find_hit d.fs s k hkd HR.out (by rw [← hgt, ← hnm]; exact heq)
          unfold D.findR
          rw [this, if_pos hkd])
        clear hgt hnm
        go_wp2_with fail
        go_ret
        exact ⟨by rw [HE.out]; rfl, rfl⟩
      · have heq : (nm.toList == s.toList) = false := by simpa using heq
        have HE : Hid (k + 1 ≤ D.find d.fs s) := Lib.hid (D.find_next d.fs s k hkd HR.out (by rw [← hgt, ← hnm]; exact heq))
        clear hgt hnm
        go_wp2_with fail
        go_round
        case rel => exact ⟨k + 1, by omega, by go_num, HE⟩
        case measure => simp [intOf]; omega
    · have hkk : ¬ (k : Int) < (fv.length : Int) := by omega
      have HE : Hid (D.findR d.fs s = -1) := Lib.hid (by
        unfold D.findR
        rw [if_neg (by have := HR.out; have := HLN.out; omega)])
      go_wp2_with fail
      go_ret
      exact ⟨by rw [HE.out]; rfl, rfl⟩

/-- A disk whose own cells alone have turned. -/
theorem DkAt.turned {w w' : World} {X : Nat → Prop} {gd : Nat} {d e : Dk} {vl : Value} {fv : List (Fl × Value)} (h : DkAt w X gd d vl fv) (hf : e.fs = d.fs)
    (hb : ∃ cc : Int, w'.heap[gd]? = some (.cells #[.int .i64 e.room, vl, .bool e.ends, .int .i64 cc] 34) ∧ (e.ends = true → cc = (e.calls : Int))) (ho : ∀ k, k ≠ gd → w'.heap[k]? = w.heap[k]?) : DkAt w' X gd e vl fv := by
  have hn := h.apart
  rw [blocksOf, List.cons_append, List.nodup_cons] at hn
  refine ⟨hb, h.fs.trans hf.symm, ownsRow_same h.row fun k hk => ho k ?_, fun p hp => ownsRow_same (h.each p hp) fun k hk => ho k ?_, h.apart, h.foot⟩
  · intro e
    apply hn.1
    subst e
    simp [hk]
  · intro e
    apply hn.1
    subst e
    rw [List.mem_append, List.mem_flatMap]
    exact .inr ⟨p, hp, by simp [hk]⟩

theorem DkAt.own {w : World} {X : Nat → Prop} {gd : Nat} {d : Dk} {vl : Value} {fv : List (Fl × Value)} (h : DkAt w X gd d vl fv) : X gd := h.foot gd (by simp [blocksOf])

set_option maxHeartbeats 800000 in
theorem RefStopped_any (d : Dk) (X : Nat → Prop) (gd : Nat) (w : World) (hd : Dsk w X gd d) (hc : Hid (d.calls ≤ 9223372036854775807)) :
    Calls Try.prog 54 #[.pointer (some ⟨gd, 0, none⟩)] w fun e w' => e = .returned (.bool d.stopped) ∧ Only X w w' ∧ Dsk w' X gd d.tick ∧ w'.heap.size = w.heap.size := by
  obtain ⟨vl, fv, hat⟩ := hd
  obtain ⟨cc, ⟨-, -, c2, c3⟩, ⟨-, -, -, f3⟩, hz, hbox, hcc⟩ := hat.cells
  have HBX := Lib.hid hbox
  have HAT := Lib.hid hat
  clear hat
  clear hbox
  have hcl : (d.calls : Int) ≤ 9223372036854775807 := by have := hc.out; omega
  cases he : d.ends
  · have HE := Lib.hid he
    rw [he] at c2
    clear he hcc
    go_enter Try.func54, Try.ntmps54
    go_wp2_with fail
    go_ret
    refine ⟨by simp [D.Dk.stopped, HE.out], Only.refl _ _, ⟨vl, fv, ?_⟩, rfl⟩
    have : d.tick = d := by unfold D.Dk.tick; rw [if_neg (by simp [HE.out])]
    rw [this]; exact HAT.out
  · have HE := Lib.hid he
    rw [hcc he] at c3 HBX
    rw [he] at c2
    clear he hcc
    by_cases h0 : d.calls = 0
    · have h00 : ((d.calls : Int) == 0) = true := by simp [h0]
      have H0 := Lib.hid h0
      clear h0
      go_enter Try.func54, Try.ntmps54
      go_wp2_with fail
      go_ret
      refine ⟨by simp [D.Dk.stopped, HE.out, H0.out], Only.refl _ _, ⟨vl, fv, ?_⟩, rfl⟩
      have : d.tick = d := by unfold D.Dk.tick; rw [if_neg (by simp [H0.out])]
      rw [this]; exact HAT.out
    · have h00 : ((d.calls : Int) == 0) = false := by simp; omega
      have h1 : (0 : Int) < (d.calls : Int) := by omega
      have H0 := Lib.hid h0
      clear h0
      go_enter Try.func54, Try.ntmps54
      go_wp2_with fail
      go_ret
      have ht : d.tick = { d with calls := d.calls - 1 } := by unfold D.Dk.tick; rw [if_pos ⟨HE.out, H0.out⟩]
      refine ⟨by simp [D.Dk.stopped, HE.out, H0.out], ⟨rfl, rfl, rfl, by simp, fun k hk hn => Below.heap_setCell _ _ _ _ (by simp; intro e; exact hn (e ▸ HAT.out.own))⟩, ⟨vl, fv, HAT.out.turned (by rw [ht]) ?_ fun k hk => Below.heap_setCell _ _ _ _ (by simpa using hk)⟩, by simp⟩
      refine ⟨((d.calls - 1 : Nat) : Int), ?_, fun _ => by rw [ht]⟩
      rw [heap_setCell_same _ _ _ _ _ _ HBX.out, ht]
      have e1 : (d.calls : Int) - 1 = ((d.calls - 1 : Nat) : Int) := by have := H0.out; omega
      simp [e1]
end Go.Proofs.Ytgiipkmkmomofaa.M
