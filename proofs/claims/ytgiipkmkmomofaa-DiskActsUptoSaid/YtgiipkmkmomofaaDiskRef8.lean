/- The document's disk: Sync. -/
import Derived.Test.YtgiipkmkmomofaaDiskRef7
import Derived.Deep.LoopGhost
import Derived.StillTailTactics
namespace Go.Proofs.Ytgiipkmkmomofaa.M
open Go.RowKit
open D (Fl Dk)

/-- The state at the head of the loop that makes files safe. -/
def SyncAt (w1 : World) (X : Nat → Prop) (gd : Nat) (d : Dk) (vl : Value) (names : List ByteArray) (k : Nat) (wr : World) : Prop :=
  k ≤ names.length ∧ Only X w1 wr ∧ wr.heap.size = w1.heap.size ∧ ∃ fv, DkAt wr X gd { d with fs := (names.take k).foldl (fun fs s => D.syncAt fs (D.find fs s)) d.fs } vl fv

theorem SyncAt.drew {w1 wr : World} {X : Nat → Prop} {gd k : Nat} {d : Dk} {vl : Value} {names : List ByteArray} (h : SyncAt w1 X gd d vl names k wr) : SyncAt w1 X gd d vl names k wr.drew := by
  obtain ⟨h1, h2, h3, fv, h4⟩ := h
  exact ⟨h1, ⟨h2.os, h2.tape, h2.output, h2.size, h2.block⟩, h3, fv, h4.same (fun _ h => h) fun _ _ => rfl⟩

set_option maxRecDepth 20000 in
set_option maxHeartbeats 3200000 in
theorem RefSync_any (d : Dk) (X : Nat → Prop) (gd : Nat) (names : List ByteArray) (F : Nat → Prop) (vn : Value) (w : World) (hd : DskIn w X gd d) (hf : Hid (Fine d)) (hv : RepSl w F names vn) (hF : ∀ k, F k → k < w.heap.size ∧ ¬ X k) :
    Calls Try.prog 30 #[.pointer (some ⟨gd, 0, none⟩), vn] w (CallPost w X gd (D.sync d names)) := by
  obtain ⟨na, nc, rfl, hnl⟩ := hv.slice
  have HX := Lib.hid hd.2
  have HD := Lib.hid hd.1
  have HV := Lib.hid hv
  have HF := Lib.hid hF
  clear hd hv hF
  cases hst : d.stopped with
  | true =>
    have HR : Hid (D.sync d names = (32, d)) := Lib.hid (sync_32 hst)
    have HT := Lib.hid (stopped_tick hst)
    have HST := Lib.hid hst
    clear hst
    go_enter Try.func30, Try.ntmps30
    go_wp2_with fail
    refine (RefStopped_any d X gd _ HD.out (Lib.hid hf.out.2.1)).mono ?_
    rintro e w1 ⟨rfl, ho, hd1, hs1⟩
    rw [HST.out]
    rw [HT.out] at hd1
    have HO := Lib.hid ho
    have HD1 := Lib.hid hd1
    clear ho hd1 hs1
    go_wp2_with fail
    go_ret
    exact ⟨by rw [HR.out]; rfl, HO.out, by rw [HR.out]; exact HD1.out.up⟩
  | false =>
    have HST := Lib.hid hst
    clear hst
    go_enter Try.func30, Try.ntmps30
    go_wp2_with fail
    refine (RefStopped_any d X gd _ HD.out (Lib.hid hf.out.2.1)).mono ?_
    rintro e w1 ⟨rfl, ho, hd1, hs1⟩
    rw [HST.out]
    have HO := Lib.hid ho
    have HD1 := Lib.hid hd1
    have HS1 := Lib.hid hs1
    have hv1 : RepSl w1 (fun k => F k) names (.slice na names.length nc) := HV.out.same (fun _ h => h) fun k hk => ho.block k (HF.out k hk).1 (HF.out k hk).2
    have HV1 := Lib.hid hv1
    clear ho hd1 hs1 hv1
    go_wp2_with fail
    go_loop [5] (fun i => ∃ k : Nat, k ≤ names.length ∧ i = .int .i64 (k : Int) ∧ Hid ((names.take k).all (D.isThere d.fs) = true)) (fun i => names.length - (intOf i).toNat)
    case atStart => exact ⟨0, Nat.zero_le _, rfl, Lib.hid rfl⟩
    case round =>
      obtain ⟨k, hk, rfl, HA⟩ := hrel
      by_cases hlt : k < names.length
      · have hkk : (k : Int) < (names.length : Int) := by omega
        obtain ⟨b, off, rfl, hFb, hc⟩ := HV1.out.elem k hlt
        have hbz : b < w1.heap.size := by rw [HS1.out]; exact (HF.out b hFb).1
        obtain ⟨s, hs⟩ : ∃ s, s = names[k] := ⟨_, rfl⟩
        rw [← hs] at hc
        have HSN := Lib.hid hs
        clear hs
        go_wp2_with fail
        refine (RefFind_any d.tick X gd s _ HD1.out).mono ?_
        rintro e w' ⟨rfl, rfl⟩
        rw [tick_fs]
        cases hta : D.isThere d.fs s with
        | false =>
          have HE : Hid (D.sync d names = (30, d.tick)) := Lib.hid (sync_30 HST.out (by
            rw [List.all_eq_false]
            exact ⟨names[k], List.getElem_mem hlt, by rw [← HSN.out, hta]; simp⟩))
          rw [findR_neg hta]
          clear hta
          go_wp2_with fail
          go_ret
          exact ⟨by rw [HE.out]; rfl, HO.out, by rw [HE.out]; exact HD1.out.up⟩
        | true =>
          obtain ⟨h1, h2⟩ := findR_pos hta
          rw [h1]
          have HN : Hid ((names.take (k + 1)).all (D.isThere d.fs) = true) := Lib.hid (by
            rw [List.take_succ_eq_append_getElem hlt, List.all_append, HA.out, ← HSN.out]
            simp [hta])
          clear h1 h2 hta
          go_wp2_with fail
          go_round
          case rel => exact ⟨k + 1, by omega, by go_num, HN⟩
          case measure => simp [intOf]; omega
      · have hkk : ¬ (k : Int) < (names.length : Int) := by omega
        obtain rfl : k = names.length := by omega
        have HALL : Hid (names.all (D.isThere d.fs) = true) := Lib.hid (by
          have := HA.out
          rw [List.take_length] at this
          exact this)
        obtain ⟨vl, fv, hat⟩ := HD1.out
        have HS0 : Hid (SyncAt w1 X gd d.tick vl names 0 w1) := Lib.hid ⟨Nat.zero_le _, Only.refl _ _, rfl, fv, by simpa using hat⟩
        have HFX : Hid (∀ k, X k → k < w1.heap.size) := Lib.hid fun k hk => by rw [HS1.out]; exact HX.out k hk
        clear hat
        go_wp2_with fail
        go_loopw [6, 7] (fun i _ wr => ∃ k : Nat, i = .int .i64 (k : Int) ∧ SyncAt w1 X gd d.tick vl names k wr) (fun i _ _ => names.length - (intOf i).toNat)
        case atStart => exact ⟨0, rfl, HS0.out⟩
        case round =>
          obtain ⟨k, rfl, hat⟩ := hrel
          obtain ⟨hk2, ho, hsz, fv, hat⟩ := hat
          have HOW := Lib.hid ho
          have HSZ := Lib.hid hsz
          have HAT := Lib.hid hat
          clear ho hsz hat
          by_cases hlt2 : k < names.length
          · have hkk2 : (k : Int) < (names.length : Int) := by omega
            have hv2 : RepSl wr (fun k => F k) names (.slice na names.length nc) := HV1.out.same (fun _ h => h) fun j hj => HOW.out.block j (by rw [HS1.out]; exact (HF.out j hj).1) (HF.out j hj).2
            obtain ⟨b, off, rfl, hFb, hc⟩ := hv2.elem k hlt2
            have hbz : b < wr.heap.size := by rw [HSZ.out, HS1.out]; exact (HF.out b hFb).1
            obtain ⟨s, hs⟩ : ∃ s, s = names[k] := ⟨_, rfl⟩
            rw [← hs] at hc
            obtain ⟨fs, hfs⟩ : ∃ fs, fs = (names.take k).foldl (fun fs s => D.syncAt fs (D.find fs s)) d.tick.fs := ⟨_, rfl⟩
            have hat := HAT.out
            rw [← hfs] at hat
            have hth : D.isThere fs s = true := by
              have h1 := List.all_eq_true.1 HALL.out s (by rw [hs]; exact List.getElem_mem hlt2)
              have h2 : fs.map (·.nm) = d.fs.map (·.nm) := by rw [hfs, syncs_names, tick_fs]
              have h3 : fs.length = d.fs.length := by simpa using congrArg List.length h2
              unfold D.isThere at h1 ⊢
              rw [find_names h2, h3]; exact h1
            obtain ⟨q1, q2⟩ := findR_pos hth
            obtain ⟨i, hi⟩ : ∃ i, i = D.find fs s := ⟨_, rfl⟩
            rw [← hi] at q1 q2
            have hfl : fs.length = fv.length := hat.len.2
            have hil : i < fv.length := by omega
            obtain ⟨cc, ⟨-, c1, -, -⟩, -, hz, -, -⟩ := hat.cells
            obtain ⟨ga, c, rfl, hXa, -, hgz, hnc, hcm, -, e1, e2, hfz⟩ := hat.file i hil
            obtain ⟨ba, bc, hb, hbl⟩ := hat.bytes i hil
            obtain ⟨n, hn⟩ : ∃ n, n = fv[i].1.b.length := ⟨_, rfl⟩
            obtain ⟨sf, hsf⟩ : ∃ sf, sf = fv[i].1.safe := ⟨_, rfl⟩
            have HDS : Hid (Dsk wr X gd { d.tick with fs := fs }) := Lib.hid ⟨_, fv, hat⟩
            rw [hb, ← hn] at e1
            rw [← hsf] at e2
            have f2 := hfz (i * 3 + 2)
            have hgt := hat.get i hil (by show i < fs.length; omega)
            have HNX : Hid (SyncAt w1 X gd d.tick (.slice (some ⟨ga, 0, none⟩) fv.length c) names (k + 1) (wr.setCell ⟨ga, i * 3 + 2, none⟩ (.int .i64 (n : Int)))) := Lib.hid (by
              refine ⟨by omega, HOW.out.set (.inl hXa) _, by simp [HSZ.out], fv.set i ({ fv[i].1 with safe := n }, fv[i].2), ?_⟩
              have hp := hat.put (Y := X) (w1 := wr) (p := ({ fv[i].1 with safe := n }, fv[i].2)) (j := 2) (x := .int .i64 (n : Int)) hil (fun _ h => h) (fun j hj => by rw [HSZ.out]; exact HFX.out j hj) (fun _ _ _ => rfl) (by omega) (by simp [flV]) (hat.each (fv[i]) (List.getElem_mem hil)) (fun _ h => .inl h)
              have e : (names.take (k + 1)).foldl (fun fs s => D.syncAt fs (D.find fs s)) d.tick.fs = fs.set i { fv[i].1 with safe := n } := by
                rw [List.take_succ_eq_append_getElem hlt2, List.foldl_append, ← hfs, ← hs]
                simp only [List.foldl_cons, List.foldl_nil]
                rw [← hi]
                unfold D.syncAt
                rw [modify_set _ _ _ q2, hn, hgt]
              simp only at hp ⊢
              rw [e]
              exact hp)
            have Q1 := Lib.hid q1
            have hil2 : (i : Int) < (fv.length : Int) := by omega
            have hnl2 : (n : Int) ≤ 9223372036854775807 := by omega
            clear hfs hat hth q1 q2 hi hfl hb hn hsf hgt hs hv2 hbl hfz
            go_wp2_with fail
            refine (RefFind_any _ X gd s _ HDS.out).mono ?_
            rintro e w' ⟨rfl, rfl⟩
            rw [show ({ d.tick with fs := fs } : Dk).fs = fs from rfl, Q1.out]
            go_wp2_with fail
            go_still_tail 16, (by kernel_rfl)
            go_wp2_with fail
            go_roundw
            case rel => exact ⟨k + 1, by go_num, HNX.out.drew⟩
            case measure => simp [intOf]; omega
          · have hkk2 : ¬ (k : Int) < (names.length : Int) := by omega
            obtain rfl : k = names.length := by omega
            have HE : Hid (D.sync d names = _) := Lib.hid (sync_0 HST.out HALL.out)
            go_wp2_with fail
            go_ret
            refine ⟨by rw [HE.out]; rfl, HO.out.trans (HOW.out.mono fun k hk => .inl hk), ?_⟩
            rw [HE.out]
            have := HAT.out
            simp only [List.take_length, tick_fs] at this
            exact Dsk.up ⟨_, _, this⟩
end Go.Proofs.Ytgiipkmkmomofaa.M
