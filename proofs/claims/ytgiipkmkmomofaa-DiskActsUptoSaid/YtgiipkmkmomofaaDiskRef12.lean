/- The document's disk: Remove. -/
import Derived.Test.YtgiipkmkmomofaaDiskRef8
import Derived.Deep.QuietTactic
import Derived.BigQuiet
namespace Go.Proofs.Ytgiipkmkmomofaa.M
open Go.RowKit
open D (Fl Dk)

theorem remove_32 {d : Dk} {names : List ByteArray} (h : d.stopped = true) : D.remove d names = (32, d) := by unfold D.remove; rw [if_pos h]

theorem remove_30 {d : Dk} {names : List ByteArray} (h : d.stopped = false) (hn : D.eachOnce d.fs names = false) : D.remove d names = (30, d.tick) := by
  unfold D.remove
  rw [if_neg (by rw [h]; simp)]
  simp only [tick_fs]
  rw [if_pos hn]

theorem remove_0 {d : Dk} {names : List ByteArray} (h : d.stopped = false) (hn : D.eachOnce d.fs names = true) : D.remove d names = (0, { d.tick with fs := names.foldl (fun fs s => fs.eraseIdx (D.find fs s)) d.fs }) := by
  unfold D.remove
  rw [if_neg (by rw [h]; simp)]
  simp only [tick_fs]
  rw [if_neg (by rw [hn]; simp)]

/-- Only draws were made. -/
def Calm (w wr : World) : Prop := Only (fun _ => False) w wr ∧ wr.heap.size = w.heap.size

theorem Calm.drewN {w wr : World} {n : Nat} (h : Calm w wr) : Calm w (wr.drewN n) := ⟨⟨h.1.os, h.1.tape, h.1.output, h.1.size, h.1.block⟩, h.2⟩

/-- The state at the head of the loop that takes files out. -/
def RemAt (w1 : World) (X : Nat → Prop) (gd : Nat) (d : Dk) (names : List ByteArray) (k : Nat) (wr : World) : Prop :=
  k ≤ names.length ∧ Only X w1 wr ∧ Dsk wr (More X w1 wr) gd { d with fs := (names.take k).foldl (fun fs s => fs.eraseIdx (D.find fs s)) d.fs } ∧ ((names.take k).foldl (fun fs s => fs.eraseIdx (D.find fs s)) d.fs).length ≤ 4096

set_option maxRecDepth 20000 in
set_option maxHeartbeats 3200000 in
theorem RefRemove_any (d : Dk) (X : Nat → Prop) (gd : Nat) (names : List ByteArray) (F : Nat → Prop) (vn : Value) (w : World) (hd : DskIn w X gd d) (hf : Hid (Fine d)) (hv : RepSl w F names vn) (hF : ∀ k, F k → k < w.heap.size ∧ ¬ X k) :
    Calls Try.prog 32 #[.pointer (some ⟨gd, 0, none⟩), vn] w (CallPost w X gd (D.remove d names)) := by
  obtain ⟨na, nc, rfl, hnl⟩ := hv.slice
  have HX := Lib.hid hd.2
  have HD := Lib.hid hd.1
  have HV := Lib.hid hv
  have HF := Lib.hid hF
  clear hd hv hF
  cases hst : d.stopped with
  | true =>
    have HR : Hid (D.remove d names = (32, d)) := Lib.hid (remove_32 hst)
    have HT := Lib.hid (stopped_tick hst)
    have HST := Lib.hid hst
    clear hst
    go_enter Try.func32, Try.ntmps32
    go_wp2_with fail
    refine (RefStopped_any d X gd _ HD.out (Lib.hid hf.out.2.1)).mono ?_
    rintro e w1 ⟨rfl, ho, hd1, hs1⟩
    rw [HST.out]
    rw [HT.out] at hd1
    have HO := Lib.hid ho
    have HD1 := Lib.hid hd1
    clear ho hd1 hs1
    go_wp2_with fail
    go_ret
    exact ⟨by rw [HR.out]; rfl, HO.out, by rw [HR.out]; exact HD1.out.up⟩
  | false =>
    have HST := Lib.hid hst
    clear hst
    go_enter Try.func32, Try.ntmps32
    go_wp2_with fail
    refine (RefStopped_any d X gd _ HD.out (Lib.hid hf.out.2.1)).mono ?_
    rintro e w1 ⟨rfl, ho, hd1, hs1⟩
    rw [HST.out]
    have HO := Lib.hid ho
    have HD1 := Lib.hid hd1
    have HS1 := Lib.hid hs1
    have HX1 : Hid (∀ k, X k → k < w1.heap.size) := Lib.hid fun k hk => by rw [hs1]; exact HX.out k hk
    have hv1 : RepSl w1 (fun k => F k) names (.slice na names.length nc) := HV.out.same (fun _ h => h) fun k hk => ho.block k (HF.out k hk).1 (HF.out k hk).2
    have HV1 := Lib.hid hv1
    have HF1 : Hid (∀ k, F k → k < w1.heap.size ∧ ¬ X k) := Lib.hid fun k hk => ⟨by rw [hs1]; exact (HF.out k hk).1, (HF.out k hk).2⟩
    clear ho hd1 hs1 hv1
    go_wp2_with fail
    go_loopg [5, 6] names.length (fun g i _ wr => ∃ k : Nat, i = .int .i64 (k : Int) ∧ k + g = names.length ∧ Hid (Calm w1 wr) ∧ Hid (D.OnceTo d.fs names k))
    case atStart => exact ⟨0, rfl, by omega, Lib.hid ⟨Only.refl _ _, rfl⟩, Lib.hid fun i hi h => by omega⟩
    case round =>
      obtain ⟨k, rfl, hkg, HC, HK⟩ := hrel
      obtain ⟨go, hgo⟩ : ∃ go : Nat, go = gk := ⟨_, rfl⟩
      subst hgo
      have HDR : Hid (Dsk wr X gd d.tick) := Lib.hid (HD1.out.same (fun _ h => h) fun j hj => HC.out.1.block j (HX1.out j hj) fun h => h)
      by_cases hlt : k < names.length
      · have hkk : (k : Int) < (names.length : Int) := by omega
        have hvr : RepSl wr (fun k => F k) names (.slice na names.length nc) := HV1.out.same (fun _ h => h) fun j hj => HC.out.1.block j (HF1.out j hj).1 fun h => h
        have HVR := Lib.hid hvr
        obtain ⟨b, off, rfl, hFb, hc⟩ := hvr.elem k hlt
        have hbz : b < wr.heap.size := by rw [HC.out.2]; exact (HF1.out b hFb).1
        obtain ⟨s, hs⟩ : ∃ s, s = names[k] := ⟨_, rfl⟩
        rw [← hs] at hc
        have HSN := Lib.hid hs
        clear hs hvr
        go_wp2_with fail
        refine (RefFind_any d.tick X gd s _ HDR.out).mono ?_
        rintro e w' ⟨rfl, rfl⟩
        rw [tick_fs]
        cases hta : D.isThere d.fs s with
        | false =>
          have HE : Hid (D.remove d names = (30, d.tick)) := Lib.hid (remove_30 HST.out (by
            cases h : D.eachOnce d.fs names with
            | false => rfl
            | true =>
              have := (D.not_once d.fs names h k hlt hlt).1
              rw [← HSN.out, hta] at this
              cases this))
          rw [findR_neg hta]
          clear hta
          go_wp2_with fail
          go_ret
          exact ⟨by rw [HE.out]; rfl, HO.out.trans (HC.out.1.mono fun _ h => h.elim), by rw [HE.out]; exact HDR.out.up⟩
        | true =>
          obtain ⟨h1, h2⟩ := findR_pos hta
          rw [h1]
          have HTA := Lib.hid hta
          clear h1 h2 hta
          go_wp2_with fail
          obtain ⟨wo, hwo⟩ : ∃ wo : World, wo = wr := ⟨_, rfl⟩
          subst hwo
          go_loopg [6] k (fun g z wr => ∃ j : Nat, z = .int .i64 (j : Int) ∧ j + g = k ∧ Hid (Calm wo wr) ∧ Hid (∀ (m : Nat) (hm : m < j) (h : m < names.length), (names[m].toList == s.toList) = false))
          case atStart => exact ⟨0, rfl, by omega, Lib.hid ⟨Only.refl _ _, rfl⟩, Lib.hid fun m hm => by omega⟩
          case round =>
            obtain ⟨j, rfl, hjg, HC2, HJ⟩ := hrel
            by_cases hjk : j < k
            · have hjj : (j : Int) < (k : Int) := by omega
              have hjl : j < names.length := by omega
              have hvr2 : RepSl wr (fun k => F k) names (.slice (some ⟨b, off, none⟩) names.length nc) := HVR.out.same (fun _ h => h) fun m hm => HC2.out.1.block m (by rw [HC.out.2]; exact (HF1.out m hm).1) fun h => h
              obtain ⟨b', off', he, hFb', hcj⟩ := hvr2.elem j hjl
              cases he
              obtain ⟨b', off', he, -, hck⟩ := hvr2.elem k hlt
              cases he
              rw [← HSN.out] at hck
              have hbz2 : b < wr.heap.size := by rw [HC2.out.2]; exact hbz
              have hjl2 : (j : Int) < (names.length : Int) := by omega
              obtain ⟨t, ht⟩ : ∃ t, t = names[j] := ⟨_, rfl⟩
              rw [← ht] at hcj
              have HTN := Lib.hid ht
              clear ht hvr2 hc
              cases heq : (t.toList == s.toList) with
              | true =>
                have HE : Hid (D.remove d names = (30, d.tick)) := Lib.hid (remove_30 HST.out (by
                  cases h : D.eachOnce d.fs names with
                  | false => rfl
                  | true =>
                    have := (D.not_once d.fs names h k hlt hlt).2 j hjk
                    rw [← HSN.out, ← HTN.out, heq] at this
                    cases this))
                have heq1 : (t.toList == s.toList) = true := heq
                clear heq
                go_wp2_with fail
                go_quiet (fail)
                go_wp2_with fail
                go_ret
                exact ⟨by rw [HE.out]; rfl, (HO.out.trans (HC.out.1.mono fun _ h => h.elim)).trans (Only.mono (X := fun _ => False) ⟨HC2.out.1.os, HC2.out.1.tape, HC2.out.1.output, HC2.out.1.size, HC2.out.1.block⟩ fun _ h => h.elim), by
                  rw [HE.out]
                  exact (HDR.out.same (fun _ h => .inl h) fun m hm => HC2.out.1.block m (by rw [HC.out.2]; exact HX1.out m hm) fun h => h)⟩
              | false =>
                have HJ2 : Hid (∀ (m : Nat) (hm : m < j + 1) (h : m < names.length), (names[m].toList == s.toList) = false) := Lib.hid fun m hm h => by
                  rcases Nat.lt_or_ge m j with h1 | h1
                  · exact HJ.out m h1 h
                  · obtain rfl : m = j := by omega
                    rw [← HTN.out]; exact heq
                have heq1 : (t.toList == s.toList) = false := heq
                clear heq
                go_wp2_with fail
                go_quiet (fail)
                go_wp2_with fail
                go_roundg (gk - 1)
                case measure => omega
                case rel => exact ⟨j + 1, by go_num, by omega, Lib.hid HC2.out.drewN, HJ2⟩
            · have hjj : ¬ (j : Int) < (k : Int) := by omega
              obtain rfl : j = k := by omega
              have HN : Hid (D.OnceTo d.fs names (j + 1)) := Lib.hid fun i hi hij => by
                rcases Nat.lt_or_ge i j with h1 | h1
                · exact HK.out i hi h1
                · obtain rfl : i = j := by omega
                  exact ⟨by rw [← HSN.out]; exact HTA.out, fun m hm => by rw [← HSN.out]; exact HJ.out m hm (by omega)⟩
              have HCN : Hid (Calm w1 wr) := Lib.hid ⟨HC.out.1.trans (HC2.out.1.mono fun _ h => h.elim), HC2.out.2.trans HC.out.2⟩
              go_wp2_with fail
              go_roundg (go - 1)
              case measure => omega
              case rel => exact ⟨j + 1, by go_num, by omega, HCN, HN⟩
      · have hkk : ¬ (k : Int) < (names.length : Int) := by omega
        obtain rfl : k = names.length := by omega
        have HALL : Hid (D.eachOnce d.fs names = true) := Lib.hid (D.once_of d.fs names HK.out)
        obtain ⟨ws, hws⟩ : ∃ ws : World, ws = wr := ⟨_, rfl⟩
        subst hws
        have HR0 : Hid (RemAt ws X gd d.tick names 0 ws) := Lib.hid ⟨Nat.zero_le _, Only.refl _ _, HDR.out.up, by have := hf.out.1; simp only [List.take_zero, List.foldl_nil, tick_fs]; exact this⟩
        have HXS : Hid (∀ k, X k → k < ws.heap.size) := Lib.hid fun k hk => by rw [HC.out.2]; exact HX1.out k hk
        have HVS : Hid (RepSl ws (fun k => F k) names (.slice na names.length nc)) := Lib.hid (HV1.out.same (fun _ h => h) fun j hj => HC.out.1.block j (HF1.out j hj).1 fun h => h)
        have HFS : Hid (∀ k, F k → k < ws.heap.size ∧ ¬ X k) := Lib.hid fun k hk => ⟨by rw [HC.out.2]; exact (HF1.out k hk).1, (HF1.out k hk).2⟩
        go_wp2_with fail
        go_loopw [7] (fun i wr => ∃ k : Nat, i = .int .i64 (k : Int) ∧ RemAt ws X gd d.tick names k wr) (fun i _ => names.length - (intOf i).toNat)
        case atStart => exact ⟨0, rfl, HR0.out⟩
        case round =>
          obtain ⟨k, rfl, hat⟩ := hrel
          obtain ⟨hk2, ho, hdk, h4⟩ := hat
          have HOW := Lib.hid ho
          have HDK := Lib.hid hdk
          have HL4 := Lib.hid h4
          clear ho hdk h4
          by_cases hlt2 : k < names.length
          · have hkk2 : (k : Int) < (names.length : Int) := by omega
            have hv2 : RepSl wr (fun k => F k) names (.slice na names.length nc) := HVS.out.same (fun _ h => h) fun j hj => HOW.out.block j (HFS.out j hj).1 (HFS.out j hj).2
            obtain ⟨b, off, rfl, hFb, hc⟩ := hv2.elem k hlt2
            have hbz : b < wr.heap.size := Nat.lt_of_lt_of_le (HFS.out b hFb).1 HOW.out.size
            obtain ⟨s, hs⟩ : ∃ s, s = names[k] := ⟨_, rfl⟩
            rw [← hs] at hc
            have hth := D.isThere_erases HALL.out k hlt2
            rw [← hs] at hth
            obtain ⟨fs, hfs⟩ : ∃ fs, fs = (names.take k).foldl (fun fs s => fs.eraseIdx (D.find fs s)) d.tick.fs := ⟨_, rfl⟩
            have hdk := HDK.out
            have hl4 := HL4.out
            rw [← hfs] at hdk hl4
            rw [← tick_fs d, ← hfs] at hth
            obtain ⟨q1, q2⟩ := findR_pos hth
            obtain ⟨i, hi⟩ : ∃ i, i = D.find fs s := ⟨_, rfl⟩
            rw [← hi] at q1 q2
            obtain ⟨vl, fv, hat⟩ := hdk
            have hil : i < fv.length := by have := hat.len.2; simp only at this; omega
            have HATR := Lib.hid hat
            have Q1 := Lib.hid q1
            have HIL := Lib.hid hil
            have HLF : Hid (fv.length ≤ 4096) := Lib.hid (by have := hat.len.2; simp only at this; omega)
            have HNF : Hid ((names.take (k + 1)).foldl (fun fs s => fs.eraseIdx (D.find fs s)) d.tick.fs = fs.eraseIdx i) := Lib.hid (by
              rw [List.take_succ_eq_append_getElem hlt2, List.foldl_append, ← hfs, ← hs]
              simp only [List.foldl_cons, List.foldl_nil]
              rw [← hi])
            have HQ2 := Lib.hid q2
            have HXW : Hid (∀ j, More X ws wr j → j < wr.heap.size) := Lib.hid fun j hj => by
              rcases hj with hj | hj
              · exact Nat.lt_of_lt_of_le (HXS.out j hj) HOW.out.size
              · exact hj.2
            clear hfs hat hth q1 q2 hi hil hs hv2 hl4
            go_wp2_with fail
            refine (RefFind_any { d.tick with fs := fs } (More X ws wr) gd s _ ⟨vl, fv, HATR.out⟩).mono ?_
            rintro e w' ⟨rfl, rfl⟩
            rw [show ({ d.tick with fs := fs } : Dk).fs = fs from rfl, Q1.out]
            go_wp2_with fail
            refine (RefTake_any _ (More X ws wr) gd vl fv i _ HATR.out HXW.out HIL.out HLF).mono ?_
            rintro e w2 ⟨vl2, rfl, ho2, hat2, -, -⟩
            have HN : Hid (RemAt ws X gd d.tick names (k + 1) w2) := Lib.hid (by
              have s1 := HOW.out.size
              have s2 := ho2.size
              refine ⟨by omega, HOW.out.trans (ho2.mono fun j hj => hj ▸ HATR.out.own), ?_, ?_⟩
              · rw [HNF.out]
                refine ⟨vl2, _, hat2.same (fun j hj => ?_) fun _ _ => rfl⟩
                exact More.trans s1 s2 hj
              · rw [HNF.out, List.length_eraseIdx]
                have := HLF.out
                have h5 := HATR.out.len.2
                simp only at h5
                split <;> omega)
            clear ho2 hat2
            go_wp2_with fail
            go_roundw
            case rel => exact ⟨k + 1, by go_num, HN.out⟩
            case measure => simp [intOf]; omega
          · have hkk2 : ¬ (k : Int) < (names.length : Int) := by omega
            obtain rfl : k = names.length := by omega
            have HE : Hid (D.remove d names = _) := Lib.hid (remove_0 HST.out HALL.out)
            go_wp2_with fail
            go_ret
            have s1 := HO.out.size
            have s2 := HC.out.1.size
            have s3 := HOW.out.size
            refine ⟨by rw [HE.out]; rfl, (HO.out.trans (HC.out.1.mono fun _ h => h.elim)).trans (HOW.out.mono fun k hk => .inl hk), ?_⟩
            rw [HE.out]
            have := HDK.out
            simp only [List.take_length, tick_fs] at this
            refine this.same (fun j hj => ?_) fun _ _ => rfl
            rcases hj with hj | hj
            · exact .inl hj
            · exact .inr ⟨by omega, hj.2⟩
end Go.Proofs.Ytgiipkmkmomofaa.M
