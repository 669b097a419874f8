/- Pieces given in any order, some twice, with elder ones and spoilt ones between. -/
import Derived.Test.YtfadgojdjpgfoaaDoorCN18
import Derived.Test.YtfadgojdjpgfoaaDoorCN19
import Derived.Deep.CutRange
namespace Go.Proofs.YtfadgojdjpgfoaaDoor.M
open Go.RowKit Go.Maps

/-- What stands ahead of a round. -/
def BkAt (w W2 : World) (gh gt N lo : Nat) (x : List UInt8) (n k : Nat) (S : List Nat) (wr : World) : Prop :=
  BK w W2 gh 300 gt N (lstB x n S) S wr ∧ (∀ j ∈ S, j < N) ∧ S.length = k ∧ ∀ j, lo + j < k → j < N → j ∈ S

set_option maxRecDepth 100000 in
set_option maxHeartbeats 16000000 in
theorem ChunkBack_any (x : List UInt8) (size : Int) (ord : List Int) (F : Nat → Prop) (v0 v2 : Value) (w : World) (h0 : RepB w F x v0) (h2 : RepI w F ord v2) (hF : ∀ k, F k → k < w.heap.size) (hs : -9223372036854775808 ≤ size ∧ size ≤ 9223372036854775807) (hT : Hid (Tab w)) (hTz : Hid (Tz w)) :
    Calls Tryd.prog 5 #[v0, .int .i64 size, v2] w fun e w' => e = .returned (.bool true) ∧ Below w.heap.size w w' := by
  obtain ⟨a0, c0, rfl, -⟩ := h0.slice
  obtain ⟨a2, c2, rfl, -⟩ := h2.slice
  obtain ⟨lx, hlx⟩ : ∃ lx, lx = x.length := ⟨_, rfl⟩
  obtain ⟨lo, hlo⟩ : ∃ lo, lo = ord.length := ⟨_, rfl⟩
  have HAW : Hid (∀ W', Below w.heap.size w W' → Calls Tryd.prog 7 #[] W' fun e w' => e = .returned (.bool true) ∧ Below W'.heap.size W' w') := Lib.hid fun W' hb => awake7_any W' (Lib.hid (hT.out.next hb)) (Lib.hid (hTz.out.next hb))
  have HV0 := Lib.hid h0
  have HV2 := Lib.hid h2
  have HF := Lib.hid hF
  have HLX := Lib.hid hlx
  have HLO := Lib.hid hlo
  have HSZ := Lib.hid hs
  rw [← hlx, ← hlo]
  clear hlx hlo h0 h2 hF hs
  by_cases b1 : 300 < lx
  · have q1 : decide ((lx : Int) > 300) = true := decide_eq_true (by omega)
    go_enter Tryd.func5, Tryd.ntmps5
    go_wp2_with fail
    refine (HAW.out w (Below.refl _ _)).mono ?_
    rintro e w1 ⟨rfl, hb1⟩
    have HB1 : Hid (Below w.heap.size w w1) := Lib.hid hb1
    clear hb1
    go_wp2_with fail
    refine (HAW.out w1 HB1.out).mono ?_
    rintro e w2 ⟨rfl, hb2⟩
    have HB2 : Hid (Below w.heap.size w w2) := Lib.hid (HB1.out.trans (hb2.mono HB1.out.size))
    clear hb2
    go_wp2_with fail
    go_ret
    exact ⟨rfl, HB2.out⟩
  · have q1 : decide ((lx : Int) > 300) = false := decide_eq_false (by omega)
    by_cases b2 : size < 1
    · have q2 : decide (size < 1) = true := decide_eq_true b2
      go_enter Tryd.func5, Tryd.ntmps5
      go_wp2_with fail
      refine (HAW.out w (Below.refl _ _)).mono ?_
      rintro e w1 ⟨rfl, hb1⟩
      have HB1 : Hid (Below w.heap.size w w1) := Lib.hid hb1
      clear hb1
      go_wp2_with fail
      refine (HAW.out w1 HB1.out).mono ?_
      rintro e w2 ⟨rfl, hb2⟩
      have HB2 : Hid (Below w.heap.size w w2) := Lib.hid (HB1.out.trans (hb2.mono HB1.out.size))
      clear hb2
      go_wp2_with fail
      go_ret
      exact ⟨rfl, HB2.out⟩
    · have q2 : decide (size < 1) = false := decide_eq_false b2
      by_cases b3 : 200 < lo
      · have q3 : decide ((lo : Int) > 200) = true := decide_eq_true (by omega)
        go_enter Tryd.func5, Tryd.ntmps5
        go_wp2_with fail
        refine (HAW.out w (Below.refl _ _)).mono ?_
        rintro e w1 ⟨rfl, hb1⟩
        have HB1 : Hid (Below w.heap.size w w1) := Lib.hid hb1
        clear hb1
        go_wp2_with fail
        refine (HAW.out w1 HB1.out).mono ?_
        rintro e w2 ⟨rfl, hb2⟩
        have HB2 : Hid (Below w.heap.size w w2) := Lib.hid (HB1.out.trans (hb2.mono HB1.out.size))
        clear hb2
        go_wp2_with fail
        go_ret
        exact ⟨rfl, HB2.out⟩
      · have q3 : decide ((lo : Int) > 200) = false := decide_eq_false (by omega)
        have kc := fun (w : World) (C : Array Value) (n c : Nat) => Lib.run_convert_bytes_const (P := Tryd.prog) w 24 5 C n c Tryd.underlying24 Tryd.underlying5
        go_enter Tryd.func5, Tryd.ntmps5
        go_wp2_with fail
        refine (HAW.out w (Below.refl _ _)).mono ?_
        rintro e w1 ⟨rfl, hb1⟩
        have HB1 : Hid (Below w.heap.size w w1) := Lib.hid hb1
        clear hb1
        obtain ⟨n, hn⟩ : ∃ n, n = size.toNat := ⟨_, rfl⟩
        have HN : Hid (n = size.toNat ∧ 0 < n) := Lib.hid ⟨hn, by omega⟩
        clear hn
        obtain ⟨W1, hW1⟩ : ∃ W1, W1 = w1.alloc (.cells #[.int .i64 7, .int .i64 2] 23) := ⟨_, rfl⟩
        have hb1 : Below w1.heap.size w1 W1 := by rw [hW1]; exact below_alloc _ _
        have HM1 : Hid (W1.heap[w1.heap.size]? = some (.cells #[.int .i64 7, .int .i64 2] 23)) := Lib.hid (by rw [hW1]; exact heap_new _ _ _ rfl)
        have HW1 := Lib.hid hW1
        have HB1' : Hid (Below w.heap.size w W1) := Lib.hid (HB1.out.trans (hb1.mono HB1.out.size))
        have HC := Lib.hid (Cut_any 7 2 x size F _ W1 (by have := HLX.out; omega) HSZ.out.2 (HV0.out.same (fun _ h => h) fun k hk => HB1'.out.block k (HF.out k hk)) (fun k hk => Nat.lt_of_lt_of_le (HF.out k hk) HB1'.out.size) (Lib.hid (hT.out.next HB1'.out)))
        unfold mkAgg at HC
        rw [← HLX.out] at HC
        clear hW1 hb1
        go_wp2_with fail
        rw [← HW1.out]
        refine (HC.out).mono ?_
        rintro e w2 ⟨hb2, hp2⟩
        rw [if_pos (by refine ⟨by decide, ?_⟩; have := HN.out; omega)] at hp2
        obtain ⟨pv, v, rfl, hrow2, hmap2⟩ := hp2
        have HB2 : Hid (Below w.heap.size w w2) := Lib.hid (HB1'.out.trans (hb2.mono HB1'.out.size))
        have HM2 : Hid (w2.heap[w1.heap.size]? = some (.cells #[.int .i64 7, .int .i64 2] 23)) := Lib.hid (old_below HM1.out hb2)
        have hps2 := hrow2.reps
        rw [hmap2, ← HN.out.1] at hps2
        have hl2 : (cutPcs 7 2 x n).length = cutN lx n := by rw [cutPcs_length, HLX.out]
        obtain ⟨na, nc, rfl⟩ := hps2.slice
        obtain ⟨N, hN⟩ : ∃ N, N = cutN lx n := ⟨_, rfl⟩
        rw [hl2, ← hN] at hps2 ⊢
        have HNN : Hid (cutN x.length n = N) := Lib.hid (by rw [hN, HLX.out])
        have hN1 : 1 ≤ N := by rw [hN]; exact cutN_pos HN.out.2
        have hN2 : N ≤ 301 := by rw [hN]; have := cutN_le (n := lx) HN.out.2; omega
        have HPS2 := Lib.hid hps2
        obtain ⟨W2, hW2⟩ : ∃ W2, W2 = w2.alloc (.cells #[.int .u8 101, .int .u8 108, .int .u8 100, .int .u8 101, .int .u8 114] 5 (5, 6)) := ⟨_, rfl⟩
        have hb2' : Below w2.heap.size w2 W2 := by rw [hW2]; exact below_alloc _ _
        have HB2' : Hid (Below w.heap.size w W2) := Lib.hid (HB2.out.trans (hb2'.mono HB2.out.size))
        have HC2 := Lib.hid (Cut_any 6 2 elder 2 (fun k => k = w2.heap.size) (.slice (some ⟨w2.heap.size, 0, none⟩) 5 5) W2 (by decide) (by omega) (by rw [hW2]; exact RepB.new (L := elder) rfl (by decide)) (fun k hk => by rw [hk, hW2]; simp) (Lib.hid (hT.out.next HB2'.out)))
        unfold mkAgg at HC2
        have HW2 := Lib.hid hW2
        have HBW2 := Lib.hid hb2'
        clear hb2 hps2 hrow2 hmap2 HC hl2 hN hW2 hb2'
        go_wp2_with fail
        rw [← HW2.out]
        refine (HC2.out).mono ?_
        rintro e w3 ⟨hb3, hp3⟩
        rw [if_pos (by decide)] at hp3
        obtain ⟨pv', v', rfl, hrow3, hmap3⟩ := hp3
        have HB23 : Hid (Below w2.heap.size w2 w3) := Lib.hid (HBW2.out.trans (hb3.mono HBW2.out.size))
        have HB3 : Hid (Below w.heap.size w w3) := Lib.hid (HB2.out.trans (HB23.out.mono HB2.out.size))
        have HM3 : Hid (w3.heap[w1.heap.size]? = some (.cells #[.int .i64 7, .int .i64 2] 23)) := Lib.hid (old_below HM2.out HB23.out)
        have hps3 := hrow3.reps
        rw [hmap3, show (Int.toNat 2) = 2 from rfl] at hps3
        have hl3 : (cutPcs 6 2 elder 2).length = 3 := by rw [cutPcs_length, elder_n]
        obtain ⟨oa, oc, rfl⟩ := hps3.slice
        rw [hl3] at hps3 ⊢
        have HPO : Hid (RepPs w3 (fun j => j < w3.heap.size) (cutPcs 6 2 elder 2) (.slice oa 3 oc)) := Lib.hid (hps3.same (fun j hj => hj.2) fun _ _ => rfl)
        have HPN : Hid (RepPs w3 (fun j => j < w3.heap.size) (cutPcs 7 2 x n) (.slice na N nc)) := Lib.hid (HPS2.out.same (fun j hj => Nat.lt_of_lt_of_le hj.2 HB23.out.size) fun j hj => HB23.out.block j hj.2)
        clear hb3 hps3 hrow3 hmap3 HC2 hl3 HPS2
        go_wp2_with fail
        refine (New_any 300 w3).mono ?_
        rintro e w4 ⟨gh, rfl, hb4, hg4, hh4⟩
        have HN4 : Hid (NH w w3 gh 300 [] w4) := Lib.hid ⟨hb4, _, HP.new (HB3.out.trans (hb4.mono HB3.out.size)) HB3.out.size hg4 hh4⟩
        clear hb4 hg4 hh4
        obtain ⟨og, off, hoa, -, -, -⟩ := HPO.out.cap (by rw [cutPcs_length, elder_n]; omega)
        obtain ⟨ng, nf, hna, -, -, -⟩ := HPN.out.cap (by rw [cutPcs_length, HNN.out]; exact hN1)
        subst hoa hna
        have q4 : ((N : Int) == 0) = false := by simp; omega
        obtain ⟨_, _, ou, he, -, hcs, hu⟩ := HPO.out.elem 0 (by rw [cutPcs_length, elder_n]; omega)
        cases he
        rw [cutPcs_get] at hcs hu
        obtain ⟨oua, ouc, rfl, -⟩ := hu.slice
        obtain ⟨p', hp'⟩ : ∃ p', p' = cutPc 6 2 elder 2 0 := ⟨_, rfl⟩
        rw [← hp'] at hcs hu
        have hcw := fun t ht => (World.cell?_of_block (a := ⟨og, off + 0 * 6 + t, none⟩) (HN4.out.old.block og (lt_of_cell (hcs 0 (by omega))).1)).trans (hcs t ht)
        have f0 := hcw 0 (by omega)
        have f1 := hcw 1 (by omega)
        have f2 := hcw 2 (by omega)
        have f3 := hcw 3 (by omega)
        have f4 := hcw 4 (by omega)
        have f5 := hcw 5 (by omega)
        simp only [pcV, List.getElem?_cons_zero, List.getElem?_cons_succ, Nat.add_zero, Nat.zero_mul] at f0 f1 f2 f3 f4 f5
        have hbw6 := (lt_of_cell f0).1
        have HT1 := Lib.hid (HN4.out.take hT hTz (Below.refl _ _) p' _ (hu.same (w' := w4) (fun _ h => h) fun j hj => HN4.out.old.block j hj) (fun j hj => ⟨Nat.lt_of_lt_of_le hj HN4.out.old.size, .inl hj⟩) (by rw [hp']; exact cutPc_fine (by decide)) (by simp))
        have ht1 : takeE 300 [] p' = (0, lstB x n []) := by rw [hp']; exact take_cut (by decide) (by decide) (by rw [elder_n]; omega) (by decide) (fun p hp => by cases hp)
        rw [ht1] at HT1
        obtain ⟨nb', hnb'⟩ : ∃ nb', nb' = p'.b.length := ⟨_, rfl⟩
        rw [← hnb'] at HT1 f5
        clear hcs hcw hu hp' hnb' ht1
        go_wp2_with fail
        refine (HT1.out).mono ?_
        rintro e w5 ⟨rfl, hn5⟩
        have HK5 := Lib.hid (BK.new (N := N) hn5)
        have mk := make_bools w5 N (by omega)
        clear hn5 HT1 f0 f1 f2 f3 f4 f5 hbw6
        go_wp2_with fail
        obtain ⟨gt, hgt⟩ : ∃ gt, gt = w5.heap.size := ⟨_, rfl⟩
        rw [← hgt] at HK5 ⊢
        have HA0 : Hid (BkAt w w3 gh gt N lo x n 0 [] (w5.alloc (.cells (bools N []).toArray 4))) := Lib.hid ⟨HK5.out, (fun j hj => by cases hj), rfl, fun j hj _ => by omega⟩
        clear mk HK5 hgt
        go_loopw [14, 15, 16, 17, 18, 19, 20, 21, 22, 23] (fun lf i _ _ _ _ _ _ _ _ wr => ∃ (k : Nat) (S : List Nat), k ≤ lo + N ∧ i = .int .i64 (k : Int) ∧ lf = .int .i64 (leftB N S : Int) ∧ Hid (BkAt w w3 gh gt N lo x n k S wr)) (fun _ i _ _ _ _ _ _ _ _ _ => lo + N - (intOf i).toNat)
        case atStart => exact ⟨0, [], Nat.zero_le _, rfl, by rw [left_nil], HA0⟩
        case round =>
          obtain ⟨k, S, hk, rfl, rfl, hat⟩ := hrel
          have hlb : leftB N S ≤ N := by unfold leftB; exact Nat.le_trans (List.length_filter_le _ _) (by simp)
          by_cases hlt : k < lo + N
          · have q5 : decide ((k : Int) < (lo : Int) + (N : Int)) = true := decide_eq_true (by omega)
            go_upto_if 102 with fail
            go_cut [16] from 90 to 206 (fun kv w' => ∃ kk : Nat, kk < N ∧ kv = .int .i64 (kk : Int) ∧ (lo ≤ k → kk = k - lo) ∧ w' = wr)
            case first =>
              by_cases hko : k < lo
              · have q6 : decide ((k : Int) < (lo : Int)) = true := decide_eq_true (by omega)
                have hbw : Below w.heap.size w wr := HB3.out.trans (hat.out.1.old.mono HB3.out.size)
                obtain ⟨ob, ooff, hoa2, -, hoc, hz1, hz2⟩ := HV2.out.elem' HLO.out k hko
                obtain ⟨zo, hzo⟩ : ∃ zo, zo = ord[k]'(by have := HLO.out; omega) := ⟨_, rfl⟩
                rw [← hzo] at hoc hz1 hz2
                subst hoa2
                have hbz := (lt_of_cell hoc).1
                have hoc1 : wr.cell? ⟨ob, ooff + k, none⟩ = some (.int .i64 zo) := (hbw.cell (p := ⟨ob, ooff + k, none⟩) hbz).trans hoc
                have hbz1 := (lt_of_cell hoc1).1
                obtain ⟨qk, hqk, hqk2, hy1, hy2⟩ := mod_at7 zo (N : Int) (by omega)
                obtain ⟨u, hu⟩ : ∃ u, u = zo.tmod (N : Int) := ⟨_, rfl⟩
                rw [← hu] at hqk hy1 hy2
                have huu := hu.symm
                have hNp : 0 < (N : Int) := by omega
                clear hu hzo hoc hbw
                go_wp2_with fail
                go_meet
                case rel => exact ⟨qk, by omega, by go_num, fun _ => by omega, rfl⟩
              · have q6 : decide ((k : Int) < (lo : Int)) = false := decide_eq_false (by omega)
                go_wp2_with fail
                go_meet
                case rel => exact ⟨k - lo, by omega, by go_num, fun _ => rfl, rfl⟩
            case rest =>
              obtain ⟨kk, hkk, rfl, hko, hwc⟩ := hcut
              obtain rfl : wr = wc := hwc.symm
              have hlen : S.length ≤ 501 := by rw [hat.out.2.2.1]; omega
              obtain ⟨_, _, nu, he, -, hcs, hu⟩ := HPN.out.elem kk (by rw [cutPcs_length, HNN.out]; exact hkk)
              cases he
              rw [cutPcs_get] at hcs hu
              obtain ⟨ua, uc, rfl, -⟩ := hu.slice
              obtain ⟨p, hp⟩ : ∃ p, p = cutPc 7 2 x n kk := ⟨_, rfl⟩
              rw [← hp] at hcs hu
              have HP := Lib.hid hp
              have HU := Lib.hid hu
              obtain ⟨nb, hnb⟩ : ∃ nb, nb = p.b.length := ⟨_, rfl⟩
              have HNB := Lib.hid hnb
              have HCS : Hid (∀ W', Below w3.heap.size w3 W' → (W'.cell? ⟨ng, nf + kk * 6, none⟩ = some (.int .i64 p.idx) ∧ W'.cell? ⟨ng, nf + kk * 6 + 1, none⟩ = some (.int .i64 p.term) ∧ W'.cell? ⟨ng, nf + kk * 6 + 2, none⟩ = some (.int .u32 p.sum) ∧ W'.cell? ⟨ng, nf + kk * 6 + 3, none⟩ = some (.int .i64 p.tot) ∧ W'.cell? ⟨ng, nf + kk * 6 + 4, none⟩ = some (.int .i64 p.pos) ∧ W'.cell? ⟨ng, nf + kk * 6 + 5, none⟩ = some (.slice ua nb uc)) ∧ ng < W'.heap.size) := Lib.hid fun W' hb => by
                have hcw := fun t ht => (World.cell?_of_block (a := ⟨ng, nf + kk * 6 + t, none⟩) (hb.block ng (lt_of_cell (hcs 0 (by omega))).1)).trans (hcs t ht)
                have d0 := hcw 0 (by omega)
                have d1 := hcw 1 (by omega)
                have d2 := hcw 2 (by omega)
                have d3 := hcw 3 (by omega)
                have d4 := hcw 4 (by omega)
                have d5 := hcw 5 (by omega)
                simp only [pcV, List.getElem?_cons_zero, List.getElem?_cons_succ, Nat.add_zero] at d0 d1 d2 d3 d4 d5
                rw [← hnb] at d5
                exact ⟨⟨d0, d1, d2, d3, d4, d5⟩, (lt_of_cell d0).1⟩
              obtain ⟨⟨d0, d1, d2, d3, d4, d5⟩, hbw⟩ := HCS.out wr hat.out.1.old
              have hpf : p.b.length ≤ 1000 ∧ p.tot ≤ 1000 ∧ 0 ≤ p.sum := by rw [hp]; exact cutPc_fine (by have := HLX.out; omega)
              have HPF := Lib.hid hpf
              have hll : (lstB x n S).length < 100000 := by have := lstB_length x n S; omega
              have HT1 := Lib.hid (hat.out.1.take hT hTz (Below.refl _ _) p _ (hu.same (w' := wr) (fun _ h => h) fun j hj => hat.out.1.old.block j hj) (fun j hj => ⟨Nat.lt_of_lt_of_le hj hat.out.1.old.size, .inl hj⟩) hpf hll)
              have hS' : ∀ j ∈ S ++ [kk], j < cutN x.length n := fun j hj => by
                rw [HNN.out]
                rcases List.mem_append.1 hj with h | h
                · exact hat.out.2.1 j h
                · rw [List.mem_singleton.1 h]; exact hkk
              have ht1 : takeE 300 (lstB x n S) p = (0, lstB x n (S ++ [kk])) := by
                rw [hp]
                exact take_back HN.out.2 (by have := HLX.out; omega) (fun j hj => by rw [HNN.out]; exact hat.out.2.1 j hj) (by rw [HNN.out]; exact hkk)
              obtain ⟨wb, hwb⟩ : ∃ wb, wb = wholeB (lstB x n (S ++ [kk])) := ⟨_, rfl⟩
              have hwb2 : wb = decide (leftB N (S ++ [kk]) = 0) := by rw [hwb, whole_back HN.out.2 hS' (by simp), HNN.out]
              rw [ht1, ← hnb] at HT1
              dsimp only at HT1
              rw [← hwb] at HT1
              have HWB := Lib.hid hwb
              have HS' := Lib.hid hS'
              clear hp hcs hu hnb hpf hll ht1 hwb hS'
              go_wp2_with fail
              refine (HT1.out).mono ?_
              rintro e w6 ⟨rfl, hk6⟩
              obtain ⟨g0, g1, g2⟩ := hk6.cell hkk
              have HK6 := Lib.hid hk6
              obtain ⟨tb, htb⟩ : ∃ tb, tb = decide (kk ∈ S) := ⟨_, rfl⟩
              rw [← htb] at g0
              have HTB := Lib.hid htb
              obtain ⟨L2, hL2⟩ : ∃ L2, L2 = leftB N (S ++ [kk]) := ⟨_, rfl⟩
              have HL2 := Lib.hid hL2
              rw [← hL2] at hwb2
              have q7 : ((L2 : Int) == 0) = wb := by rw [hwb2, Bool.eq_iff_iff]; simp
              have HWB2 := Lib.hid hwb2
              clear hk6 htb hL2 HT1 d0 d1 d2 d3 d4 d5 hbw hwb2
              go_upto_if 134 with fail
              go_cut [14] from 90 to 206 (fun lv w' => lv = .int .i64 (L2 : Int) ∧ w' = w6)
              case first =>
                cases tb with
                | true =>
                  have hl2 : L2 = leftB N S := by rw [HL2.out]; exact left_in (by simpa using HTB.out.symm)
                  go_wp2_with fail
                  go_meet
                  case rel => exact ⟨by rw [hl2], rfl⟩
                | false =>
                  have hl2 : L2 + 1 = leftB N S := by rw [HL2.out]; exact left_out hkk (by simpa using HTB.out.symm)
                  go_wp2_with fail
                  go_meet
                  case rel => exact ⟨by congr 1; omega, rfl⟩
              case rest =>
                obtain ⟨rfl, hwc⟩ := hcut
                obtain rfl : w6 = wc := hwc.symm
                have hk7 := HK6.out.put kk
                have HK7 := Lib.hid hk7
                have HEND : Hid (∀ w', BK w w3 gh 300 gt N (lstB x n (S ++ [kk])) (S ++ [kk]) w' → BkAt w w3 gh gt N lo x n (k + 1) (S ++ [kk]) w') := Lib.hid fun w' hb => ⟨hb, fun j hj => by have := HS'.out j hj; rw [HNN.out] at this; exact this, by rw [List.length_append, hat.out.2.2.1]; rfl, fun j hj hjN => by
                  rcases Nat.lt_or_ge (lo + j) k with h | h
                  · exact List.mem_append_left _ (hat.out.2.2.2 j h hjN)
                  · exact List.mem_append_right _ (List.mem_singleton.2 (by have := hko (by omega); omega))⟩
                obtain ⟨j, hj⟩ : ∃ j, j = k % 3 := ⟨_, rfl⟩
                have hj3 : j < 3 := by omega
                have q8 : (k : Int).tmod 3 = (j : Int) := by rw [Int.tmod_eq_emod_of_nonneg (by omega)]; omega
                obtain ⟨_, _, ou, he, -, hcs, hu⟩ := HPO.out.elem j (by rw [cutPcs_length, elder_n]; exact hj3)
                cases he
                rw [cutPcs_get] at hcs hu
                obtain ⟨oua, ouc, rfl, -⟩ := hu.slice
                obtain ⟨p', hp'⟩ : ∃ p', p' = cutPc 6 2 elder 2 j := ⟨_, rfl⟩
                rw [← hp'] at hcs hu
                have hcw := fun t ht => (World.cell?_of_block (a := ⟨og, off + j * 6 + t, none⟩) (hk7.old.block og (lt_of_cell (hcs 0 (by omega))).1)).trans (hcs t ht)
                have f0 := hcw 0 (by omega)
                have f1 := hcw 1 (by omega)
                have f2 := hcw 2 (by omega)
                have f3 := hcw 3 (by omega)
                have f4 := hcw 4 (by omega)
                have f5 := hcw 5 (by omega)
                simp only [pcV, List.getElem?_cons_zero, List.getElem?_cons_succ, Nat.add_zero] at f0 f1 f2 f3 f4 f5
                have hbw7 := (lt_of_cell f0).1
                have hll : (lstB x n (S ++ [kk])).length < 100000 := by have := lstB_length x n (S ++ [kk]); rw [List.length_append, List.length_singleton] at this; omega
                have HLL := Lib.hid hll
                have HT2 := Lib.hid (hk7.take hT hTz (Below.refl _ _) p' _ (hu.same (w' := w6.setCell ⟨gt, kk, none⟩ (.bool true)) (fun _ h => h) fun j hj => hk7.old.block j hj) (fun j hj => ⟨Nat.lt_of_lt_of_le hj hk7.old.size, .inl hj⟩) (by rw [hp']; exact cutPc_fine (by decide)) hll)
                have ht2 : takeE 300 (lstB x n (S ++ [kk])) p' = (70, lstB x n (S ++ [kk])) := by rw [hp']; exact stale_back (by simp) hj3
                rw [ht2] at HT2
                dsimp only at HT2
                rw [World.size_setCell] at HT2
                rw [← HWB.out] at HT2
                obtain ⟨nb', hnb'⟩ : ∃ nb', nb' = p'.b.length := ⟨_, rfl⟩
                rw [← hnb'] at HT2 f5
                clear hcs hcw hu hp' hnb' hj hk7 ht2 hll
                go_wp2_with fail
                refine (HT2.out).mono ?_
                rintro e w8 ⟨rfl, hk8⟩
                have HK8 := Lib.hid hk8
                obtain ⟨⟨d0, d1, d2, d3, d4, d5⟩, hbw⟩ := HCS.out w8 hk8.old
                clear hk8 HT2 f0 f1 f2 f3 f4 f5 hbw7 q8 q7 g0 g1 g2 HK6 HK7
                by_cases hnb0 : nb = 0
                · have q9 : decide ((nb : Int) > 0) = false := decide_eq_false (by omega)
                  go_wp2_with fail
                  go_roundw
                  case rel => exact ⟨k + 1, S ++ [kk], by omega, by go_num, by rw [HL2.out], Lib.hid (HEND.out _ HK8.out)⟩
                  case measure => simp [intOf]; omega
                · have q9 : decide ((nb : Int) > 0) = true := decide_eq_true (by omega)
                  obtain ⟨Wb, hWb⟩ : ∃ Wb, Wb = w8.alloc (.cells #[.int .i64 p.idx, .int .i64 p.term, .int .u32 p.sum, .int .i64 p.tot, .int .i64 p.pos, .slice ua nb uc] 35) := ⟨_, rfl⟩
                  have hbb : Below w8.heap.size w8 Wb := by rw [hWb]; exact below_alloc _ _
                  have hrb : Wb.heap[w8.heap.size]? = some (.cells #[.int .i64 p.idx, .int .i64 p.term, .int .u32 p.sum, .int .i64 p.tot, .int .i64 p.pos, .slice ua nb uc] 35) := by rw [hWb]; exact heap_new _ _ _ rfl
                  have HZB : Hid (w8.heap.size + 1 = Wb.heap.size) := Lib.hid (by rw [hWb]; simp)
                  have HWb := Lib.hid hWb
                  have HBB := Lib.hid hbb
                  have HRB := Lib.hid hrb
                  have HUB : Hid (RepB (Wb.alloc (.cells #[] 5)) (fun j => j < w3.heap.size) p.b (.slice ua nb uc)) := Lib.hid (by
                    have h1 := HU.out.same (w' := Wb.alloc (.cells #[] 5)) (fun _ h => h) fun q hq => by
                      have h2 := HK8.out.old.size
                      have h3 := hbb.size
                      rw [Below.heap_alloc _ _ _ (by omega), hbb.block q (by omega), HK8.out.old.block q hq]
                    rw [← HNB.out] at h1
                    exact h1)
                  clear hWb hbb hrb
                  go_wp2_with (at_builtin; go_loud (rw [← HWb.out]); refine wpList_own_append (w := Wb) (L2 := p.b) rfl (.tmp 177) (.tmp 182) rfl rfl rfl (Own.lit (g := w8.heap.size + 1) (Below.refl _ _) HZB.out) rfl HUB.out (by have := HPF.out.1; simp; omega) ?_)
                  intro v9 w9 hown9
                  obtain ⟨va, vc, rfl⟩ := hown9.slice
                  rw [← HNB.out] at hown9 ⊢
                  have hr9 := old_below HRB.out hown9.1
                  obtain ⟨gv, rfl, hgv, -⟩ := hown9.head (by rw [← HNB.out]; omega)
                  have cb5 : w9.cell? ⟨w8.heap.size, 5, none⟩ = some (.slice ua nb uc) := cell_of_row _ _ 5 _ _ _ hr9
                  have fb5 := frozen_of_row _ _ 5 _ _ hr9
                  have lb5 := lt_of_heap hr9
                  have HOWN9 := Lib.hid hown9
                  have HR9 := Lib.hid hr9
                  have HGV := Lib.hid hgv
                  clear hown9 hr9 hgv
                  go_wp2_with fail
                  obtain ⟨W10, hW10⟩ : ∃ W10, W10 = w9.setCell ⟨w8.heap.size, 5, none⟩ (.slice (some ⟨gv, 0, none⟩) nb vc) := ⟨_, rfl⟩
                  obtain ⟨c, r, hcr⟩ : ∃ c r, p.b = c :: r := by
                    cases hpb : p.b with
                    | nil => exact absurd (by rw [HNB.out, hpb]; rfl) hnb0
                    | cons c r => exact ⟨c, r, rfl⟩
                  have hne : (Value.slice (some ⟨gv, 0, none⟩) nb vc).ownBlock ≠ some w8.heap.size := fun e => by have := (HOWN9.out.2.lt _ e).1; have := HZB.out; omega
                  have ho10 : Own w8 (c :: r) (.slice (some ⟨gv, 0, none⟩) nb vc) W10 := by rw [hW10, ← hcr]; exact (HOWN9.out.base7 HBB.out).far7 (Nat.le_refl _) hne _
                  have hr10 : W10.heap[w8.heap.size]? = some (.cells #[.int .i64 p.idx, .int .i64 p.term, .int .u32 p.sum, .int .i64 p.tot, .int .i64 p.pos, .slice (some ⟨gv, 0, none⟩) nb vc] 35) := by rw [hW10]; exact heap_setCell_same _ _ 5 _ _ _ HR9.out
                  have hnb1 : nb = (c :: r).length := by rw [← hcr]; exact HNB.out
                  obtain ⟨t0, t1⟩ := ho10.at hnb1 0 (by simp)
                  simp only [List.getElem_cons_zero] at t0
                  have hgvs : gv < W10.heap.size := (lt_of_cell t0).1
                  have e5 : W10.cell? ⟨w8.heap.size, 5, none⟩ = some (.slice (some ⟨gv, 0, none⟩) nb vc) := cell_of_row _ _ 5 _ _ _ hr10
                  have ex := spoilt c
                  have l10 := lt_of_heap hr10
                  have hnbp : 0 < (nb : Int) := by omega
                  rw [← hW10]
                  have HO10 := Lib.hid ho10
                  have HR10 := Lib.hid hr10
                  have HCR := Lib.hid hcr
                  have HNB1 := Lib.hid hnb1
                  have hgg : w8.heap.size ≠ gv := by have := HGV.out; have := HZB.out; omega
                  have HGG := Lib.hid hgg
                  clear hW10 hcr ho10 hr10 hnb1 hne cb5 fb5 lb5 d0 d1 d2 d3 d4 d5 hbw
                  go_still_tail 8, (by kernel_rfl)
                  obtain ⟨m0, m1, m2, m3, m4, m5, mz⟩ := six_cells HR10.out
                  have HO11 : Hid (Own w8 ((c ^^^ 255) :: r) (.slice (some ⟨gv, 0, none⟩) nb vc) (W10.setCell ⟨gv, 0, none⟩ (.int .u8 ((c.toNat ^^^ 255 : Nat) : Int))).drew) := Lib.hid ((HO10.out.put HNB1.out 0 (c ^^^ 255) (by rw [UInt8.toNat_xor]; rfl)).drew)
                  have hsz : (W10.setCell ⟨gv, 0, none⟩ (.int .u8 ((c.toNat ^^^ 255 : Nat) : Int))).drew.heap.size = W10.heap.size := World.size_setCell _ _ _
                  have hbp : badPc x n kk ((c ^^^ 255) :: r) = ⟨p.idx, p.term, p.sum, p.tot, p.pos, (c ^^^ 255) :: r⟩ := by rw [HP.out]; rfl
                  have HT3 := Lib.hid (HK8.out.take hT hTz HO11.out.1 ⟨p.idx, p.term, p.sum, p.tot, p.pos, (c ^^^ 255) :: r⟩ _ HO11.out.rep (fun j hj => ⟨hj.2, .inr hj.1⟩) ⟨by have := HPF.out.1; rw [HCR.out] at this; simpa using this, HPF.out.2⟩ HLL.out)
                  have ht3 : takeE 300 (lstB x n (S ++ [kk])) ⟨p.idx, p.term, p.sum, p.tot, p.pos, (c ^^^ 255) :: r⟩ = (71, lstB x n (S ++ [kk])) := by rw [← hbp]; exact clash_back HN.out.2 (by have := HLX.out; omega) HS'.out (by simp) (by rw [← HP.out]; exact HCR.out) (spoilt_ne c)
                  rw [ht3] at HT3
                  dsimp only at HT3
                  rw [← HWB.out, hsz] at HT3
                  clear hsz hbp ht3
                  go_wp2_with fail
                  refine (HT3.out).mono ?_
                  rintro e w12 ⟨rfl, hk12⟩
                  have HK12 := Lib.hid hk12
                  clear hk12 HT3 m0 m1 m2 m3 m4 m5 mz t0 t1 e5 ex
                  go_wp2_with fail
                  go_roundw
                  case rel => exact ⟨k + 1, S ++ [kk], by omega, by go_num, by rw [HL2.out], Lib.hid (HEND.out _ HK12.out)⟩
                  case measure => simp [intOf]; omega
          · have hke : k = lo + N := by omega
            have q5 : decide ((k : Int) < (lo : Int) + (N : Int)) = false := decide_eq_false (by omega)
            have hz : leftB N S = 0 := left_zero.2 fun j hj => hat.out.2.2.2 j (by omega) hj
            have hne : S ≠ [] := fun e => by have := hat.out.2.2.1; rw [e] at this; simp at this; omega
            obtain ⟨y1, y2, y3, y4⟩ := bytes_back (b := x) HN.out.2 (fun j hj => by rw [HNN.out]; exact hat.out.2.1 j hj) hne (by rw [HNN.out]; exact hz)
            have hn' := hat.out.1.nh
            obtain ⟨X6, hx6⟩ := hn'.at
            have HWH := Lib.hid (Whole_any _ _ _ _ _ hx6 (by rw [y4]; have := HLX.out; omega))
            unfold WhPost at HWH
            rw [y2, y1, ← HLX.out] at HWH
            have HY3 := Lib.hid y3
            have HNE := Lib.hid hne
            have HN' := Lib.hid hn'
            have HB9 : Hid (Below w.heap.size w wr) := Lib.hid (HB3.out.trans (hn'.old.mono HB3.out.size))
            clear hn' hx6 y1 y2 y3 y4 hz hne hke hlb
            go_wp2_with fail
            refine (HWH.out).mono ?_
            rintro e w9 ⟨ra, rc, rfl, hb9, hr9⟩
            have hb9' : Below w.heap.size w w9 := HB9.out.trans (hb9.mono HB9.out.size)
            have HN9 := Lib.hid (HN'.out.next hb9)
            obtain ⟨Sx, hSx⟩ : ∃ Sx, Sx = strOf x := ⟨_, rfl⟩
            have cv1 : ∀ w', Below w9.heap.size w9 w' → (convert 24 9 (.slice ra lx rc)).run Tryd.prog w' = .ok (.string Sx) w' := fun w' hb => by
              rw [hSx]
              exact run_string (P := Tryd.prog) (hr9.same (w' := w') (fun _ h => h) fun q hq => hb.block q hq.2) 24 5 9 Tryd.underlying24 Tryd.underlying5 Tryd.underlying9
            have cv2 : ∀ w', Below w9.heap.size w9 w' → (convert 24 9 (.slice a0 lx c0)).run Tryd.prog w' = .ok (.string Sx) w' := fun w' hb => by
              rw [hSx]
              have hb' := hb9'.trans (hb.mono hb9'.size)
              have h1 := HV0.out.same (w' := w') (fun _ h => h) fun q hq => hb'.block q (HF.out q hq)
              rw [← HLX.out] at h1
              exact run_string (P := Tryd.prog) h1 24 5 9 Tryd.underlying24 Tryd.underlying5 Tryd.underlying9
            have hm9 : w9.heap[w1.heap.size]? = some (.cells #[.int .i64 7, .int .i64 2] 23) := old_below HM3.out HN9.out.old
            have r0 : ∀ w', Below w9.heap.size w9 w' → w'.cell? ⟨w1.heap.size, 0, none⟩ = some (.int .i64 7) := fun w' hb => cell_of_row _ _ 0 _ _ _ (old_below hm9 hb)
            have r1 : ∀ w', Below w9.heap.size w9 w' → w'.cell? ⟨w1.heap.size, 1, none⟩ = some (.int .i64 2) := fun w' hb => cell_of_row _ _ 1 _ _ _ (old_below hm9 hb)
            have heq := fun w' => eqMark7 7 2 w'
            have hS : Below w9.heap.size w9 w9.drew := (Below.refl _ _).drew
            obtain ⟨X9, hx9⟩ := (HN9.out.next hS).at
            have HM := Lib.hid (Mark_any _ _ _ _ _ hx9)
            rw [(hd_lst HNE.out).1, (hd_lst HNE.out).2] at HM
            unfold mkAgg at HM
            have HB9' := Lib.hid hb9'
            clear hb9 hb9' hr9 hSx hm9 hx9 HWH
            go_wp2_with fail
            refine wp_region_held (S := fun w' => Below w9.heap.size w9 w') (by kernel_rfl) ?_
            refine H_take (i := 0) (v := ?_) rfl (by as_aux_lemma => kernel_rfl) (by as_aux_lemma => kernel_rfl) (by as_aux_lemma => kernel_rfl) (fun _ _ _ h => h) (by rfl) hS ?_ ?_
            rotate_left
            · intro w' hw'; go_simp; with_reducible rfl
            go_simp
            refine H_take (i := 1) (v := ?_) rfl (by as_aux_lemma => kernel_rfl) (by as_aux_lemma => kernel_rfl) (by as_aux_lemma => kernel_rfl) (fun _ _ _ h => h) (by rfl) hS ?_ ?_
            rotate_left
            · intro w' hw'; go_simp; with_reducible rfl
            go_simp
            refine H_take (i := 2) (v := ?_) rfl (by as_aux_lemma => kernel_rfl) (by as_aux_lemma => kernel_rfl) (by as_aux_lemma => kernel_rfl) (fun _ _ _ h => h) (by rfl) hS ?_ ?_
            rotate_left
            · intro w' hw'; go_simp; with_reducible rfl
            go_simp
            refine H_take (i := 3) (v := ?_) rfl (by as_aux_lemma => kernel_rfl) (by as_aux_lemma => kernel_rfl) (by as_aux_lemma => kernel_rfl) (fun _ _ _ h => h) (by rfl) hS ?_ ?_
            rotate_left
            · intro w' hw'; go_simp; with_reducible rfl
            go_simp
            refine H_take (i := 4) (v := ?_) rfl (by as_aux_lemma => kernel_rfl) (by as_aux_lemma => kernel_rfl) (by as_aux_lemma => kernel_rfl) (fun _ _ _ h => h) (by rfl) hS ?_ ?_
            rotate_left
            · intro w' hw'; go_simp; with_reducible rfl
            go_simp
            refine H_take (i := 5) (v := ?_) rfl (by as_aux_lemma => kernel_rfl) (by as_aux_lemma => kernel_rfl) (by as_aux_lemma => kernel_rfl) (fun _ _ _ h => h) (by rfl) hS ?_ ?_
            rotate_left
            · intro w' hw'; go_simp; with_reducible rfl
            go_simp
            refine H_take (i := 6) (v := ?_) rfl (by as_aux_lemma => kernel_rfl) (by as_aux_lemma => kernel_rfl) (by as_aux_lemma => kernel_rfl) (fun _ _ _ h => h) (by rfl) hS ?_ ?_
            rotate_left
            · intro w' hw'; go_simp; with_reducible rfl
            go_simp
            refine H_take (i := 7) (v := ?_) rfl (by as_aux_lemma => kernel_rfl) (by as_aux_lemma => kernel_rfl) (by as_aux_lemma => kernel_rfl) (fun _ _ _ h => h) (by rfl) hS ?_ ?_
            rotate_left
            · intro w' hw'; go_simp; with_reducible rfl
            go_simp
            refine H_take (i := 8) (v := ?_) rfl (by as_aux_lemma => kernel_rfl) (by as_aux_lemma => kernel_rfl) (by as_aux_lemma => kernel_rfl) (fun _ _ _ h => h) (by rfl) hS ?_ ?_
            rotate_left
            · intro w' hw'; go_simp; with_reducible rfl
            go_simp
            refine H_take (i := 9) (v := ?_) rfl (by as_aux_lemma => kernel_rfl) (by as_aux_lemma => kernel_rfl) (by as_aux_lemma => kernel_rfl) (fun _ _ _ h => h) (by rfl) hS ?_ ?_
            rotate_left
            · intro w' hw'; go_simp; with_reducible rfl
            go_simp
            refine H_take (i := 11) (v := ?_) rfl (by as_aux_lemma => kernel_rfl) (by as_aux_lemma => kernel_rfl) (by as_aux_lemma => kernel_rfl) (fun _ _ _ h => h) (by rfl) hS ?_ ?_
            rotate_left
            · intro w' hw'; go_simp; with_reducible rfl
            go_simp
            refine H_one (i := 10) (by as_aux_lemma => kernel_rfl) rfl (by rfl) ?_
            go_simp
            refine (HM.out).mono ?_
            rintro e w10 ⟨rfl, hb10⟩
            have hS10 : Below w9.heap.size w9 w10 := hS.trans hb10
            refine ⟨hS10, ?_⟩
            go_simp
            clear hb10
            refine H_take (i := 12) (v := ?_) rfl (by as_aux_lemma => kernel_rfl) (by as_aux_lemma => kernel_rfl) (by as_aux_lemma => kernel_rfl) (fun _ _ _ h => h) (by rfl) hS10 ?_ ?_
            rotate_left
            · intro w' hw'; go_simp; with_reducible rfl
            go_simp
            refine H_take (i := 13) (v := ?_) rfl (by as_aux_lemma => kernel_rfl) (by as_aux_lemma => kernel_rfl) (by as_aux_lemma => kernel_rfl) (fun _ _ _ h => h) (by rfl) hS10 ?_ ?_
            rotate_left
            · intro w' hw'; go_simp; with_reducible rfl
            go_simp
            refine H_take (i := 14) (v := ?_) rfl (by as_aux_lemma => kernel_rfl) (by as_aux_lemma => kernel_rfl) (by as_aux_lemma => kernel_rfl) (fun _ _ _ h => h) (by rfl) hS10 ?_ ?_
            rotate_left
            · intro w' hw'; go_simp; with_reducible rfl
            go_simp
            refine H_take (i := 15) (v := ?_) rfl (by as_aux_lemma => kernel_rfl) (by as_aux_lemma => kernel_rfl) (by as_aux_lemma => kernel_rfl) (fun _ _ _ h => h) (by rfl) hS10 ?_ ?_
            rotate_left
            · intro w' hw'; go_simp; with_reducible rfl
            go_simp
            refine H_take (i := 17) (v := ?_) rfl (by as_aux_lemma => kernel_rfl) (by as_aux_lemma => kernel_rfl) (by as_aux_lemma => kernel_rfl) (fun _ _ _ h => h) (by rfl) hS10 ?_ ?_
            rotate_left
            · intro w' hw'; go_simp; with_reducible rfl
            go_simp
            refine H_take (i := 18) (v := ?_) rfl (by as_aux_lemma => kernel_rfl) (by as_aux_lemma => kernel_rfl) (by as_aux_lemma => kernel_rfl) (fun _ _ _ h => h) (by rfl) hS10 ?_ ?_
            rotate_left
            · intro w' hw'; go_simp; with_reducible rfl
            go_simp
            refine H_one (i := 16) (by as_aux_lemma => kernel_rfl) rfl (by rfl) ?_
            go_simp
            obtain ⟨X10, hx10⟩ := (HN9.out.next hS10).at
            have HMS := Missing_any _ _ _ _ _ hx10
            rw [HY3.out, ← HLX.out] at HMS
            refine HMS.mono ?_
            rintro e w11 ⟨rfl, rfl⟩
            refine ⟨hS10, ?_⟩
            go_simp
            refine H_take (i := 19) (v := ?_) rfl (by as_aux_lemma => kernel_rfl) (by as_aux_lemma => kernel_rfl) (by as_aux_lemma => kernel_rfl) (fun _ _ _ h => h) (by rfl) hS10 ?_ ?_
            rotate_left
            · intro w' hw'; go_simp; with_reducible rfl
            go_simp
            refine H_take (i := 20) (v := ?_) rfl (by as_aux_lemma => kernel_rfl) (by as_aux_lemma => kernel_rfl) (by as_aux_lemma => kernel_rfl) (fun _ _ _ h => h) (by rfl) hS10 ?_ ?_
            rotate_left
            · intro w' hw'; go_simp; with_reducible rfl
            go_simp
            refine H_take (i := 21) (v := ?_) rfl (by as_aux_lemma => kernel_rfl) (by as_aux_lemma => kernel_rfl) (by as_aux_lemma => kernel_rfl) (fun _ _ _ h => h) (by rfl) hS10 ?_ ?_
            rotate_left
            · intro w' hw'; go_simp; with_reducible rfl
            go_simp
            refine wpAnyH_done (by as_aux_lemma => kernel_rfl) ?_ _
            have HS10 := Lib.hid hS10
            clear r0 r1 cv1 cv2 heq hS hS10 hx10 HMS
            go_wp2_with fail
            go_ret
            exact ⟨rfl, HB9'.out.trans (HS10.out.mono HB9'.out.size)⟩
end Go.Proofs.YtfadgojdjpgfoaaDoor.M
