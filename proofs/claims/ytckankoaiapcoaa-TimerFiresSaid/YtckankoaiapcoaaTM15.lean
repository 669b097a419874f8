/- The law TimerFires. -/
import Derived.Test.YtckankoaiapcoaaTM13
import Derived.Test.YtckankoaiapcoaaTM14
import Derived.Deep.LoopGhost
namespace Go.Proofs.Ytckankoaiapcoaa.M
open Go.RowKit




set_option maxRecDepth 20000 in
set_option maxHeartbeats 6400000 in
theorem TimerFires_any (least : Int) (hle : -9223372036854775808 ≤ least ∧ least ≤ 9223372036854775807) (ds ts : List Int) (dv tv : Value) (w : World) (hd : RepQ w (fun k => k < w.heap.size) ds dv) (ht : RepI w (fun k => k < w.heap.size) ts tv) :
    Calls Try.prog 4 #[.int .i64 least, dv, tv] w fun e w' => e = .returned (.bool true) ∧ Below w.heap.size w w' := by
  obtain ⟨da, dc, rfl, hdl⟩ := hd.slice
  obtain ⟨ta, tc, rfl, htl⟩ := ht.slice
  obtain ⟨n, hn⟩ : ∃ n, n = ds.length := ⟨_, rfl⟩
  obtain ⟨q, hq⟩ : ∃ q, q = ts.length := ⟨_, rfl⟩
  rw [← hn] at hdl ⊢
  rw [← hq] at htl ⊢
  have HD := Lib.hid hd
  have HT := Lib.hid ht
  have HN := Lib.hid hn
  have HQ := Lib.hid hq
  have qT : ∀ (w : World) (a : Addr), (binOp .eql 29 (.pointer (some a)) (.pointer none)).run Try.prog w = .ok (.bool false) w := fun _ _ => by kernel_rfl
  have qN : ∀ (w : World), (binOp .eql 29 (.pointer none) (.pointer none)).run Try.prog w = .ok (.bool true) w := fun _ => by kernel_rfl
  clear hd ht hn hq
  go_enter Try.func4, Try.ntmps4
  go_wp2_with fail
  refine (awake10_any w).mono ?_
  rintro e w2 ⟨rfl, hb2⟩
  have HB2 := Lib.hid hb2
  clear hb2
  by_cases h1 : n ≤ 20
  · by_cases h2 : q ≤ 20
    · have h1' : ¬ (20 : Int) < (n : Int) := by omega
      have h2' : ¬ (20 : Int) < (q : Int) := by omega
      have HNW := Lib.hid (New_any least 0 (by omega) w2)
      go_wp2_with fail
      refine HNW.out.mono ?_
      rintro e w3 (⟨hf, rfl, rfl⟩ | ⟨hf, rfl, hb3, ht3⟩)
      · by_cases hf1 : least < 1
        · clear hf
          go_wp2_with fail
          go_ret
          exact ⟨rfl, HB2.out⟩
        · have hf2 : 2147483648 < least := by unfold fairI at hf; omega
          clear hf
          go_wp2_with fail
          go_ret
          exact ⟨rfl, HB2.out⟩
      · obtain ⟨g1, g2⟩ := hf
        have hf1 : ¬ least < 1 := by omega
        have hf2 : ¬ 2147483648 < least := by omega
        have hsp : spanI least 0 = least := by unfold spanI; rw [if_pos ⟨g1, g2⟩]; simp
        rw [hsp] at ht3
        obtain ⟨gt, hgt⟩ : ∃ gt, gt = w2.heap.size := ⟨_, rfl⟩
        rw [← hgt] at ht3 ⊢
        have HGT : Hid (w.heap.size ≤ gt) := Lib.hid (by rw [hgt]; exact HB2.out.size)
        have HB3 : Hid (Below w.heap.size w w3) := Lib.hid (HB2.out.trans (hb3.mono HB2.out.size))
        have HLF := Lib.hid (Left_any gt least least w3 ht3)
        have HT3 := Lib.hid ht3
        clear hb3 ht3 hgt hsp HNW
        go_wp2_with fail
        refine HLF.out.mono ?_
        rintro e w4 ⟨rfl, rfl⟩
        go_wp2_with fail
        go_loopg [9, 10, 11, 12] n (fun gk lv iv _ _ wr => ∃ (y : Nat) (left : Int), y + gk = n ∧ iv = .int .i64 (y : Int) ∧ lv = .int .i64 left ∧ 0 ≤ left ∧ left ≤ 4294967296 ∧ Hid (TiAt wr gt least left ∧ Below w.heap.size w wr))
        case atStart => exact ⟨0, least, by omega, rfl, rfl, by omega, by omega, Lib.hid ⟨HT3.out, HB3.out⟩⟩
        case round =>
          obtain ⟨y, left, hy, rfl, rfl, hl0, hl1, HTW0⟩ := hrel
          obtain ⟨gO, hgO⟩ : ∃ gO, gO = gk := ⟨_, rfl⟩
          subst hgO
          by_cases hyn : y < n
          · have hyn2 : (y : Int) < (n : Int) := by omega
            have hy2 : y < ds.length := by rw [← HN.out]; exact hyn
            obtain ⟨d, hdd⟩ : ∃ d, d = ds[y] := ⟨_, rfl⟩
            have hD : ∀ w', Below w.heap.size w w' → ∃ b off, da = some ⟨b, off, none⟩ ∧ w'.cell? ⟨b, off + y, none⟩ = some (.int .u64 d) ∧ 0 ≤ d ∧ d < 18446744073709551616 := fun w' hb' => by
              obtain ⟨b, off, e1, -, e2, e3, e4⟩ := (HD.out.same (fun _ h => h) fun k hk => hb'.block k hk).elem' (m := n) HN.out y hyn
              rw [← hdd] at e2 e3 e4
              exact ⟨b, off, e1, e2, e3, e4⟩
            have HDD := Lib.hid hD
            obtain ⟨b, off, rfl, e0, hd0, hd1⟩ := hD wr HTW0.out.2
            have HST := Lib.hid (TSet_any gt least left d ⟨hd0, hd1⟩ wr HTW0.out.1)
            have HSI := Lib.hid (span_in least d hd0)
            obtain ⟨s, hs⟩ : ∃ s, s = spanI least d := ⟨_, rfl⟩
            rw [← hs] at HST HSI
            have HSP := Lib.hid hs
            clear hD hdd hs hy2
            go_wp2_with fail
            refine HST.out.mono ?_
            rintro e w5 ⟨rfl, ho5, ht5⟩
            have HB5 : Hid (Below w.heap.size w w5) := Lib.hid (below_only HTW0.out.2 ho5 fun k hk => by rw [hk]; exact HGT.out)
            obtain ⟨b', off', hbo, f0, -, -⟩ := HDD.out w5 HB5.out
            cases hbo
            have HRS := Lib.hid (RefSpan_any least d ⟨hd0, hd1⟩ w5)
            rw [← HSP.out] at HRS
            have HT5 := Lib.hid ht5
            clear ho5 ht5 e0
            go_wp2_with fail
            refine HRS.out.mono ?_
            rintro e wq ⟨rfl, rfl⟩
            have HTW : Hid (TiAt wq gt least s ∧ Below w.heap.size w wq) := Lib.hid ⟨HT5.out, HB5.out⟩
            have hs := HSI.out
            clear f0
            by_cases hyq : y < q
            · have hyq2 : (y : Int) < (q : Int) := by omega
              obtain ⟨b2, off2, rfl, -, g0, g1, g2⟩ := (HT.out.same (fun _ h => h) fun k hk => HB5.out.block k hk).elem' (m := q) HQ.out y hyq
              obtain ⟨x, hx⟩ : ∃ x, x = ts[y]'(by rw [← HQ.out]; exact hyq) := ⟨_, rfl⟩
              rw [← hx] at g0 g1 g2
              obtain ⟨r1, hr1⟩ : ∃ r, r = x.tmod 300 := ⟨_, rfl⟩
              have hr1b : -300 < r1 ∧ r1 < 300 := by rw [hr1]; exact ⟨by have := Int.lt_tmod_of_pos x (b := 300) (by omega); omega, Int.tmod_lt_of_pos x (by omega)⟩
              obtain ⟨m, hm⟩ : ∃ m : Nat, (m : Int) = (r1 + 300).tmod 300 := ⟨((r1 + 300).tmod 300).toNat, by rw [Int.toNat_of_nonneg (Int.tmod_nonneg _ (by omega))]⟩
              have hm300 : (m : Int) < 300 := by rw [hm]; exact Int.tmod_lt_of_pos _ (by omega)
              have k1 := hr1.symm
              have k2 := hm.symm
              clear hx hr1 hm
              go_wp2_with fail
              clear g0
              go_loopg [9, 12] m (fun gk lv kv wr => ∃ (z : Nat) (left : Int), z + gk = m ∧ kv = .int .i64 (z : Int) ∧ lv = .int .i64 left ∧ 0 ≤ left ∧ left ≤ 4294967296 ∧ Hid (TiAt wr gt least left ∧ Below w.heap.size w wr))
              case atStart => exact ⟨0, _, by omega, rfl, rfl, hs.1, hs.2, HTW⟩
              case round =>
                obtain ⟨z, left, hz, rfl, rfl, hl0, hl1, HT⟩ := hrel
                by_cases hzm : z < m
                · have hzm2 : (z : Int) < (m : Int) := by omega
                  have HTK := Lib.hid (Tick_any gt least left ⟨hl0, hl1⟩ wr HT.out.1)
                  obtain ⟨t, ht⟩ : ∃ t, t = tickI left := ⟨_, rfl⟩
                  have ht0 : 0 ≤ t ∧ t ≤ 4294967296 := by rw [ht]; unfold tickI; split <;> omega
                  rw [← ht] at HTK
                  have hdec : decide (t = 0) = (t == 0) := by rw [Bool.eq_iff_iff, decide_eq_true_iff, beq_iff_eq]
                  by_cases hlp : 0 < left
                  · have htl : left - 1 = t := by rw [ht]; unfold tickI; rw [if_pos hlp]
                    have HDEC := Lib.hid hdec
                    clear ht hdec
                    go_wp2_with fail
                    refine HTK.out.mono ?_
                    rintro e w6 ⟨rfl, ho6, ht6⟩
                    rw [HDEC.out]
                    have HB6 : Hid (Below w.heap.size w w6) := Lib.hid (below_only HT.out.2 ho6 fun k hk => by rw [hk]; exact HGT.out)
                    have HLF := Lib.hid (Left_any gt least t w6 ht6)
                    have HT6 := Lib.hid ht6
                    clear ho6 ht6
                    cases q0 : (t == 0) with
                    | true =>
                      go_wp2_with fail
                      refine HLF.out.mono ?_
                      rintro e w7 ⟨rfl, rfl⟩
                      go_wp2_with fail
                      go_roundg (m - (z + 1))
                      case measure => omega
                      case rel => exact ⟨z + 1, t, by omega, by go_num, rfl, ht0.1, ht0.2, Lib.hid ⟨HT6.out, HB6.out⟩⟩
                    | false =>
                      go_wp2_with fail
                      refine HLF.out.mono ?_
                      rintro e w7 ⟨rfl, rfl⟩
                      go_wp2_with fail
                      go_roundg (m - (z + 1))
                      case measure => omega
                      case rel => exact ⟨z + 1, t, by omega, by go_num, rfl, ht0.1, ht0.2, Lib.hid ⟨HT6.out, HB6.out⟩⟩
                  · have htl : left = t := by rw [ht]; unfold tickI; rw [if_neg hlp]
                    have htl2 := htl.symm
                    subst htl2
                    have HDEC := Lib.hid hdec
                    clear ht hdec
                    go_wp2_with fail
                    refine HTK.out.mono ?_
                    rintro e w6 ⟨rfl, ho6, ht6⟩
                    rw [HDEC.out]
                    have HB6 : Hid (Below w.heap.size w w6) := Lib.hid (below_only HT.out.2 ho6 fun k hk => by rw [hk]; exact HGT.out)
                    have HLF := Lib.hid (Left_any gt least t w6 ht6)
                    have HT6 := Lib.hid ht6
                    clear ho6 ht6
                    cases q0 : (t == 0) with
                    | true =>
                      go_wp2_with fail
                      refine HLF.out.mono ?_
                      rintro e w7 ⟨rfl, rfl⟩
                      go_wp2_with fail
                      go_roundg (m - (z + 1))
                      case measure => omega
                      case rel => exact ⟨z + 1, t, by omega, by go_num, rfl, ht0.1, ht0.2, Lib.hid ⟨HT6.out, HB6.out⟩⟩
                    | false =>
                      go_wp2_with fail
                      refine HLF.out.mono ?_
                      rintro e w7 ⟨rfl, rfl⟩
                      go_wp2_with fail
                      go_roundg (m - (z + 1))
                      case measure => omega
                      case rel => exact ⟨z + 1, t, by omega, by go_num, rfl, ht0.1, ht0.2, Lib.hid ⟨HT6.out, HB6.out⟩⟩
                · have hzm2 : ¬ (z : Int) < (m : Int) := by omega
                  go_wp2_with fail
                  go_roundg (n - (y + 1))
                  case measure => omega
                  case rel => exact ⟨y + 1, left, by omega, by go_num, rfl, hl0, hl1, HT⟩
            · have hyq2 : ¬ (y : Int) < (q : Int) := by omega
              go_wp2_with fail
              go_loopg [9, 12] 0 (fun gk lv kv wr => kv = .int .i64 0 ∧ lv = .int .i64 s ∧ Hid (TiAt wr gt least s ∧ Below w.heap.size w wr))
              case atStart => exact ⟨rfl, rfl, HTW⟩
              case round =>
                obtain ⟨rfl, rfl, HT⟩ := hrel
                go_wp2_with fail
                go_roundg (n - (y + 1))
                case measure => omega
                case rel => exact ⟨y + 1, s, by omega, by go_num, rfl, hs.1, hs.2, HT⟩
          · have hyn2 : ¬ (y : Int) < (n : Int) := by omega
            have HLF2 := Lib.hid (Left_any gt least left wr HTW0.out.1)
            go_wp2_with fail
            refine HLF2.out.mono ?_
            rintro e w7 ⟨rfl, rfl⟩
            go_wp2_with fail
            go_ret
            exact ⟨by simp, HTW0.out.2⟩
    · have h1' : ¬ (20 : Int) < (n : Int) := by omega
      have h2' : (20 : Int) < (q : Int) := by omega
      go_wp2_with fail
      refine (awake10_any _).mono ?_
      rintro e w9 ⟨rfl, hb9⟩
      have HB9 : Hid (Below w.heap.size w w9) := Lib.hid (HB2.out.trans (hb9.mono HB2.out.size))
      clear hb9
      go_wp2_with fail
      go_ret
      exact ⟨rfl, HB9.out⟩
  · have h1' : (20 : Int) < (n : Int) := by omega
    go_wp2_with fail
    refine (awake10_any _).mono ?_
    rintro e w9 ⟨rfl, hb9⟩
    have HB9 : Hid (Below w.heap.size w w9) := Lib.hid (HB2.out.trans (hb9.mono HB2.out.size))
    clear hb9
    go_wp2_with fail
    go_ret
    exact ⟨rfl, HB9.out⟩
end Go.Proofs.Ytckankoaiapcoaa.M
