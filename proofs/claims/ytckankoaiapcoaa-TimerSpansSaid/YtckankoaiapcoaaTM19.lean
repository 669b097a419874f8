/- The law TimerSpans. -/
import Derived.Test.YtckankoaiapcoaaTM13
import Derived.Test.YtckankoaiapcoaaTM18
namespace Go.Proofs.Ytckankoaiapcoaa.M
open Go.RowKit


theorem spansI_take {least : Int} {ds : List Int} {k : Nat} (hk : k < ds.length) : spansI least (ds.take (k + 1)) = spansI least (ds.take k) ++ [spanI least ds[k]] := by
  unfold spansI
  rw [List.take_succ_eq_append_getElem hk, List.map_append]
  rfl

theorem nodup_snoc {α : Type} {l : List α} {x : α} : (l ++ [x]).Nodup ↔ l.Nodup ∧ x ∉ l := by
  rw [List.nodup_append]
  constructor
  · rintro ⟨h1, -, h3⟩
    exact ⟨h1, fun hx => h3 x hx x (by simp) rfl⟩
  · rintro ⟨h1, h2⟩
    exact ⟨h1, by simp, fun a ha b hb e => by simp at hb; subst hb; subst e; exact h2 ha⟩

set_option maxRecDepth 20000 in
set_option maxHeartbeats 3200000 in
theorem TimerSpans_any (least : Int) (ds : List Int) (dv : Value) (w : World) (hd : RepQ w (fun k => k < w.heap.size) ds dv) :
    Calls Try.prog 3 #[.int .i64 least, dv] w fun e w' => e = .returned (.bool true) ∧ Below w.heap.size w w' := by
  obtain ⟨da, dc, rfl, hdl⟩ := hd.slice
  obtain ⟨n, hn⟩ : ∃ n, n = ds.length := ⟨_, rfl⟩
  rw [← hn] at hdl ⊢
  have HD := Lib.hid hd
  have HN := Lib.hid hn
  clear hd hn
  go_enter Try.func3, Try.ntmps3
  go_wp2_with fail
  refine (awake10_any w).mono ?_
  rintro e w2 ⟨rfl, hb2⟩
  have HB2 := Lib.hid hb2
  clear hb2
  by_cases h1 : n ≤ 60
  · have h1' : ¬ (60 : Int) < (n : Int) := by omega
    have HAT : Hid (∀ k (hk : k < n), ∃ b off, da = some ⟨b, off, none⟩ ∧ w2.cell? ⟨b, off + k, none⟩ = some (.int .u64 (ds[k]'(by rw [← HN.out]; exact hk))) ∧ 0 ≤ (ds[k]'(by rw [← HN.out]; exact hk)) ∧ (ds[k]'(by rw [← HN.out]; exact hk)) < 18446744073709551616) := Lib.hid fun k hk => by
      obtain ⟨b, off, e1, -, e2, e3, e4⟩ := (HD.out.same (fun _ h => h) fun q hq => HB2.out.block q hq).elem' (m := n) HN.out k hk
      exact ⟨b, off, e1, e2, e3, e4⟩
    go_wp2_with fail
    go_loopg [5, 6, 7, 8] n (fun gk av iv _ _ wr => ∃ (y : Nat) (ap : Bool), y + gk = n ∧ iv = .int .i64 (y : Int) ∧ av = .bool ap ∧ Hid (ap = decide ((spansI least (ds.take y)).Nodup)) ∧ Hid (wr = w2))
    case atStart => exact ⟨0, true, by omega, rfl, rfl, Lib.hid (by simp [spansI]), Lib.hid rfl⟩
    case round =>
      obtain ⟨y, ap, hy, rfl, rfl, HAP, HWR⟩ := hrel
      have hwr := HWR.out
      subst hwr
      obtain ⟨gO, hgO⟩ : ∃ gO, gO = gk := ⟨_, rfl⟩
      subst hgO
      by_cases hyn : y < n
      · have hyn2 : (y : Int) < (n : Int) := by omega
        have hy3 : y < ds.length := by rw [← HN.out]; exact hyn
        obtain ⟨b, off, rfl, e0, e1, e2⟩ := HAT.out y hyn
        obtain ⟨d, hdd⟩ : ∃ d, d = ds[y] := ⟨_, rfl⟩
        rw [← hdd] at e0 e1 e2
        have HRS := Lib.hid (RefSpan_any least d ⟨e1, e2⟩ wr)
        have HSP := Lib.hid (Span_any least d ⟨e1, e2⟩ wr)
        obtain ⟨x, hx⟩ : ∃ x, x = spanI least d := ⟨_, rfl⟩
        rw [← hx] at HRS HSP
        have HNX : Hid (spansI least (ds.take (y + 1)) = spansI least (ds.take y) ++ [x]) := Lib.hid (by rw [spansI_take hy3, hx, hdd])
        clear hdd hx hy3
        go_wp2_with fail
        refine HRS.out.mono ?_
        rintro e w3 ⟨rfl, rfl⟩
        go_wp2_with fail
        refine HSP.out.mono ?_
        rintro e w4 ⟨rfl, rfl⟩
        clear HRS HSP
        go_wp2_with fail
        go_loopg [5, 8] y (fun gk av kv wr => ∃ (z : Nat) (aq : Bool), z + gk = y ∧ kv = .int .i64 (z : Int) ∧ av = .bool aq ∧ Hid (aq = (ap && decide (x ∉ spansI least (ds.take z)))) ∧ Hid (wr = w4))
        case atStart => exact ⟨0, ap, by omega, rfl, rfl, Lib.hid (by simp [spansI]), Lib.hid rfl⟩
        case round =>
          obtain ⟨z, aq, hz, rfl, rfl, HAQ, HWR2⟩ := hrel
          have hwr2 := HWR2.out
          subst hwr2
          by_cases hzy : z < y
          · have hzy2 : (z : Int) < (y : Int) := by omega
            have hz3 : z < ds.length := by rw [← HN.out]; omega
            cases aq with
            | false =>
              have HQ2 : Hid (false = (ap && decide (x ∉ spansI least (ds.take (z + 1))))) := Lib.hid (by
                have h := HAQ.out
                rw [spansI_take hz3]
                cases ap with
                | false => rfl
                | true =>
                  simp only [Bool.true_and] at h ⊢
                  have h2 := of_decide_eq_false h.symm
                  refine (decide_eq_false fun h3 => h2 fun hm => h3 ?_).symm
                  exact List.mem_append.2 (.inl hm))
              clear hz3 HAQ
              go_wp2_with fail
              go_roundg (y - (z + 1))
              case measure => omega
              case rel => exact ⟨z + 1, false, by omega, by go_num, rfl, HQ2, Lib.hid rfl⟩
            | true =>
              obtain ⟨b2, off2, hbo, g0, g1, g2⟩ := HAT.out z (by omega)
              cases hbo
              obtain ⟨d2, hd2⟩ : ∃ d2, d2 = ds[z] := ⟨_, rfl⟩
              rw [← hd2] at g0 g1 g2
              have HRS2 := Lib.hid (RefSpan_any least d2 ⟨g1, g2⟩ wr)
              obtain ⟨s, hs⟩ : ∃ s, s = spanI least d2 := ⟨_, rfl⟩
              rw [← hs] at HRS2
              have HQ2 : Hid ((s != x) = (ap && decide (x ∉ spansI least (ds.take (z + 1))))) := Lib.hid (by
                have h := HAQ.out
                rw [spansI_take hz3, ← hd2, ← hs]
                cases ap with
                | false => simp at h
                | true =>
                  simp only [Bool.true_and] at h ⊢
                  have h2 := of_decide_eq_true h.symm
                  by_cases e : s = x
                  · subst e
                    rw [bne_self_eq_false]
                    simp
                  · have e3 : (s != x) = true := by simpa using e
                    have h5 : x ∉ spansI least (ds.take z) ++ [s] := fun h3 => by
                      rcases List.mem_append.1 h3 with h4 | h4
                      · exact h2 h4
                      · simp at h4; exact e h4.symm
                    rw [e3]
                    exact (decide_eq_true h5).symm)
              clear hd2 hs hz3 HAQ
              go_wp2_with fail
              refine HRS2.out.mono ?_
              rintro e w5 ⟨rfl, rfl⟩
              go_wp2_with fail
              go_roundg (y - (z + 1))
              case measure => omega
              case rel => exact ⟨z + 1, _, by omega, by go_num, rfl, HQ2, Lib.hid rfl⟩
          · have hzy2 : ¬ (z : Int) < (y : Int) := by omega
            obtain rfl : z = y := by omega
            have HQ3 : Hid (aq = decide ((spansI least (ds.take (z + 1))).Nodup)) := Lib.hid (by
              rw [HNX.out, HAQ.out, HAP.out, ← Bool.decide_and]
              rw [Bool.eq_iff_iff, decide_eq_true_iff, decide_eq_true_iff]
              exact nodup_snoc.symm)
            clear HAQ HAP
            go_wp2_with fail
            go_roundg (n - (z + 1))
            case measure => omega
            case rel => exact ⟨z + 1, aq, by omega, by go_num, rfl, HQ3, Lib.hid rfl⟩
      · have hyn2 : ¬ (y : Int) < (n : Int) := by omega
        have hyn3 : y = ds.length := by rw [← HN.out]; omega
        have HAP2 : Hid (ap = decide ((spansI least ds).Nodup)) := Lib.hid (by rw [HAP.out, hyn3, List.take_length])
        have HA := Apart_any least ds (.slice da n dc) (fun k => k < w.heap.size) (by rw [← HN.out]; omega) wr (by rw [HN.out]; exact HD.out.same (fun _ h => h) fun q hq => HB2.out.block q hq) fun k hk => Nat.lt_of_lt_of_le hk HB2.out.size
        rw [← HAP2.out] at HA
        have HA := Lib.hid HA
        clear hyn3 HAP
        go_wp2_with fail
        refine HA.out.mono ?_
        rintro e w5 ⟨rfl, hb5⟩
        have HB5 : Hid (Below w.heap.size w w5) := Lib.hid (HB2.out.trans (hb5.mono HB2.out.size))
        clear hb5
        go_wp2_with fail
        go_ret
        exact ⟨by simp, HB5.out⟩
  · have h1' : (60 : Int) < (n : Int) := by omega
    go_wp2_with fail
    refine (awake10_any _).mono ?_
    rintro e w9 ⟨rfl, hb9⟩
    have HB9 : Hid (Below w.heap.size w w9) := Lib.hid (HB2.out.trans (hb9.mono HB2.out.size))
    clear hb9
    go_wp2_with fail
    go_ret
    exact ⟨rfl, HB9.out⟩
end Go.Proofs.Ytckankoaiapcoaa.M
