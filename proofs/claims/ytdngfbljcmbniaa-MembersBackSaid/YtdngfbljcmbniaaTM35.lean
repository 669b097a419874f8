/- The document's configurations that are right. -/
import Derived.Test.YtdngfbljcmbniaaTM21
import Derived.Test.YtdngfbljcmbniaaTM16
import Derived.BigQuiet
namespace Go.Proofs.Ytdngfbljcmbniaa.M
open Go.RowKit

set_option maxRecDepth 20000 in
set_option maxHeartbeats 6400000 in
theorem RefRightC_any (c : Cf) (F : Nat → Prop) (vv lv : Value) (w : World) (hv : RepI w F c.v vv) (hl : RepI w F c.l lv) (hF : ∀ k, F k → k < w.heap.size) (hs : c.v.length + c.l.length ≤ 1000000) :
    Calls Try.prog 11 #[.agg #[vv, lv]] w fun e w' => e = .returned (.bool (yes c.ok)) ∧ Below w.heap.size w w' := by
  obtain ⟨a, k, hvv, hx1⟩ := hv.slice
  obtain ⟨a', k', hlv, hx2⟩ := hl.slice
  obtain ⟨n, hn⟩ : ∃ n, n = c.v.length := ⟨_, rfl⟩
  obtain ⟨m, hm⟩ : ∃ m, m = c.l.length := ⟨_, rfl⟩
  obtain ⟨y, hy⟩ : ∃ y, y = yes c.ok := ⟨_, rfl⟩
  rw [← hy]
  rw [← hn] at hvv hx1 hs
  rw [← hm] at hlv hx2 hs
  subst hvv hlv
  obtain ⟨W, hW⟩ : ∃ W, W = w.alloc (.cells #[.slice a n k, .slice a' m k'] 25) := ⟨_, rfl⟩
  have HB : Hid (Below w.heap.size w W) := Lib.hid (by rw [hW]; exact below_alloc _ _)
  obtain ⟨g, hg⟩ : ∃ g, g = w.heap.size := ⟨_, rfl⟩
  have HBX : Hid (W.heap[g]? = some (.cells #[.slice a n k, .slice a' m k'] 25)) := Lib.hid (by rw [hW, hg]; exact heap_alloc_new w _)
  have HV := Lib.hid (hv.below hF HB.out)
  have HL := Lib.hid (hl.below hF HB.out)
  have HN := Lib.hid hn
  have HM := Lib.hid hm
  have HG := Lib.hid hg
  have HW := Lib.hid hW
  have HY := Lib.hid hy
  clear hv hl hF hn hm hg hW hy
  go_enter Try.func11, Try.ntmps11
  go_wp2_with fail
  rw [← HG.out, ← HW.out]
  go_loopg [3, 4] 2 (fun gk al kk wr => (gk = 2 ∧ al = .int .i64 0 ∧ kk = .int .i64 0 ∧ Hid (wr.heap = W.heap ∧ Below w.heap.size w wr)) ∨
    (gk = 1 ∧ al = .int .i64 (n : Int) ∧ kk = .int .i64 1 ∧ Hid (wr.heap = W.heap ∧ Below w.heap.size w wr) ∧ Hid (Rise c.v)) ∨
    (gk = 0 ∧ al = .int .i64 ((n + m : Nat) : Int) ∧ kk = .int .i64 2 ∧ Hid (wr.heap = W.heap ∧ Below w.heap.size w wr) ∧ Hid (Rise c.v ∧ Rise c.l ∧ ∀ x ∈ c.l, x ∉ c.v)))
  case atStart => exact .inl ⟨rfl, rfl, rfl, Lib.hid ⟨rfl, HB.out⟩⟩
  case round =>
    rcases hrel with ⟨rfl, rfl, rfl, HWO⟩ | ⟨rfl, rfl, rfl, HWO, HRV0⟩ | ⟨rfl, rfl, rfl, HWO, HR3⟩
    · obtain ⟨c0, c1, -, -, -⟩ := block2' (w := wr) (by rw [HWO.out.1]; exact HBX.out)
      go_wp2_with fail
      clear c0 c1
      obtain ⟨wo, hwo⟩ : ∃ wo : World, wo = wr := ⟨_, rfl⟩
      subst hwo
      go_loopg [3, 6] n (fun gi al i wr => ∃ z : Nat, z + gi = n ∧ al = .int .i64 (z : Int) ∧ i = .int .i64 (z : Int) ∧ Hid (wr.heap = W.heap ∧ Below w.heap.size w wr) ∧ Hid (Rise (c.v.take z)) ∧ Hid (∀ v ∈ c.v.take z, True))
      case atStart => exact ⟨0, by omega, rfl, rfl, HWO, Lib.hid Rise.nil, Lib.hid fun _ _ => trivial⟩
      case round =>
        obtain ⟨z, hz, rfl, rfl, HWR, HT, HD⟩ := hrel
        obtain ⟨c0, c1, -, -, -⟩ := block2' (w := wr) (by rw [HWR.out.1]; exact HBX.out)
        have HRA := Lib.hid (HV.out.same (w' := wr) (fun _ h => h) fun k _ => by rw [HWR.out.1])
        have HRV := Lib.hid (HV.out.same (w' := wr) (fun _ h => h) fun k _ => by rw [HWR.out.1])
        by_cases hlt : z < n
        · have hkk : (z : Int) < (n : Int) := by omega
          have hl1 : z < c.v.length := by rw [← HN.out]; exact hlt
          obtain ⟨ab, ao, hab, -, e0, -, -⟩ := HRA.out.elem z hl1
          subst hab
          have hst := rise_step hl1
          obtain ⟨x, hx⟩ : ∃ x, x = c.v[z] := ⟨_, rfl⟩
          rw [← hx] at e0 hst
          have HTK : Hid (c.v.take (z + 1) = c.v.take z ++ [x]) := Lib.hid (by rw [hx]; exact take_snoc hl1)
          have HXM : Hid (x ∈ c.v) := Lib.hid (by rw [hx]; exact List.getElem_mem hl1)
          have HIN : Hid (∀ q, Calls Try.prog 23 #[.slice (some ⟨ab, ao, none⟩) n k, .int .i64 x] (wr.drewN q) fun e w' => e = .returned (.bool (yes (x ∈ c.v))) ∧ w' = wr.drewN q) := Lib.hid fun q => RefIn_any c.v x F _ _ (HRV.out.same (fun _ h => h) fun _ _ => rfl)
          have HBAD : Hid (¬ Rise (c.v.take (z + 1)) → y = false) := Lib.hid fun h => by rw [HY.out]; exact yes_f fun h2 => h (h2.2.2.1.take _)
          by_cases b1 : x < 0
          · have q1 : decide (x < 0) = true := decide_eq_true b1
            have HE : Hid (y = false) := Lib.hid (HBAD.out fun h => by have := (hst.1 h).2.1.1; omega)
            clear hst hx
            go_wp2_with fail
            go_quiet (fail)
            go_wp2_with fail
            go_ret
            exact ⟨by rw [HE.out]; rfl, HWR.out.2.trans (below_dr _ _ _)⟩
          have q1 : decide (x < 0) = false := decide_eq_false b1
          by_cases b2 : x > 1048575
          · have q2 : decide (x > 1048575) = true := decide_eq_true b2
            have HE : Hid (y = false) := Lib.hid (HBAD.out fun h => by have := (hst.1 h).2.1.2; omega)
            clear hst hx
            go_wp2_with fail
            go_quiet (fail)
            go_wp2_with fail
            go_ret
            exact ⟨by rw [HE.out]; rfl, HWR.out.2.trans (below_dr _ _ _)⟩
          have q2 : decide (x > 1048575) = false := decide_eq_false b2
          have HOKX : Hid (okN x) := Lib.hid ⟨by omega, by omega⟩
          by_cases h0 : 0 < z
          · have q0 : decide ((z : Int) > 0) = true := decide_eq_true (by omega)
            obtain ⟨ab', ao', hh, -, e3, -, -⟩ := HRA.out.elem (z - 1) (by omega)
            cases hh
            obtain ⟨u, hu⟩ : ∃ u, u = c.v[z - 1] := ⟨_, rfl⟩
            rw [← hu] at e3
            have HST : Hid (Rise (c.v.take (z + 1)) ↔ Rise (c.v.take z) ∧ okN x ∧ u < x) := Lib.hid (hst.trans ⟨fun h => ⟨h.1, h.2.1, hu ▸ h.2.2 h0⟩, fun h => ⟨h.1, h.2.1, fun _ => hu ▸ h.2.2⟩⟩)
            have hk1 : IntKind.i64.wrap ((z : Int) - 1) = ((z - 1 : Nat) : Int) := by rw [IntWalk.i64_in _ (by omega)]; omega
            have hk2 : ((z - 1 : Nat) : Int) < (n : Int) := by omega
            clear hst hx hu
            by_cases hge : u ≥ x
            · have q3 : decide (u ≥ x) = true := decide_eq_true hge
              have HE : Hid (y = false) := Lib.hid (HBAD.out fun h => by have := (HST.out.1 h).2.2; omega)
              go_wp2_with fail
              go_quiet (fail)
              go_wp2_with fail
              go_ret
              exact ⟨by rw [HE.out]; rfl, HWR.out.2.trans (below_dr _ _ _)⟩
            · have q3 : decide (u ≥ x) = false := decide_eq_false hge
              have HT2 : Hid (Rise (c.v.take (z + 1))) := Lib.hid (HST.out.2 ⟨HT.out, HOKX.out, by omega⟩)
              have HD2 : Hid (∀ v ∈ c.v.take (z + 1), True) := Lib.hid fun _ _ => trivial
              go_wp2_with fail
              go_quiet (fail)
              go_wp2_with fail
              go_roundg (gk - 1)
              case measure => omega
              case rel => exact ⟨z + 1, by omega, by go_num, by go_num, Lib.hid ⟨HWR.out.1, HWR.out.2.trans (below_dr _ _ _)⟩, HT2, HD2⟩
          · have q0 : decide ((z : Int) > 0) = false := decide_eq_false (by omega)
            have HT2 : Hid (Rise (c.v.take (z + 1))) := Lib.hid (hst.2 ⟨HT.out, HOKX.out, fun h => absurd h h0⟩)
            clear hst hx
            have HD2 : Hid (∀ v ∈ c.v.take (z + 1), True) := Lib.hid fun _ _ => trivial
            go_wp2_with fail
            go_quiet (fail)
            go_wp2_with fail
            go_roundg (gk - 1)
            case measure => omega
            case rel => exact ⟨z + 1, by omega, by go_num, by go_num, Lib.hid ⟨HWR.out.1, HWR.out.2.trans (below_dr _ _ _)⟩, HT2, HD2⟩
        · obtain rfl : z = n := by omega
          have hkk : ¬ ((z : Nat) : Int) < (z : Int) := by omega
          have HRI : Hid (Rise c.v) := Lib.hid (by have := HT.out; rw [HN.out, List.take_length] at this; exact this)
          clear HT HD
          go_wp2_with fail
          go_roundg 1
          case measure => omega
          case rel => exact .inr (.inl ⟨rfl, by go_num, by go_num, HWR, HRI⟩)
    · obtain ⟨c0, c1, -, -, -⟩ := block2' (w := wr) (by rw [HWO.out.1]; exact HBX.out)
      go_wp2_with fail
      clear c0 c1
      obtain ⟨wo, hwo⟩ : ∃ wo : World, wo = wr := ⟨_, rfl⟩
      subst hwo
      go_loopg [3, 6] m (fun gi al i wr => ∃ z : Nat, z + gi = m ∧ al = .int .i64 ((n + z : Nat) : Int) ∧ i = .int .i64 (z : Int) ∧ Hid (wr.heap = W.heap ∧ Below w.heap.size w wr) ∧ Hid (Rise (c.l.take z)) ∧ Hid (∀ v ∈ c.l.take z, v ∉ c.v))
      case atStart => exact ⟨0, by omega, rfl, rfl, HWO, Lib.hid Rise.nil, Lib.hid fun _ h => by simp at h⟩
      case round =>
        obtain ⟨z, hz, rfl, rfl, HWR, HT, HD⟩ := hrel
        obtain ⟨c0, c1, -, -, -⟩ := block2' (w := wr) (by rw [HWR.out.1]; exact HBX.out)
        have HRA := Lib.hid (HL.out.same (w' := wr) (fun _ h => h) fun k _ => by rw [HWR.out.1])
        have HRV := Lib.hid (HV.out.same (w' := wr) (fun _ h => h) fun k _ => by rw [HWR.out.1])
        by_cases hlt : z < m
        · have hkk : (z : Int) < (m : Int) := by omega
          have hl1 : z < c.l.length := by rw [← HM.out]; exact hlt
          obtain ⟨ab, ao, hab, -, e0, -, -⟩ := HRA.out.elem z hl1
          subst hab
          have hst := rise_step hl1
          obtain ⟨x, hx⟩ : ∃ x, x = c.l[z] := ⟨_, rfl⟩
          rw [← hx] at e0 hst
          have HTK : Hid (c.l.take (z + 1) = c.l.take z ++ [x]) := Lib.hid (by rw [hx]; exact take_snoc hl1)
          have HXM : Hid (x ∈ c.l) := Lib.hid (by rw [hx]; exact List.getElem_mem hl1)
          have HIN : Hid (∀ q, Calls Try.prog 23 #[.slice a n k, .int .i64 x] (wr.drewN q) fun e w' => e = .returned (.bool (yes (x ∈ c.v))) ∧ w' = wr.drewN q) := Lib.hid fun q => RefIn_any c.v x F _ _ (HRV.out.same (fun _ h => h) fun _ _ => rfl)
          have HBAD : Hid (¬ Rise (c.l.take (z + 1)) → y = false) := Lib.hid fun h => by rw [HY.out]; exact yes_f fun h2 => h (h2.2.2.2.1.take _)
          by_cases b1 : x < 0
          · have q1 : decide (x < 0) = true := decide_eq_true b1
            have HE : Hid (y = false) := Lib.hid (HBAD.out fun h => by have := (hst.1 h).2.1.1; omega)
            clear hst hx
            go_wp2_with fail
            go_quiet (fail)
            go_wp2_with fail
            go_ret
            exact ⟨by rw [HE.out]; rfl, HWR.out.2.trans (below_dr _ _ _)⟩
          have q1 : decide (x < 0) = false := decide_eq_false b1
          by_cases b2 : x > 1048575
          · have q2 : decide (x > 1048575) = true := decide_eq_true b2
            have HE : Hid (y = false) := Lib.hid (HBAD.out fun h => by have := (hst.1 h).2.1.2; omega)
            clear hst hx
            go_wp2_with fail
            go_quiet (fail)
            go_wp2_with fail
            go_ret
            exact ⟨by rw [HE.out]; rfl, HWR.out.2.trans (below_dr _ _ _)⟩
          have q2 : decide (x > 1048575) = false := decide_eq_false b2
          have HOKX : Hid (okN x) := Lib.hid ⟨by omega, by omega⟩
          by_cases h0 : 0 < z
          · have q0 : decide ((z : Int) > 0) = true := decide_eq_true (by omega)
            obtain ⟨ab', ao', hh, -, e3, -, -⟩ := HRA.out.elem (z - 1) (by omega)
            cases hh
            obtain ⟨u, hu⟩ : ∃ u, u = c.l[z - 1] := ⟨_, rfl⟩
            rw [← hu] at e3
            have HST : Hid (Rise (c.l.take (z + 1)) ↔ Rise (c.l.take z) ∧ okN x ∧ u < x) := Lib.hid (hst.trans ⟨fun h => ⟨h.1, h.2.1, hu ▸ h.2.2 h0⟩, fun h => ⟨h.1, h.2.1, fun _ => hu ▸ h.2.2⟩⟩)
            have hk1 : IntKind.i64.wrap ((z : Int) - 1) = ((z - 1 : Nat) : Int) := by rw [IntWalk.i64_in _ (by omega)]; omega
            have hk2 : ((z - 1 : Nat) : Int) < (m : Int) := by omega
            clear hst hx hu
            by_cases hge : u ≥ x
            · have q3 : decide (u ≥ x) = true := decide_eq_true hge
              have HE : Hid (y = false) := Lib.hid (HBAD.out fun h => by have := (HST.out.1 h).2.2; omega)
              go_wp2_with fail
              go_quiet (fail)
              go_wp2_with fail
              go_ret
              exact ⟨by rw [HE.out]; rfl, HWR.out.2.trans (below_dr _ _ _)⟩
            · have q3 : decide (u ≥ x) = false := decide_eq_false hge
              have HT2 : Hid (Rise (c.l.take (z + 1))) := Lib.hid (HST.out.2 ⟨HT.out, HOKX.out, by omega⟩)
              by_cases hm : x ∈ c.v
              · have hy1 : yes (x ∈ c.v) = true := yes_t hm
                rw [hy1] at HIN
                have HE : Hid (y = false) := Lib.hid (by rw [HY.out]; exact yes_f fun h => h.2.2.2.2 x HXM.out hm)
                go_wp2_with fail
                go_quiet ((go_at_call 23; exact Calls.quiet_of_same (HIN.out _)))
                go_wp2_with fail
                go_ret
                exact ⟨by rw [HE.out]; rfl, HWR.out.2.trans (below_dr _ _ _)⟩
              · have hy1 : yes (x ∈ c.v) = false := yes_f hm
                rw [hy1] at HIN
                have HD2 : Hid (∀ v ∈ c.l.take (z + 1), v ∉ c.v) := Lib.hid fun v hv => by
                  rw [HTK.out] at hv
                  rcases List.mem_append.1 hv with hv | hv
                  · exact HD.out v hv
                  · simp at hv; rw [hv]; exact hm
                go_wp2_with fail
                go_quiet ((go_at_call 23; exact Calls.quiet_of_same (HIN.out _)))
                go_wp2_with fail
                go_roundg (gk - 1)
                case measure => omega
                case rel => exact ⟨z + 1, by omega, by go_num, by go_num, Lib.hid ⟨HWR.out.1, HWR.out.2.trans (below_dr _ _ _)⟩, HT2, HD2⟩
          · have q0 : decide ((z : Int) > 0) = false := decide_eq_false (by omega)
            have HT2 : Hid (Rise (c.l.take (z + 1))) := Lib.hid (hst.2 ⟨HT.out, HOKX.out, fun h => absurd h h0⟩)
            clear hst hx
            by_cases hm : x ∈ c.v
            · have hy1 : yes (x ∈ c.v) = true := yes_t hm
              rw [hy1] at HIN
              have HE : Hid (y = false) := Lib.hid (by rw [HY.out]; exact yes_f fun h => h.2.2.2.2 x HXM.out hm)
              go_wp2_with fail
              go_quiet ((go_at_call 23; exact Calls.quiet_of_same (HIN.out _)))
              go_wp2_with fail
              go_ret
              exact ⟨by rw [HE.out]; rfl, HWR.out.2.trans (below_dr _ _ _)⟩
            · have hy1 : yes (x ∈ c.v) = false := yes_f hm
              rw [hy1] at HIN
              have HD2 : Hid (∀ v ∈ c.l.take (z + 1), v ∉ c.v) := Lib.hid fun v hv => by
                rw [HTK.out] at hv
                rcases List.mem_append.1 hv with hv | hv
                · exact HD.out v hv
                · simp at hv; rw [hv]; exact hm
              go_wp2_with fail
              go_quiet ((go_at_call 23; exact Calls.quiet_of_same (HIN.out _)))
              go_wp2_with fail
              go_roundg (gk - 1)
              case measure => omega
              case rel => exact ⟨z + 1, by omega, by go_num, by go_num, Lib.hid ⟨HWR.out.1, HWR.out.2.trans (below_dr _ _ _)⟩, HT2, HD2⟩
        · obtain rfl : z = m := by omega
          have hkk : ¬ ((z : Nat) : Int) < (z : Int) := by omega
          have HRI : Hid (Rise c.v ∧ Rise c.l ∧ ∀ x ∈ c.l, x ∉ c.v) := Lib.hid (by
            have h1 := HT.out
            have h2 := HD.out
            rw [HM.out, List.take_length] at h1 h2
            exact ⟨HRV0.out, h1, h2⟩)
          clear HT HD
          go_wp2_with fail
          go_roundg 0
          case measure => omega
          case rel => exact .inr (.inr ⟨rfl, by go_num, by go_num, HWR, HRI⟩)
    · obtain ⟨c0, c1, -, -, -⟩ := block2' (w := wr) (by rw [HWO.out.1]; exact HBX.out)
      by_cases h9 : n + m ≤ 9
      · have q9 : decide (((n + m : Nat) : Int) ≤ 9) = true := decide_eq_true (by omega)
        by_cases hn0 : 0 < n
        · have q8 : decide ((n : Int) > 0) = true := decide_eq_true (by omega)
          have HE : Hid (y = true) := Lib.hid (by
            rw [HY.out]
            have h1 := HN.out
            have h2 := HM.out
            exact yes_t ⟨fun e => by rw [e] at h1; simp at h1; omega, by omega, HR3.out⟩)
          go_wp2_with fail
          go_ret
          exact ⟨by rw [HE.out]; rfl, HWO.out.2⟩
        · have q8 : decide ((n : Int) > 0) = false := decide_eq_false (by omega)
          have HE : Hid (y = false) := Lib.hid (by rw [HY.out]; exact yes_f fun h => h.1 (List.length_eq_zero_iff.1 (by rw [← HN.out]; omega)))
          go_wp2_with fail
          go_ret
          exact ⟨by rw [HE.out]; rfl, HWO.out.2⟩
      · have q9 : decide (((n + m : Nat) : Int) ≤ 9) = false := decide_eq_false (by omega)
        have HE : Hid (y = false) := Lib.hid (by rw [HY.out]; exact yes_f fun h => h9 (by rw [HN.out, HM.out]; exact h.2.1))
        go_wp2_with fail
        go_ret
        exact ⟨by rw [HE.out]; rfl, HWO.out.2⟩
end Go.Proofs.Ytdngfbljcmbniaa.M
