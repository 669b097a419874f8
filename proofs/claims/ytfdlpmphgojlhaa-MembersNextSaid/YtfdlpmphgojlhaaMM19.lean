/- The document's configurations that are right. The document's list into which a number is put. The document's next configuration. -/
import Derived.Test.YtfdlpmphgojlhaaMM15
import Derived.Test.YtfdlpmphgojlhaaMM10
import Derived.BigQuiet
import Derived.Test.YtfdlpmphgojlhaaMM17
/- Part: MmQ. -/
namespace Go.Proofs.Ytfdlpmphgojlhaa.M
open Go.RowKit

set_option maxRecDepth 20000 in
set_option maxHeartbeats 6400000 in
theorem RefRight_any (c : Cf) (F : Nat → Prop) (vv lv : Value) (w : World) (hv : RepI w F c.v vv) (hl : RepI w F c.l lv) (hF : ∀ k, F k → k < w.heap.size) (hs : c.v.length + c.l.length ≤ 1000000) :
    Calls Try.prog 10 #[.agg #[vv, lv]] w fun e w' => e = .returned (.bool (yes c.ok)) ∧ Below w.heap.size w w' := by
  obtain ⟨a, k, hvv, hx1⟩ := hv.slice
  obtain ⟨a', k', hlv, hx2⟩ := hl.slice
  obtain ⟨n, hn⟩ : ∃ n, n = c.v.length := ⟨_, rfl⟩
  obtain ⟨m, hm⟩ : ∃ m, m = c.l.length := ⟨_, rfl⟩
  obtain ⟨y, hy⟩ : ∃ y, y = yes c.ok := ⟨_, rfl⟩
  rw [← hy]
  rw [← hn] at hvv hx1 hs
  rw [← hm] at hlv hx2 hs
  subst hvv hlv
  obtain ⟨W, hW⟩ : ∃ W, W = w.alloc (.cells #[.slice a n k, .slice a' m k'] 24) := ⟨_, rfl⟩
  have HB : Hid (Below w.heap.size w W) := Lib.hid (by rw [hW]; exact below_alloc _ _)
  obtain ⟨g, hg⟩ : ∃ g, g = w.heap.size := ⟨_, rfl⟩
  have HBX : Hid (W.heap[g]? = some (.cells #[.slice a n k, .slice a' m k'] 24)) := Lib.hid (by rw [hW, hg]; exact heap_alloc_new w _)
  have HV := Lib.hid (hv.below hF HB.out)
  have HL := Lib.hid (hl.below hF HB.out)
  have HN := Lib.hid hn
  have HM := Lib.hid hm
  have HG := Lib.hid hg
  have HW := Lib.hid hW
  have HY := Lib.hid hy
  clear hv hl hF hn hm hg hW hy
  go_enter Try.func10, Try.ntmps10
  go_wp2_with fail
  rw [← HG.out, ← HW.out]
  go_loopg [3, 4] 2 (fun gk al kk wr => (gk = 2 ∧ al = .int .i64 0 ∧ kk = .int .i64 0 ∧ Hid (wr.heap = W.heap ∧ Below w.heap.size w wr)) ∨
    (gk = 1 ∧ al = .int .i64 (n : Int) ∧ kk = .int .i64 1 ∧ Hid (wr.heap = W.heap ∧ Below w.heap.size w wr) ∧ Hid (Rise c.v)) ∨
    (gk = 0 ∧ al = .int .i64 ((n + m : Nat) : Int) ∧ kk = .int .i64 2 ∧ Hid (wr.heap = W.heap ∧ Below w.heap.size w wr) ∧ Hid (Rise c.v ∧ Rise c.l ∧ ∀ x ∈ c.l, x ∉ c.v)))
  case atStart => exact .inl ⟨rfl, rfl, rfl, Lib.hid ⟨rfl, HB.out⟩⟩
  case round =>
    rcases hrel with ⟨rfl, rfl, rfl, HWO⟩ | ⟨rfl, rfl, rfl, HWO, HRV0⟩ | ⟨rfl, rfl, rfl, HWO, HR3⟩
    · obtain ⟨c0, c1, -, -, -⟩ := block2' (w := wr) (by rw [HWO.out.1]; exact HBX.out)
      go_wp2_with fail
      clear c0 c1
      obtain ⟨wo, hwo⟩ : ∃ wo : World, wo = wr := ⟨_, rfl⟩
      subst hwo
      go_loopg [3, 6] n (fun gi al i wr => ∃ z : Nat, z + gi = n ∧ al = .int .i64 (z : Int) ∧ i = .int .i64 (z : Int) ∧ Hid (wr.heap = W.heap ∧ Below w.heap.size w wr) ∧ Hid (Rise (c.v.take z)) ∧ Hid (∀ v ∈ c.v.take z, True))
      case atStart => exact ⟨0, by omega, rfl, rfl, HWO, Lib.hid Rise.nil, Lib.hid fun _ _ => trivial⟩
      case round =>
        obtain ⟨z, hz, rfl, rfl, HWR, HT, HD⟩ := hrel
        obtain ⟨c0, c1, -, -, -⟩ := block2' (w := wr) (by rw [HWR.out.1]; exact HBX.out)
        have HRA := Lib.hid (HV.out.same (w' := wr) (fun _ h => h) fun k _ => by rw [HWR.out.1])
        have HRV := Lib.hid (HV.out.same (w' := wr) (fun _ h => h) fun k _ => by rw [HWR.out.1])
        by_cases hlt : z < n
        · have hkk : (z : Int) < (n : Int) := by omega
          have hl1 : z < c.v.length := by rw [← HN.out]; exact hlt
          obtain ⟨ab, ao, hab, -, e0, -, -⟩ := HRA.out.elem z hl1
          subst hab
          have hst := rise_step hl1
          obtain ⟨x, hx⟩ : ∃ x, x = c.v[z] := ⟨_, rfl⟩
          rw [← hx] at e0 hst
          have HTK : Hid (c.v.take (z + 1) = c.v.take z ++ [x]) := Lib.hid (by rw [hx]; exact take_snoc hl1)
          have HXM : Hid (x ∈ c.v) := Lib.hid (by rw [hx]; exact List.getElem_mem hl1)
          have HIN : Hid (∀ q, Calls Try.prog 15 #[.slice (some ⟨ab, ao, none⟩) n k, .int .i64 x] (wr.drewN q) fun e w' => e = .returned (.bool (yes (x ∈ c.v))) ∧ w' = wr.drewN q) := Lib.hid fun q => RefIn_any c.v x F _ _ (HRV.out.same (fun _ h => h) fun _ _ => rfl)
          have HBAD : Hid (¬ Rise (c.v.take (z + 1)) → y = false) := Lib.hid fun h => by rw [HY.out]; exact yes_f fun h2 => h (h2.2.2.1.take _)
          by_cases b1 : x < 0
          · have q1 : decide (x < 0) = true := decide_eq_true b1
            have HE : Hid (y = false) := Lib.hid (HBAD.out fun h => by have := (hst.1 h).2.1.1; omega)
            clear hst hx
            go_wp2_with fail
            go_quiet (fail)
            go_wp2_with fail
            go_ret
            exact ⟨by rw [HE.out]; rfl, HWR.out.2.trans (below_dr _ _ _)⟩
          have q1 : decide (x < 0) = false := decide_eq_false b1
          by_cases b2 : x > 1048575
          · have q2 : decide (x > 1048575) = true := decide_eq_true b2
            have HE : Hid (y = false) := Lib.hid (HBAD.out fun h => by have := (hst.1 h).2.1.2; omega)
            clear hst hx
            go_wp2_with fail
            go_quiet (fail)
            go_wp2_with fail
            go_ret
            exact ⟨by rw [HE.out]; rfl, HWR.out.2.trans (below_dr _ _ _)⟩
          have q2 : decide (x > 1048575) = false := decide_eq_false b2
          have HOKX : Hid (okN x) := Lib.hid ⟨by omega, by omega⟩
          by_cases h0 : 0 < z
          · have q0 : decide ((z : Int) > 0) = true := decide_eq_true (by omega)
            obtain ⟨ab', ao', hh, -, e3, -, -⟩ := HRA.out.elem (z - 1) (by omega)
            cases hh
            obtain ⟨u, hu⟩ : ∃ u, u = c.v[z - 1] := ⟨_, rfl⟩
            rw [← hu] at e3
            have HST : Hid (Rise (c.v.take (z + 1)) ↔ Rise (c.v.take z) ∧ okN x ∧ u < x) := Lib.hid (hst.trans ⟨fun h => ⟨h.1, h.2.1, hu ▸ h.2.2 h0⟩, fun h => ⟨h.1, h.2.1, fun _ => hu ▸ h.2.2⟩⟩)
            have hk1 : IntKind.i64.wrap ((z : Int) - 1) = ((z - 1 : Nat) : Int) := by rw [IntWalk.i64_in _ (by omega)]; omega
            have hk2 : ((z - 1 : Nat) : Int) < (n : Int) := by omega
            clear hst hx hu
            by_cases hge : u ≥ x
            · have q3 : decide (u ≥ x) = true := decide_eq_true hge
              have HE : Hid (y = false) := Lib.hid (HBAD.out fun h => by have := (HST.out.1 h).2.2; omega)
              go_wp2_with fail
              go_quiet (fail)
              go_wp2_with fail
              go_ret
              exact ⟨by rw [HE.out]; rfl, HWR.out.2.trans (below_dr _ _ _)⟩
            · have q3 : decide (u ≥ x) = false := decide_eq_false hge
              have HT2 : Hid (Rise (c.v.take (z + 1))) := Lib.hid (HST.out.2 ⟨HT.out, HOKX.out, by omega⟩)
              have HD2 : Hid (∀ v ∈ c.v.take (z + 1), True) := Lib.hid fun _ _ => trivial
              go_wp2_with fail
              go_quiet (fail)
              go_wp2_with fail
              go_roundg (gk - 1)
              case measure => omega
              case rel => exact ⟨z + 1, by omega, by go_num, by go_num, Lib.hid ⟨HWR.out.1, HWR.out.2.trans (below_dr _ _ _)⟩, HT2, HD2⟩
          · have q0 : decide ((z : Int) > 0) = false := decide_eq_false (by omega)
            have HT2 : Hid (Rise (c.v.take (z + 1))) := Lib.hid (hst.2 ⟨HT.out, HOKX.out, fun h => absurd h h0⟩)
            clear hst hx
            have HD2 : Hid (∀ v ∈ c.v.take (z + 1), True) := Lib.hid fun _ _ => trivial
            go_wp2_with fail
            go_quiet (fail)
            go_wp2_with fail
            go_roundg (gk - 1)
            case measure => omega
            case rel => exact ⟨z + 1, by omega, by go_num, by go_num, Lib.hid ⟨HWR.out.1, HWR.out.2.trans (below_dr _ _ _)⟩, HT2, HD2⟩
        · obtain rfl : z = n := by omega
          have hkk : ¬ ((z : Nat) : Int) < (z : Int) := by omega
          have HRI : Hid (Rise c.v) := Lib.hid (by have := HT.out; rw [HN.out, List.take_length] at this; exact this)
          clear HT HD
          go_wp2_with fail
          go_roundg 1
          case measure => omega
          case rel => exact .inr (.inl ⟨rfl, by go_num, by go_num, HWR, HRI⟩)
    · obtain ⟨c0, c1, -, -, -⟩ := block2' (w := wr) (by rw [HWO.out.1]; exact HBX.out)
      go_wp2_with fail
      clear c0 c1
      obtain ⟨wo, hwo⟩ : ∃ wo : World, wo = wr := ⟨_, rfl⟩
      subst hwo
      go_loopg [3, 6] m (fun gi al i wr => ∃ z : Nat, z + gi = m ∧ al = .int .i64 ((n + z : Nat) : Int) ∧ i = .int .i64 (z : Int) ∧ Hid (wr.heap = W.heap ∧ Below w.heap.size w wr) ∧ Hid (Rise (c.l.take z)) ∧ Hid (∀ v ∈ c.l.take z, v ∉ c.v))
      case atStart => exact ⟨0, by omega, rfl, rfl, HWO, Lib.hid Rise.nil, Lib.hid fun _ h => by simp at h⟩
      case round =>
        obtain ⟨z, hz, rfl, rfl, HWR, HT, HD⟩ := hrel
        obtain ⟨c0, c1, -, -, -⟩ := block2' (w := wr) (by rw [HWR.out.1]; exact HBX.out)
        have HRA := Lib.hid (HL.out.same (w' := wr) (fun _ h => h) fun k _ => by rw [HWR.out.1])
        have HRV := Lib.hid (HV.out.same (w' := wr) (fun _ h => h) fun k _ => by rw [HWR.out.1])
        by_cases hlt : z < m
        · have hkk : (z : Int) < (m : Int) := by omega
          have hl1 : z < c.l.length := by rw [← HM.out]; exact hlt
          obtain ⟨ab, ao, hab, -, e0, -, -⟩ := HRA.out.elem z hl1
          subst hab
          have hst := rise_step hl1
          obtain ⟨x, hx⟩ : ∃ x, x = c.l[z] := ⟨_, rfl⟩
          rw [← hx] at e0 hst
          have HTK : Hid (c.l.take (z + 1) = c.l.take z ++ [x]) := Lib.hid (by rw [hx]; exact take_snoc hl1)
          have HXM : Hid (x ∈ c.l) := Lib.hid (by rw [hx]; exact List.getElem_mem hl1)
          have HIN : Hid (∀ q, Calls Try.prog 15 #[.slice a n k, .int .i64 x] (wr.drewN q) fun e w' => e = .returned (.bool (yes (x ∈ c.v))) ∧ w' = wr.drewN q) := Lib.hid fun q => RefIn_any c.v x F _ _ (HRV.out.same (fun _ h => h) fun _ _ => rfl)
          have HBAD : Hid (¬ Rise (c.l.take (z + 1)) → y = false) := Lib.hid fun h => by rw [HY.out]; exact yes_f fun h2 => h (h2.2.2.2.1.take _)
          by_cases b1 : x < 0
          · have q1 : decide (x < 0) = true := decide_eq_true b1
            have HE : Hid (y = false) := Lib.hid (HBAD.out fun h => by have := (hst.1 h).2.1.1; omega)
            clear hst hx
            go_wp2_with fail
            go_quiet (fail)
            go_wp2_with fail
            go_ret
            exact ⟨by rw [HE.out]; rfl, HWR.out.2.trans (below_dr _ _ _)⟩
          have q1 : decide (x < 0) = false := decide_eq_false b1
          by_cases b2 : x > 1048575
          · have q2 : decide (x > 1048575) = true := decide_eq_true b2
            have HE : Hid (y = false) := Lib.hid (HBAD.out fun h => by have := (hst.1 h).2.1.2; omega)
            clear hst hx
            go_wp2_with fail
            go_quiet (fail)
            go_wp2_with fail
            go_ret
            exact ⟨by rw [HE.out]; rfl, HWR.out.2.trans (below_dr _ _ _)⟩
          have q2 : decide (x > 1048575) = false := decide_eq_false b2
          have HOKX : Hid (okN x) := Lib.hid ⟨by omega, by omega⟩
          by_cases h0 : 0 < z
          · have q0 : decide ((z : Int) > 0) = true := decide_eq_true (by omega)
            obtain ⟨ab', ao', hh, -, e3, -, -⟩ := HRA.out.elem (z - 1) (by omega)
            cases hh
            obtain ⟨u, hu⟩ : ∃ u, u = c.l[z - 1] := ⟨_, rfl⟩
            rw [← hu] at e3
            have HST : Hid (Rise (c.l.take (z + 1)) ↔ Rise (c.l.take z) ∧ okN x ∧ u < x) := Lib.hid (hst.trans ⟨fun h => ⟨h.1, h.2.1, hu ▸ h.2.2 h0⟩, fun h => ⟨h.1, h.2.1, fun _ => hu ▸ h.2.2⟩⟩)
            have hk1 : IntKind.i64.wrap ((z : Int) - 1) = ((z - 1 : Nat) : Int) := by rw [IntWalk.i64_in _ (by omega)]; omega
            have hk2 : ((z - 1 : Nat) : Int) < (m : Int) := by omega
            clear hst hx hu
            by_cases hge : u ≥ x
            · have q3 : decide (u ≥ x) = true := decide_eq_true hge
              have HE : Hid (y = false) := Lib.hid (HBAD.out fun h => by have := (HST.out.1 h).2.2; omega)
              go_wp2_with fail
              go_quiet (fail)
              go_wp2_with fail
              go_ret
              exact ⟨by rw [HE.out]; rfl, HWR.out.2.trans (below_dr _ _ _)⟩
            · have q3 : decide (u ≥ x) = false := decide_eq_false hge
              have HT2 : Hid (Rise (c.l.take (z + 1))) := Lib.hid (HST.out.2 ⟨HT.out, HOKX.out, by omega⟩)
              by_cases hm : x ∈ c.v
              · have hy1 : yes (x ∈ c.v) = true := yes_t hm
                rw [hy1] at HIN
                have HE : Hid (y = false) := Lib.hid (by rw [HY.out]; exact yes_f fun h => h.2.2.2.2 x HXM.out hm)
                go_wp2_with fail
                go_quiet ((go_at_call 15; exact Calls.quiet_of_same (HIN.out _)))
                go_wp2_with fail
                go_ret
                exact ⟨by rw [HE.out]; rfl, HWR.out.2.trans (below_dr _ _ _)⟩
              · have hy1 : yes (x ∈ c.v) = false := yes_f hm
                rw [hy1] at HIN
                have HD2 : Hid (∀ v ∈ c.l.take (z + 1), v ∉ c.v) := Lib.hid fun v hv => by
                  rw [HTK.out] at hv
                  rcases List.mem_append.1 hv with hv | hv
                  · exact HD.out v hv
                  · simp at hv; rw [hv]; exact hm
                go_wp2_with fail
                go_quiet ((go_at_call 15; exact Calls.quiet_of_same (HIN.out _)))
                go_wp2_with fail
                go_roundg (gk - 1)
                case measure => omega
                case rel => exact ⟨z + 1, by omega, by go_num, by go_num, Lib.hid ⟨HWR.out.1, HWR.out.2.trans (below_dr _ _ _)⟩, HT2, HD2⟩
          · have q0 : decide ((z : Int) > 0) = false := decide_eq_false (by omega)
            have HT2 : Hid (Rise (c.l.take (z + 1))) := Lib.hid (hst.2 ⟨HT.out, HOKX.out, fun h => absurd h h0⟩)
            clear hst hx
            by_cases hm : x ∈ c.v
            · have hy1 : yes (x ∈ c.v) = true := yes_t hm
              rw [hy1] at HIN
              have HE : Hid (y = false) := Lib.hid (by rw [HY.out]; exact yes_f fun h => h.2.2.2.2 x HXM.out hm)
              go_wp2_with fail
              go_quiet ((go_at_call 15; exact Calls.quiet_of_same (HIN.out _)))
              go_wp2_with fail
              go_ret
              exact ⟨by rw [HE.out]; rfl, HWR.out.2.trans (below_dr _ _ _)⟩
            · have hy1 : yes (x ∈ c.v) = false := yes_f hm
              rw [hy1] at HIN
              have HD2 : Hid (∀ v ∈ c.l.take (z + 1), v ∉ c.v) := Lib.hid fun v hv => by
                rw [HTK.out] at hv
                rcases List.mem_append.1 hv with hv | hv
                · exact HD.out v hv
                · simp at hv; rw [hv]; exact hm
              go_wp2_with fail
              go_quiet ((go_at_call 15; exact Calls.quiet_of_same (HIN.out _)))
              go_wp2_with fail
              go_roundg (gk - 1)
              case measure => omega
              case rel => exact ⟨z + 1, by omega, by go_num, by go_num, Lib.hid ⟨HWR.out.1, HWR.out.2.trans (below_dr _ _ _)⟩, HT2, HD2⟩
        · obtain rfl : z = m := by omega
          have hkk : ¬ ((z : Nat) : Int) < (z : Int) := by omega
          have HRI : Hid (Rise c.v ∧ Rise c.l ∧ ∀ x ∈ c.l, x ∉ c.v) := Lib.hid (by
            have h1 := HT.out
            have h2 := HD.out
            rw [HM.out, List.take_length] at h1 h2
            exact ⟨HRV0.out, h1, h2⟩)
          clear HT HD
          go_wp2_with fail
          go_roundg 0
          case measure => omega
          case rel => exact .inr (.inr ⟨rfl, by go_num, by go_num, HWR, HRI⟩)
    · obtain ⟨c0, c1, -, -, -⟩ := block2' (w := wr) (by rw [HWO.out.1]; exact HBX.out)
      by_cases h9 : n + m ≤ 9
      · have q9 : decide (((n + m : Nat) : Int) ≤ 9) = true := decide_eq_true (by omega)
        by_cases hn0 : 0 < n
        · have q8 : decide ((n : Int) > 0) = true := decide_eq_true (by omega)
          have HE : Hid (y = true) := Lib.hid (by
            rw [HY.out]
            have h1 := HN.out
            have h2 := HM.out
            exact yes_t ⟨fun e => by rw [e] at h1; simp at h1; omega, by omega, HR3.out⟩)
          go_wp2_with fail
          go_ret
          exact ⟨by rw [HE.out]; rfl, HWO.out.2⟩
        · have q8 : decide ((n : Int) > 0) = false := decide_eq_false (by omega)
          have HE : Hid (y = false) := Lib.hid (by rw [HY.out]; exact yes_f fun h => h.1 (List.length_eq_zero_iff.1 (by rw [← HN.out]; omega)))
          go_wp2_with fail
          go_ret
          exact ⟨by rw [HE.out]; rfl, HWO.out.2⟩
      · have q9 : decide (((n + m : Nat) : Int) ≤ 9) = false := decide_eq_false (by omega)
        have HE : Hid (y = false) := Lib.hid (by rw [HY.out]; exact yes_f fun h => h9 (by rw [HN.out, HM.out]; exact h.2.1))
        go_wp2_with fail
        go_ret
        exact ⟨by rw [HE.out]; rfl, HWO.out.2⟩
end Go.Proofs.Ytfdlpmphgojlhaa.M

/- Part: MmN. -/
namespace Go.Proofs.Ytfdlpmphgojlhaa.M
open Go.RowKit

theorem putN_split {a b : List Int} {x : Int} (h : ∀ y ∈ a, ¬ x < y) : putN (a ++ b) x = a ++ putN b x := by
  induction a with
  | nil => rfl
  | cons y r ih =>
    rw [List.cons_append, show putN (y :: (r ++ b)) x = if x < y then x :: y :: (r ++ b) else y :: putN (r ++ b) x from rfl, if_neg (h y (by simp)), ih fun z hz => h z (by simp [hz])]
    rfl

/-- How far the copy has come. -/
def PutAt (l : List Int) (x : Int) (dn : Bool) (k : Nat) (O : List Int) : Prop :=
  O.length ≤ k + 1 ∧ if dn then putN l x = O ++ l.drop k else O = l.take k ∧ ∀ y ∈ l.take k, ¬ x < y

theorem PutAt.start (l : List Int) (x : Int) : PutAt l x false 0 [] := ⟨by simp, by simp⟩

theorem PutAt.done {l : List Int} {x z : Int} {k : Nat} {O : List Int} (h : PutAt l x true k O) (hk : k < l.length) (hz : z = l[k]) (ho : O.length ≤ k + 1) : PutAt l x true (k + 1) (O ++ [z]) := by
  subst hz
  obtain ⟨h1, h2⟩ := h
  refine ⟨by simp; omega, ?_⟩
  simp only [if_true] at h2 ⊢
  rw [h2, List.drop_eq_getElem_cons hk]
  simp

theorem PutAt.here {l : List Int} {x z : Int} {k : Nat} {O : List Int} (h : PutAt l x false k O) (hk : k < l.length) (hz : z = l[k]) (hx : x < z) : PutAt l x true (k + 1) ((O ++ [x]) ++ [z]) := by
  subst hz
  obtain ⟨h1, h2⟩ := h
  simp only [Bool.false_eq_true, if_false] at h2
  obtain ⟨rfl, h3⟩ := h2
  refine ⟨by simp; omega, ?_⟩
  simp only [if_true]
  conv => lhs; rw [← List.take_append_drop k l]
  rw [putN_split h3, List.drop_eq_getElem_cons hk]
  simp [putN, hx]

theorem PutAt.more {l : List Int} {x z : Int} {k : Nat} {O : List Int} (h : PutAt l x false k O) (hk : k < l.length) (hz : z = l[k]) (hx : ¬ x < z) : PutAt l x false (k + 1) (O ++ [z]) := by
  subst hz
  obtain ⟨h1, h2⟩ := h
  simp only [Bool.false_eq_true, if_false] at h2
  obtain ⟨rfl, h3⟩ := h2
  refine ⟨by simp; omega, ?_⟩
  simp only [Bool.false_eq_true, if_false]
  refine ⟨(take_snoc hk).symm, fun y hy => ?_⟩
  rw [take_snoc hk] at hy
  rcases List.mem_append.1 hy with hy | hy
  · exact h3 y hy
  · simp at hy; rw [hy]; exact hx

theorem PutAt.end_t {l : List Int} {x : Int} {O : List Int} (h : PutAt l x true l.length O) : putN l x = O := by
  have := h.2
  simpa using this

theorem PutAt.end_f {l : List Int} {x : Int} {O : List Int} (h : PutAt l x false l.length O) : putN l x = O ++ [x] := by
  have h2 := h.2
  simp only [Bool.false_eq_true, if_false, List.take_length] at h2
  obtain ⟨rfl, h3⟩ := h2
  have := putN_split (a := O) (b := []) (x := x) h3
  simpa [putN] using this

set_option maxRecDepth 20000 in
set_option maxHeartbeats 3200000 in
theorem RefPut_any (l : List Int) (x : Int) (F : Nat → Prop) (v : Value) (w : World) (hv : RepI w F l v) (hF : ∀ k, F k → k < w.heap.size) (hl : l.length ≤ 1000000) (hx : okN x) :
    Calls Try.prog 43 #[v, .int .i64 x] w fun e w' => ∃ v', e = .returned v' ∧ OwnI w (putN l x) v' w' := by
  obtain ⟨va, vc, rfl, -⟩ := hv.slice
  obtain ⟨n, hn⟩ : ∃ n, n = l.length := ⟨_, rfl⟩
  rw [← hn] at hl ⊢
  have HV := Lib.hid hv
  have HF := Lib.hid hF
  have HN := Lib.hid hn
  have HXB : Hid (-9223372036854775808 ≤ x ∧ x ≤ 9223372036854775807) := Lib.hid ⟨by have := hx.1; omega, by have := hx.2; omega⟩
  rw [← hn] at HV
  clear hv hn hF hx
  go_enter Try.func43, Try.ntmps43
  go_wp2_with fail
  obtain ⟨w0, hw0⟩ : ∃ w0 : World, w0 = w := ⟨_, rfl⟩
  subst hw0
  go_loopg [5, 6, 7] n (fun gk o d i wr => ∃ (k : Nat) (dn : Bool) (O : List Int), k + gk = n ∧ d = .bool dn ∧ i = .int .i64 (k : Int) ∧ Hid (OwnI w0 O o wr) ∧ Hid (PutAt l x dn k O))
  case atStart => exact ⟨0, false, [], by omega, rfl, rfl, Lib.hid (OwnI.start w0), Lib.hid (PutAt.start l x)⟩
  case round =>
    obtain ⟨k, dn, Oc, hk, rfl, rfl, HO, HP⟩ := hrel
    obtain ⟨oa, oc, ho⟩ := HO.out.2.slice
    obtain ⟨on, hon⟩ : ∃ on, on = Oc.length := ⟨_, rfl⟩
    have honl : on ≤ k + 1 := by rw [hon]; exact HP.out.1
    rw [← hon] at ho
    subst ho
    have HON := Lib.hid hon
    clear hon
    by_cases hlt : k < n
    · have hkk : (k : Int) < (n : Int) := by omega
      have hlt2 : k < l.length := by rw [← HN.out]; exact hlt
      obtain ⟨b, off, rfl, hb, e0, e1, e2⟩ := (HV.out.below HF.out HO.out.1).elem k hlt2
      have hbz : b < wr.heap.size := Nat.lt_of_lt_of_le (HF.out b hb) HO.out.1.size
      have HBF := Lib.hid (HF.out b hb)
      obtain ⟨z, hz⟩ : ∃ z, z = l[k] := ⟨_, rfl⟩
      rw [← hz] at e0 e1 e2
      have HZB := Lib.hid (And.intro e1 e2)
      cases dn with
      | true =>
        have HP2 : Hid (PutAt l x true (k + 1) (Oc ++ [z])) := Lib.hid (HP.out.done hlt2 hz HP.out.1)
        clear hz hb e1 e2
        go_wp2_with (at_builtin; refine wpList_ir_append rfl (.tmp 28) (.tmp 33) rfl rfl (base := w0.heap.size) (L := Oc) (L2 := [z]) rfl (HO.out.2.next (below_alloc wr _)) (by have := HO.out.1.size; simp; omega) rfl (one_int rfl HZB.out) (by rw [← HON.out]; simp; omega) ?_)
        intro o' w2 ht
        have HO2 : Hid (OwnI w0 (Oc ++ [z]) o' w2) := Lib.hid ((HO.out.next (below_alloc wr _)).turned ht)
        clear ht e0
        go_wp2_with fail
        go_roundg (gk - 1)
        case measure => omega
        case rel => exact ⟨k + 1, _, _, by omega, rfl, by go_num, HO2, HP2⟩
      | false =>
        by_cases hxz : z > x
        · have q : decide (z > x) = true := decide_eq_true hxz
          have HP2 : Hid (PutAt l x true (k + 1) ((Oc ++ [x]) ++ [z])) := Lib.hid (HP.out.here hlt2 hz hxz)
          clear hz hb e1 e2
          go_wp2_with (at_builtin; refine wpList_ir_append rfl (.tmp 24) (.tmp 26) rfl rfl (base := w0.heap.size) (L := Oc) (L2 := [x]) rfl (HO.out.2.next (below_alloc wr _)) (by have := HO.out.1.size; simp; omega) rfl (one_int rfl HXB.out) (by rw [← HON.out]; simp; omega) ?_)
          intro o1 w1 ht1
          have HO1 : Hid (OwnI w0 (Oc ++ [x]) o1 w1) := Lib.hid ((HO.out.next (below_alloc wr _)).turned ht1)
          have hbw : w1.heap[b]? = wr.heap[b]? := (HO1.out.1.block b HBF.out).trans (HO.out.1.block b HBF.out).symm
          have e0' := (World.cell?_of_block (a := ⟨b, off + k, none⟩) hbw).trans e0
          have hbz' : b < w1.heap.size := Nat.lt_of_lt_of_le HBF.out HO1.out.1.size
          obtain ⟨oa1, oc1, ho1⟩ := HO1.out.2.slice
          obtain ⟨on1, hon1⟩ : ∃ on1, on1 = (Oc ++ [x]).length := ⟨_, rfl⟩
          have honl1 : on1 ≤ k + 2 := by rw [hon1]; simp; have := HP.out.1; omega
          rw [← hon1] at ho1
          subst ho1
          have HON1 := Lib.hid hon1
          clear ht1 e0 hbz hbw hon1 hxz HO
          have e0 := e0'
          clear e0'
          have HO := HO1
          obtain ⟨wr0, hwr0⟩ : ∃ wr0, wr0 = wr := ⟨_, rfl⟩
          go_wp2_with (at_builtin; refine wpList_ir_append rfl (.tmp 28) (.tmp 33) rfl rfl (base := w0.heap.size) (L := Oc ++ [x]) (L2 := [z]) rfl (HO.out.2.next (below_alloc w1 _)) (by have := HO.out.1.size; simp; omega) rfl (one_int rfl HZB.out) (by rw [← HON1.out]; simp; omega) ?_)
          intro o' w2 ht
          have HO2 : Hid (OwnI w0 ((Oc ++ [x]) ++ [z]) o' w2) := Lib.hid ((HO.out.next (below_alloc w1 _)).turned (by simpa using ht))
          clear ht e0
          go_wp2_with fail
          go_roundg (gk - 1)
          case measure => omega
          case rel => exact ⟨k + 1, _, _, by omega, rfl, by go_num, HO2, HP2⟩
        · have q : decide (z > x) = false := decide_eq_false hxz
          have HP2 : Hid (PutAt l x false (k + 1) (Oc ++ [z])) := Lib.hid (HP.out.more hlt2 hz hxz)
          clear hz hb e1 e2
          go_wp2_with (at_builtin; refine wpList_ir_append rfl (.tmp 28) (.tmp 33) rfl rfl (base := w0.heap.size) (L := Oc) (L2 := [z]) rfl (HO.out.2.next (below_alloc wr _)) (by have := HO.out.1.size; simp; omega) rfl (one_int rfl HZB.out) (by rw [← HON.out]; simp; omega) ?_)
          intro o' w2 ht
          have HO2 : Hid (OwnI w0 (Oc ++ [z]) o' w2) := Lib.hid ((HO.out.next (below_alloc wr _)).turned ht)
          clear ht e0
          go_wp2_with fail
          go_roundg (gk - 1)
          case measure => omega
          case rel => exact ⟨k + 1, _, _, by omega, rfl, by go_num, HO2, HP2⟩
    · obtain rfl : k = n := by omega
      have hkk : ¬ ((k : Nat) : Int) < (k : Int) := by omega
      cases dn with
      | true =>
        have HE : Hid (putN l x = Oc) := Lib.hid (PutAt.end_t (by have := HP.out; rw [HN.out] at this; exact this))
        go_wp2_with fail
        go_ret
        exact ⟨_, rfl, by rw [HE.out]; exact HO.out⟩
      | false =>
        have HE : Hid (putN l x = Oc ++ [x]) := Lib.hid (PutAt.end_f (by have := HP.out; rw [HN.out] at this; exact this))
        go_wp2_with (at_builtin; refine wpList_ir_append rfl (.tmp 37) (.tmp 39) rfl rfl (base := w0.heap.size) (L := Oc) (L2 := [x]) rfl (HO.out.2.next (below_alloc wr _)) (by have := HO.out.1.size; simp; omega) rfl (one_int rfl HXB.out) (by rw [← HON.out]; simp; omega) ?_)
        intro o' w2 ht
        have HO2 : Hid (OwnI w0 (putN l x) o' w2) := Lib.hid (by rw [HE.out]; exact (HO.out.next (below_alloc wr _)).turned ht)
        clear ht
        go_wp2_with fail
        go_ret
        exact ⟨_, rfl, HO2.out⟩
end Go.Proofs.Ytfdlpmphgojlhaa.M

/- Part: MmO. -/
namespace Go.Proofs.Ytfdlpmphgojlhaa.M
open Go.RowKit

set_option maxRecDepth 20000 in
set_option maxHeartbeats 6400000 in
theorem RefNext_any (c : Cf) (d i : Int) (F : Nat → Prop) (vv lv : Value) (w : World) (hv : RepI w F c.v vv) (hl : RepI w F c.l lv) (hF : ∀ k, F k → k < w.heap.size) (hc : c.ok) :
    Calls Try.prog 25 #[.agg #[vv, lv], .agg #[.int .i64 d, .int .i64 i]] w fun e w' => NextPost (next1 c d i) w e w' := by
  obtain ⟨a, k, hvv, -⟩ := hv.slice
  obtain ⟨a', k', hlv, -⟩ := hl.slice
  obtain ⟨n, hn⟩ : ∃ n, n = c.v.length := ⟨_, rfl⟩
  obtain ⟨m, hm⟩ : ∃ m, m = c.l.length := ⟨_, rfl⟩
  have h9 := hc.2.1
  rw [← hn, ← hm] at h9
  rw [← hn] at hvv
  rw [← hm] at hlv
  subst hvv hlv
  obtain ⟨R, hR⟩ : ∃ R, R = next1 c d i := ⟨_, rfl⟩
  rw [← hR]
  obtain ⟨W, hW⟩ : ∃ W, W = ((w.alloc (.cells #[.slice a n k, .slice a' m k'] 24)).alloc (.cells #[.int .i64 d, .int .i64 i] 48)).alloc (.cells #[.slice none 0 0, .slice none 0 0] 24) := ⟨_, rfl⟩
  have HB : Hid (Below w.heap.size w W) := Lib.hid (by rw [hW]; exact (((Below.refl _ w).alloc (Nat.le_refl _) _).alloc (by simp) _).alloc (by simp; omega) _)
  obtain ⟨g, hg⟩ : ∃ g, g = w.heap.size := ⟨_, rfl⟩
  obtain ⟨h, hh⟩ : ∃ h, h = w.heap.size + 1 := ⟨_, rfl⟩
  obtain ⟨r, hr⟩ : ∃ r, r = w.heap.size + 1 + 1 := ⟨_, rfl⟩
  have HBX : Hid (W.heap[g]? = some (.cells #[.slice a n k, .slice a' m k'] 24)) := Lib.hid (by rw [hW, hg]; exact old_alloc (old_alloc (heap_alloc_new w _)))
  have HCH : Hid (W.heap[h]? = some (.cells #[.int .i64 d, .int .i64 i] 48)) := Lib.hid (by rw [hW, hh]; exact old_alloc (heap_new _ _ _ (by simp)))
  have HRX : Hid (W.heap[r]? = some (.cells #[.slice none 0 0, .slice none 0 0] 24)) := Lib.hid (by rw [hW, hr]; exact heap_new _ _ _ (by simp))
  have HVV := Lib.hid (hv.below hF HB.out)
  have HLL := Lib.hid (hl.below hF HB.out)
  have HFF : Hid (∀ k, F k → k < W.heap.size) := Lib.hid fun k hk => Nat.lt_of_lt_of_le (hF k hk) HB.out.size
  have HGZ := Lib.hid (lt_of_heap HBX.out)
  have HHZ := Lib.hid (lt_of_heap HCH.out)
  have HRZ := Lib.hid (lt_of_heap HRX.out)
  have HGR : Hid (¬ g = r) := Lib.hid (by omega)
  have HHR : Hid (¬ h = r) := Lib.hid (by omega)
  have HRL : Hid (w.heap.size ≤ r) := Lib.hid (by omega)
  have HG := Lib.hid hg
  have HHH := Lib.hid hh
  have HRR := Lib.hid hr
  have HW := Lib.hid hW
  have HR := Lib.hid hR
  have HC := Lib.hid hc
  have HN := Lib.hid hn
  have HM := Lib.hid hm
  clear hv hl hF hc hn hm hR hW hg hh hr
  obtain ⟨c0, c1, -, -, -⟩ := block2' HBX.out
  obtain ⟨d0, d1, -, -, -⟩ := block2' HCH.out
  by_cases hbad : d < 1 ∨ 3 < d ∨ i < 0 ∨ 1048575 < i
  · have HE : Hid (R = (cf0, 2)) := Lib.hid (by rw [HR.out]; exact next1_bad hbad)
    by_cases b1 : d < 1
    · have q1 : decide (d < 1) = true := decide_eq_true b1
      clear hbad
      go_enter Try.func25, Try.ntmps25
      go_wp2_with fail
      refine bodyPost_ret (v := .tuple #[.agg #[.slice none 0 0, .slice none 0 0], .int .i64 2]) (results_row_tmp (P := Try.prog) Try.results25 _ _ (w.heap.size + 1 + 1) 24 _ (0, 0) _ rfl (heap_new _ _ _ (by simp)) Try.underlying24 rfl (by kernel_rfl) _ rfl) rfl ?_
      rw [HE.out]
      exact ⟨(((Below.refl _ w).alloc (Nat.le_refl _) _).alloc (by simp) _).alloc (by simp; omega) _, _, _, rfl, .inl ⟨rfl, Bare.nil⟩, .inl ⟨rfl, Bare.nil⟩⟩
    have q1 : decide (d < 1) = false := decide_eq_false b1
    by_cases b2 : d > 3
    · have q2 : decide (d > 3) = true := decide_eq_true b2
      clear hbad
      go_enter Try.func25, Try.ntmps25
      go_wp2_with fail
      refine bodyPost_ret (v := .tuple #[.agg #[.slice none 0 0, .slice none 0 0], .int .i64 2]) (results_row_tmp (P := Try.prog) Try.results25 _ _ (w.heap.size + 1 + 1) 24 _ (0, 0) _ rfl (heap_new _ _ _ (by simp)) Try.underlying24 rfl (by kernel_rfl) _ rfl) rfl ?_
      rw [HE.out]
      exact ⟨(((Below.refl _ w).alloc (Nat.le_refl _) _).alloc (by simp) _).alloc (by simp; omega) _, _, _, rfl, .inl ⟨rfl, Bare.nil⟩, .inl ⟨rfl, Bare.nil⟩⟩
    have q2 : decide (d > 3) = false := decide_eq_false b2
    by_cases b3 : i < 0
    · have q3 : decide (i < 0) = true := decide_eq_true b3
      clear hbad
      go_enter Try.func25, Try.ntmps25
      go_wp2_with fail
      refine bodyPost_ret (v := .tuple #[.agg #[.slice none 0 0, .slice none 0 0], .int .i64 2]) (results_row_tmp (P := Try.prog) Try.results25 _ _ (w.heap.size + 1 + 1) 24 _ (0, 0) _ rfl (heap_new _ _ _ (by simp)) Try.underlying24 rfl (by kernel_rfl) _ rfl) rfl ?_
      rw [HE.out]
      exact ⟨(((Below.refl _ w).alloc (Nat.le_refl _) _).alloc (by simp) _).alloc (by simp; omega) _, _, _, rfl, .inl ⟨rfl, Bare.nil⟩, .inl ⟨rfl, Bare.nil⟩⟩
    have q3 : decide (i < 0) = false := decide_eq_false b3
    have b4 : i > 1048575 := by omega
    have q4 : decide (i > 1048575) = true := decide_eq_true b4
    clear hbad
    go_enter Try.func25, Try.ntmps25
    go_wp2_with fail
    refine bodyPost_ret (v := .tuple #[.agg #[.slice none 0 0, .slice none 0 0], .int .i64 2]) (results_row_tmp (P := Try.prog) Try.results25 _ _ (w.heap.size + 1 + 1) 24 _ (0, 0) _ rfl (heap_new _ _ _ (by simp)) Try.underlying24 rfl (by kernel_rfl) _ rfl) rfl ?_
    rw [HE.out]
    exact ⟨(((Below.refl _ w).alloc (Nat.le_refl _) _).alloc (by simp) _).alloc (by simp; omega) _, _, _, rfl, .inl ⟨rfl, Bare.nil⟩, .inl ⟨rfl, Bare.nil⟩⟩
  have q1 : decide (d < 1) = false := decide_eq_false (by omega)
  have q2 : decide (d > 3) = false := decide_eq_false (by omega)
  have q3 : decide (i < 0) = false := decide_eq_false (by omega)
  have q4 : decide (i > 1048575) = false := decide_eq_false (by omega)
  have hd : d = 1 ∨ d = 2 ∨ d = 3 := by omega
  have HI : Hid (okN i) := Lib.hid ⟨by omega, by omega⟩
  clear hbad
  go_enter Try.func25, Try.ntmps25
  go_wp2_with fail
  rw [← HRR.out, ← HHH.out, ← HG.out, ← HW.out]
  refine (RefIn_any c.v i F _ W HVV.out).mono ?_
  rintro e w' ⟨rfl, rfl⟩
  go_wp2_with fail
  refine (RefIn_any c.l i F _ w' HLL.out).mono ?_
  rintro e w'' ⟨rfl, rfl⟩
  obtain ⟨W, hWW⟩ : ∃ W, W = w'' := ⟨_, rfl⟩
  subst hWW
  rcases hd with hd | hd | hd
  · subst hd
    by_cases hx : i ∈ c.v
    · have HE : Hid (R = (cf0, 80)) := Lib.hid (by rw [HR.out]; exact next1_add_no rfl HI.out (.inl hx))
      rw [yes_t hx]
      obtain ⟨x0, x1, x2, x3, x4⟩ := block2' HRX.out
      go_wp2_with fail
      refine bodyPost_ret (v := .tuple #[.agg #[.slice none 0 0, .slice none 0 0], .int .i64 R.2]) (results_row_tmp (P := Try.prog) Try.results25 _ _ r 24 _ (0, 0) _ rfl (heap_set22 HRX.out) Try.underlying24 rfl (by kernel_rfl) _ (by rw [HE.out]; rfl)) rfl ?_
      rw [HE.out]
      exact ⟨(HB.out.setCell (show w.heap.size ≤ r from HRL.out) _).setCell (show w.heap.size ≤ r from HRL.out) _, _, _, rfl, .inl ⟨rfl, Bare.nil⟩, .inl ⟨rfl, Bare.nil⟩⟩
    by_cases hy : i ∈ c.l
    · have HE : Hid (R = (cf0, 80)) := Lib.hid (by rw [HR.out]; exact next1_add_no rfl HI.out (.inr (.inl hy)))
      rw [yes_f hx, yes_t hy]
      obtain ⟨x0, x1, x2, x3, x4⟩ := block2' HRX.out
      go_wp2_with fail
      refine bodyPost_ret (v := .tuple #[.agg #[.slice none 0 0, .slice none 0 0], .int .i64 R.2]) (results_row_tmp (P := Try.prog) Try.results25 _ _ r 24 _ (0, 0) _ rfl (heap_set22 HRX.out) Try.underlying24 rfl (by kernel_rfl) _ (by rw [HE.out]; rfl)) rfl ?_
      rw [HE.out]
      exact ⟨(HB.out.setCell (show w.heap.size ≤ r from HRL.out) _).setCell (show w.heap.size ≤ r from HRL.out) _, _, _, rfl, .inl ⟨rfl, Bare.nil⟩, .inl ⟨rfl, Bare.nil⟩⟩
    by_cases hz : n + m ≥ 9
    · have q9 : decide ((n : Int) + (m : Int) ≥ 9) = true := decide_eq_true (by omega)
      have HE : Hid (R = (cf0, 80)) := Lib.hid (by rw [HR.out]; exact next1_add_no rfl HI.out (.inr (.inr (by rw [← HN.out, ← HM.out]; exact hz))))
      rw [yes_f hx, yes_f hy]
      obtain ⟨x0, x1, x2, x3, x4⟩ := block2' HRX.out
      go_wp2_with fail
      refine bodyPost_ret (v := .tuple #[.agg #[.slice none 0 0, .slice none 0 0], .int .i64 R.2]) (results_row_tmp (P := Try.prog) Try.results25 _ _ r 24 _ (0, 0) _ rfl (heap_set22 HRX.out) Try.underlying24 rfl (by kernel_rfl) _ (by rw [HE.out]; rfl)) rfl ?_
      rw [HE.out]
      exact ⟨(HB.out.setCell (show w.heap.size ≤ r from HRL.out) _).setCell (show w.heap.size ≤ r from HRL.out) _, _, _, rfl, .inl ⟨rfl, Bare.nil⟩, .inl ⟨rfl, Bare.nil⟩⟩
    have q9 : decide ((n : Int) + (m : Int) ≥ 9) = false := decide_eq_false (by omega)
    have HE : Hid (R = (⟨c.v, putN c.l i⟩, 0)) := Lib.hid (by rw [HR.out]; exact next1_add rfl HI.out hx hy (by rw [← HN.out, ← HM.out]; omega))
    have HDN : Hid (dropN c.v (-1) = c.v) := Lib.hid (dropN_none fun e => by have := (HC.out.2.2.1.1 _ e).1; omega)
    rw [yes_f hx, yes_f hy]
    go_wp2_with fail
    refine wp_region_held (S := fun w' => Only (fun q => q = r) W w') (by kernel_rfl) ?_
    have hS : Only (fun q => q = r) W W.drew := only_drew _ W
    have r0 : ∀ w', Only (fun q => q = r) W w' → w'.cell? ⟨g, 0, none⟩ = some (.slice a n k) := fun w' hw' => (cell_only hw' HGZ.out (fun h => absurd h HGR.out) 0).trans (block2' HBX.out).1
    have r1 : ∀ w', Only (fun q => q = r) W w' → w'.cell? ⟨g, 1, none⟩ = some (.slice a' m k') := fun w' hw' => (cell_only hw' HGZ.out (fun h => absurd h HGR.out) 1).trans (block2' HBX.out).2.1
    have r2 : ∀ w', Only (fun q => q = r) W w' → w'.cell? ⟨h, 1, none⟩ = some (.int .i64 i) := fun w' hw' => (cell_only hw' HHZ.out (fun hh => absurd hh HHR.out) 1).trans (block2' HCH.out).2.1
    clear c0 c1 d0 d1
    refine H_take (i := 0) (v := ?_) rfl (by as_aux_lemma => kernel_rfl) (by as_aux_lemma => kernel_rfl) (by as_aux_lemma => kernel_rfl) (fun _ _ _ h => h) (by rfl) hS ?_ ?_
    rotate_left
    · intro w' hw'; go_simp; with_reducible rfl
    go_simp
    refine H_take (i := 1) (v := ?_) rfl (by as_aux_lemma => kernel_rfl) (by as_aux_lemma => kernel_rfl) (by as_aux_lemma => kernel_rfl) (fun _ _ _ h => h) (by rfl) hS ?_ ?_
    rotate_left
    · intro w' hw'; go_simp; with_reducible rfl
    go_simp
    refine H_take (i := 3) (v := ?_) rfl (by as_aux_lemma => kernel_rfl) (by as_aux_lemma => kernel_rfl) (by as_aux_lemma => kernel_rfl) (fun _ _ _ h => h) (by rfl) hS ?_ ?_
    rotate_left
    · intro w' hw'; go_simp; with_reducible rfl
    go_simp
    refine H_take (i := 4) (v := ?_) rfl (by as_aux_lemma => kernel_rfl) (by as_aux_lemma => kernel_rfl) (by as_aux_lemma => kernel_rfl) (fun _ _ _ h => h) (by rfl) hS ?_ ?_
    rotate_left
    · intro w' hw'; go_simp; with_reducible rfl
    go_simp
    refine H_take (i := 5) (v := ?_) rfl (by as_aux_lemma => kernel_rfl) (by as_aux_lemma => kernel_rfl) (by as_aux_lemma => kernel_rfl) (fun _ _ _ h => h) (by rfl) hS ?_ ?_
    rotate_left
    · intro w' hw'; go_simp; with_reducible rfl
    go_simp
    refine H_take (i := 6) (v := ?_) rfl (by as_aux_lemma => kernel_rfl) (by as_aux_lemma => kernel_rfl) (by as_aux_lemma => kernel_rfl) (fun _ _ _ h => h) (by rfl) hS ?_ ?_
    rotate_left
    · intro w' hw'; go_simp; with_reducible rfl
    go_simp
    refine H_one (i := 2) (by as_aux_lemma => kernel_rfl) rfl (by rfl) ?_
    go_simp
    refine (RefDrop_any c.v (-1) F _ W.drew (HVV.out.below HFF.out (below_drew1 W)) HFF.out (by have := HC.out.2.1; omega)).mono ?_
    rw [HDN.out]
    rintro e w4 ⟨u4, rfl, ho4⟩
    obtain ⟨a4, k4, hv4⟩ := ho4.2.slice
    subst hv4
    have hS4 : Only (fun q => q = r) W w4 := Only.thn hS (fun _ h => .inl h) (Only.of_below (X := fun q => q = r) ho4.1)
    have HB4 : Hid (Below W.heap.size W w4) := Lib.hid ((below_drew1 W).trans (ho4.1.mono (Nat.le_refl _)))
    have HO4 := Lib.hid ho4
    clear ho4
    refine ⟨hS4, ?_⟩
    go_simp
    refine H_one (i := 7) (by as_aux_lemma => kernel_rfl) rfl (by rfl) ?_
    go_simp
    refine (RefPut_any c.l i F _ w4 (HLL.out.below HFF.out HB4.out) (fun k hk => Nat.lt_of_lt_of_le (HFF.out k hk) HB4.out.size) (by have := HC.out.2.1; omega) HI.out).mono ?_
    rintro e w5 ⟨u5, rfl, ho5⟩
    obtain ⟨a5, k5, hv5⟩ := ho5.2.slice
    subst hv5
    have hS5 : Only (fun q => q = r) W w5 := Only.thn hS4 (fun _ h => .inl h) (Only.of_below (X := fun q => q = r) ho5.1)
    have HB5W : Hid (Below W.heap.size W w5) := Lib.hid (HB4.out.trans (ho5.1.mono HB4.out.size))
    have HB5 : Hid (Below w.heap.size w w5) := Lib.hid (HB.out.trans (HB5W.out.mono HB.out.size))
    have HRX5 : Hid (w5.heap[r]? = some (.cells #[.slice none 0 0, .slice none 0 0] 24)) := Lib.hid (old_below HRX.out HB5W.out)
    have HI4 := Lib.hid ((HO4.out.2.next ho5.1).lower (base' := r + 1) (by have := HRZ.out; show r + 1 ≤ W.heap.size; omega))
    have HI5 := Lib.hid (ho5.2.lower (base' := r + 1) (by have := HRZ.out; have := HB4.out.size; omega))
    obtain ⟨x0, x1, x2, x3, x4⟩ := block2' HRX5.out
    obtain ⟨n4, hn4⟩ : ∃ n4, n4 = c.v.length := ⟨_, rfl⟩
    obtain ⟨n5, hn5⟩ : ∃ n5, n5 = (putN c.l i).length := ⟨_, rfl⟩
    rw [← hn4] at HI4 ⊢
    rw [← hn5] at HI5 ho5 ⊢
    clear ho5 hn4 hn5
    refine ⟨hS5, ?_⟩
    go_simp
    refine H_take (i := 8) (v := ?_) rfl (by as_aux_lemma => kernel_rfl) (by as_aux_lemma => kernel_rfl) (by as_aux_lemma => kernel_rfl) (fun _ _ _ h => h) (by rfl) hS5 ?_ ?_
    rotate_left
    · intro w' hw'; go_simp; with_reducible rfl
    go_simp
    refine H_one (i := 9) (by as_aux_lemma => kernel_rfl) rfl (by rfl) ?_
    go_simp
    have hS6 : Only (fun q => q = r) W ((w5.setCell ⟨r, 0, none⟩ (.slice a4 n4 k4)).setCell ⟨r, 1, none⟩ (.slice a5 n5 k5)) := (hS5.set (.inl rfl) _).set (.inl rfl) _
    refine ⟨hS6, ?_⟩
    refine H_take (i := 10) (v := ?_) rfl (by as_aux_lemma => kernel_rfl) (by as_aux_lemma => kernel_rfl) (by as_aux_lemma => kernel_rfl) (fun _ _ _ h => h) (by rfl) hS6 ?_ ?_
    rotate_left
    · intro w' hw'; go_simp; with_reducible rfl
    go_simp
    refine wpAnyH_done (by as_aux_lemma => kernel_rfl) ?_ _
    clear hS hS4 hS5 hS6 r0 r1 r2
    go_wp2_with fail
    have hr1 : ∀ {u : Value} {z : List Int}, IR (r + 1) z u w5 → RepI ((w5.setCell ⟨r, 0, none⟩ (.slice a4 n4 k4)).setCell ⟨r, 1, none⟩ (.slice a5 n5 k5)) (fun b => w.heap.size ≤ b ∧ b < ((w5.setCell ⟨r, 0, none⟩ (.slice a4 n4 k4)).setCell ⟨r, 1, none⟩ (.slice a5 n5 k5)).heap.size) z u := fun {u z} h => by
      have hx : u.ownBlock ≠ some r := fun e => by have := (h.block_lt e).1; omega
      exact ((h.set hx).set hx).rep.same (fun k hk => ⟨by have := hk.1; have := HRL.out; omega, hk.2⟩) fun _ _ => rfl
    refine bodyPost_ret (v := .tuple #[.agg #[.slice a4 n4 k4, .slice a5 n5 k5], .int .i64 0]) (results_row_tmp (P := Try.prog) Try.results25 _ _ r 24 _ (0, 0) _ rfl (heap_set22 HRX5.out) Try.underlying24 rfl (by kernel_rfl) _ rfl) rfl ?_
    rw [HE.out]
    exact ⟨(HB5.out.setCell (show w.heap.size ≤ r from HRL.out) _).setCell (show w.heap.size ≤ r from HRL.out) _, _, _, rfl, hr1 HI4.out, hr1 HI5.out⟩
  · subst hd
    by_cases hy : i ∈ c.l
    · have HE : Hid (R = (⟨putN c.v i, dropN c.l i⟩, 0)) := Lib.hid (by rw [HR.out]; exact next1_pro rfl HI.out hy)
      rw [yes_t hy]
      go_wp2_with fail
      refine wp_region_held (S := fun w' => Only (fun q => q = r) W w') (by kernel_rfl) ?_
      have hS : Only (fun q => q = r) W W.drew := only_drew _ W
      have r0 : ∀ w', Only (fun q => q = r) W w' → w'.cell? ⟨g, 0, none⟩ = some (.slice a n k) := fun w' hw' => (cell_only hw' HGZ.out (fun h => absurd h HGR.out) 0).trans (block2' HBX.out).1
      have r1 : ∀ w', Only (fun q => q = r) W w' → w'.cell? ⟨g, 1, none⟩ = some (.slice a' m k') := fun w' hw' => (cell_only hw' HGZ.out (fun h => absurd h HGR.out) 1).trans (block2' HBX.out).2.1
      have r2 : ∀ w', Only (fun q => q = r) W w' → w'.cell? ⟨h, 1, none⟩ = some (.int .i64 i) := fun w' hw' => (cell_only hw' HHZ.out (fun hh => absurd hh HHR.out) 1).trans (block2' HCH.out).2.1
      clear c0 c1 d0 d1
      refine H_take (i := 0) (v := ?_) rfl (by as_aux_lemma => kernel_rfl) (by as_aux_lemma => kernel_rfl) (by as_aux_lemma => kernel_rfl) (fun _ _ _ h => h) (by rfl) hS ?_ ?_
      rotate_left
      · intro w' hw'; go_simp; with_reducible rfl
      go_simp
      refine H_take (i := 1) (v := ?_) rfl (by as_aux_lemma => kernel_rfl) (by as_aux_lemma => kernel_rfl) (by as_aux_lemma => kernel_rfl) (fun _ _ _ h => h) (by rfl) hS ?_ ?_
      rotate_left
      · intro w' hw'; go_simp; with_reducible rfl
      go_simp
      refine H_take (i := 2) (v := ?_) rfl (by as_aux_lemma => kernel_rfl) (by as_aux_lemma => kernel_rfl) (by as_aux_lemma => kernel_rfl) (fun _ _ _ h => h) (by rfl) hS ?_ ?_
      rotate_left
      · intro w' hw'; go_simp; with_reducible rfl
      go_simp
      refine H_take (i := 3) (v := ?_) rfl (by as_aux_lemma => kernel_rfl) (by as_aux_lemma => kernel_rfl) (by as_aux_lemma => kernel_rfl) (fun _ _ _ h => h) (by rfl) hS ?_ ?_
      rotate_left
      · intro w' hw'; go_simp; with_reducible rfl
      go_simp
      refine H_take (i := 5) (v := ?_) rfl (by as_aux_lemma => kernel_rfl) (by as_aux_lemma => kernel_rfl) (by as_aux_lemma => kernel_rfl) (fun _ _ _ h => h) (by rfl) hS ?_ ?_
      rotate_left
      · intro w' hw'; go_simp; with_reducible rfl
      go_simp
      refine H_take (i := 6) (v := ?_) rfl (by as_aux_lemma => kernel_rfl) (by as_aux_lemma => kernel_rfl) (by as_aux_lemma => kernel_rfl) (fun _ _ _ h => h) (by rfl) hS ?_ ?_
      rotate_left
      · intro w' hw'; go_simp; with_reducible rfl
      go_simp
      refine H_take (i := 7) (v := ?_) rfl (by as_aux_lemma => kernel_rfl) (by as_aux_lemma => kernel_rfl) (by as_aux_lemma => kernel_rfl) (fun _ _ _ h => h) (by rfl) hS ?_ ?_
      rotate_left
      · intro w' hw'; go_simp; with_reducible rfl
      go_simp
      refine H_take (i := 8) (v := ?_) rfl (by as_aux_lemma => kernel_rfl) (by as_aux_lemma => kernel_rfl) (by as_aux_lemma => kernel_rfl) (fun _ _ _ h => h) (by rfl) hS ?_ ?_
      rotate_left
      · intro w' hw'; go_simp; with_reducible rfl
      go_simp
      refine H_one (i := 4) (by as_aux_lemma => kernel_rfl) rfl (by rfl) ?_
      go_simp
      refine (RefPut_any c.v i F _ W.drew (HVV.out.below HFF.out (below_drew1 W)) HFF.out (by have := HC.out.2.1; omega) HI.out).mono ?_
      rintro e w4 ⟨u4, rfl, ho4⟩
      obtain ⟨a4, k4, hv4⟩ := ho4.2.slice
      subst hv4
      have hS4 : Only (fun q => q = r) W w4 := Only.thn hS (fun _ h => .inl h) (Only.of_below (X := fun q => q = r) ho4.1)
      have HB4 : Hid (Below W.heap.size W w4) := Lib.hid ((below_drew1 W).trans (ho4.1.mono (Nat.le_refl _)))
      have HO4 := Lib.hid ho4
      clear ho4
      refine ⟨hS4, ?_⟩
      go_simp
      refine H_one (i := 9) (by as_aux_lemma => kernel_rfl) rfl (by rfl) ?_
      go_simp
      refine (RefDrop_any c.l i F _ w4 (HLL.out.below HFF.out HB4.out) (fun k hk => Nat.lt_of_lt_of_le (HFF.out k hk) HB4.out.size) (by have := HC.out.2.1; omega)).mono ?_
      rintro e w5 ⟨u5, rfl, ho5⟩
      obtain ⟨a5, k5, hv5⟩ := ho5.2.slice
      subst hv5
      have hS5 : Only (fun q => q = r) W w5 := Only.thn hS4 (fun _ h => .inl h) (Only.of_below (X := fun q => q = r) ho5.1)
      have HB5W : Hid (Below W.heap.size W w5) := Lib.hid (HB4.out.trans (ho5.1.mono HB4.out.size))
      have HB5 : Hid (Below w.heap.size w w5) := Lib.hid (HB.out.trans (HB5W.out.mono HB.out.size))
      have HRX5 : Hid (w5.heap[r]? = some (.cells #[.slice none 0 0, .slice none 0 0] 24)) := Lib.hid (old_below HRX.out HB5W.out)
      have HI4 := Lib.hid ((HO4.out.2.next ho5.1).lower (base' := r + 1) (by have := HRZ.out; show r + 1 ≤ W.heap.size; omega))
      have HI5 := Lib.hid (ho5.2.lower (base' := r + 1) (by have := HRZ.out; have := HB4.out.size; omega))
      obtain ⟨x0, x1, x2, x3, x4⟩ := block2' HRX5.out
      obtain ⟨n4, hn4⟩ : ∃ n4, n4 = (putN c.v i).length := ⟨_, rfl⟩
      obtain ⟨n5, hn5⟩ : ∃ n5, n5 = (dropN c.l i).length := ⟨_, rfl⟩
      rw [← hn4] at HI4 ⊢
      rw [← hn5] at HI5 ho5 ⊢
      clear ho5 hn4 hn5
      refine ⟨hS5, ?_⟩
      go_simp
      refine H_take (i := 10) (v := ?_) rfl (by as_aux_lemma => kernel_rfl) (by as_aux_lemma => kernel_rfl) (by as_aux_lemma => kernel_rfl) (fun _ _ _ h => h) (by rfl) hS5 ?_ ?_
      rotate_left
      · intro w' hw'; go_simp; with_reducible rfl
      go_simp
      refine H_one (i := 11) (by as_aux_lemma => kernel_rfl) rfl (by rfl) ?_
      go_simp
      have hS6 : Only (fun q => q = r) W ((w5.setCell ⟨r, 0, none⟩ (.slice a4 n4 k4)).setCell ⟨r, 1, none⟩ (.slice a5 n5 k5)) := (hS5.set (.inl rfl) _).set (.inl rfl) _
      refine ⟨hS6, ?_⟩
      refine H_take (i := 12) (v := ?_) rfl (by as_aux_lemma => kernel_rfl) (by as_aux_lemma => kernel_rfl) (by as_aux_lemma => kernel_rfl) (fun _ _ _ h => h) (by rfl) hS6 ?_ ?_
      rotate_left
      · intro w' hw'; go_simp; with_reducible rfl
      go_simp
      refine wpAnyH_done (by as_aux_lemma => kernel_rfl) ?_ _
      clear hS hS4 hS5 hS6 r0 r1 r2
      go_wp2_with fail
      have hr1 : ∀ {u : Value} {z : List Int}, IR (r + 1) z u w5 → RepI ((w5.setCell ⟨r, 0, none⟩ (.slice a4 n4 k4)).setCell ⟨r, 1, none⟩ (.slice a5 n5 k5)) (fun b => w.heap.size ≤ b ∧ b < ((w5.setCell ⟨r, 0, none⟩ (.slice a4 n4 k4)).setCell ⟨r, 1, none⟩ (.slice a5 n5 k5)).heap.size) z u := fun {u z} h => by
        have hx : u.ownBlock ≠ some r := fun e => by have := (h.block_lt e).1; omega
        exact ((h.set hx).set hx).rep.same (fun k hk => ⟨by have := hk.1; have := HRL.out; omega, hk.2⟩) fun _ _ => rfl
      refine bodyPost_ret (v := .tuple #[.agg #[.slice a4 n4 k4, .slice a5 n5 k5], .int .i64 0]) (results_row_tmp (P := Try.prog) Try.results25 _ _ r 24 _ (0, 0) _ rfl (heap_set22 HRX5.out) Try.underlying24 rfl (by kernel_rfl) _ rfl) rfl ?_
      rw [HE.out]
      exact ⟨(HB5.out.setCell (show w.heap.size ≤ r from HRL.out) _).setCell (show w.heap.size ≤ r from HRL.out) _, _, _, rfl, hr1 HI4.out, hr1 HI5.out⟩
    · have HE : Hid (R = (cf0, 80)) := Lib.hid (by rw [HR.out]; exact next1_pro_no rfl HI.out hy)
      rw [yes_f hy]
      obtain ⟨x0, x1, x2, x3, x4⟩ := block2' HRX.out
      go_wp2_with fail
      refine bodyPost_ret (v := .tuple #[.agg #[.slice none 0 0, .slice none 0 0], .int .i64 R.2]) (results_row_tmp (P := Try.prog) Try.results25 _ _ r 24 _ (0, 0) _ rfl (heap_set22 HRX.out) Try.underlying24 rfl (by kernel_rfl) _ (by rw [HE.out]; rfl)) rfl ?_
      rw [HE.out]
      exact ⟨(HB.out.setCell (show w.heap.size ≤ r from HRL.out) _).setCell (show w.heap.size ≤ r from HRL.out) _, _, _, rfl, .inl ⟨rfl, Bare.nil⟩, .inl ⟨rfl, Bare.nil⟩⟩
  · subst hd
    by_cases hx : i ∈ c.v
    · by_cases h1 : n = 1
      · have hn1 : (n : Int) = 1 := by omega
        have q9 : ((n : Int) == 1) = true := by simpa using hn1
        have HE : Hid (R = (cf0, 81)) := Lib.hid (by rw [HR.out]; exact next1_rem_last rfl HI.out hx (by rw [← HN.out]; exact h1))
        rw [yes_t hx]
        obtain ⟨x0, x1, x2, x3, x4⟩ := block2' HRX.out
        go_wp2_with fail
        refine bodyPost_ret (v := .tuple #[.agg #[.slice none 0 0, .slice none 0 0], .int .i64 R.2]) (results_row_tmp (P := Try.prog) Try.results25 _ _ r 24 _ (0, 0) _ rfl (heap_set22 HRX.out) Try.underlying24 rfl (by kernel_rfl) _ (by rw [HE.out]; rfl)) rfl ?_
        rw [HE.out]
        exact ⟨(HB.out.setCell (show w.heap.size ≤ r from HRL.out) _).setCell (show w.heap.size ≤ r from HRL.out) _, _, _, rfl, .inl ⟨rfl, Bare.nil⟩, .inl ⟨rfl, Bare.nil⟩⟩
      have hn1 : ¬ (n : Int) = 1 := by omega
      have q9 : ((n : Int) == 1) = false := by simpa using hn1
      have HE : Hid (R = (⟨dropN c.v i, dropN c.l i⟩, 0)) := Lib.hid (by rw [HR.out]; exact next1_rem rfl HI.out (.inl hx) (fun h => h1 (by rw [HN.out]; exact h.2)))
      rw [yes_t hx]
      go_wp2_with fail
      refine wp_region_held (S := fun w' => Only (fun q => q = r) W w') (by kernel_rfl) ?_
      have hS : Only (fun q => q = r) W W.drew := only_drew _ W
      have r0 : ∀ w', Only (fun q => q = r) W w' → w'.cell? ⟨g, 0, none⟩ = some (.slice a n k) := fun w' hw' => (cell_only hw' HGZ.out (fun h => absurd h HGR.out) 0).trans (block2' HBX.out).1
      have r1 : ∀ w', Only (fun q => q = r) W w' → w'.cell? ⟨g, 1, none⟩ = some (.slice a' m k') := fun w' hw' => (cell_only hw' HGZ.out (fun h => absurd h HGR.out) 1).trans (block2' HBX.out).2.1
      have r2 : ∀ w', Only (fun q => q = r) W w' → w'.cell? ⟨h, 1, none⟩ = some (.int .i64 i) := fun w' hw' => (cell_only hw' HHZ.out (fun hh => absurd hh HHR.out) 1).trans (block2' HCH.out).2.1
      clear c0 c1 d0 d1
      refine H_take (i := 0) (v := ?_) rfl (by as_aux_lemma => kernel_rfl) (by as_aux_lemma => kernel_rfl) (by as_aux_lemma => kernel_rfl) (fun _ _ _ h => h) (by rfl) hS ?_ ?_
      rotate_left
      · intro w' hw'; go_simp; with_reducible rfl
      go_simp
      refine H_take (i := 1) (v := ?_) rfl (by as_aux_lemma => kernel_rfl) (by as_aux_lemma => kernel_rfl) (by as_aux_lemma => kernel_rfl) (fun _ _ _ h => h) (by rfl) hS ?_ ?_
      rotate_left
      · intro w' hw'; go_simp; with_reducible rfl
      go_simp
      refine H_take (i := 2) (v := ?_) rfl (by as_aux_lemma => kernel_rfl) (by as_aux_lemma => kernel_rfl) (by as_aux_lemma => kernel_rfl) (fun _ _ _ h => h) (by rfl) hS ?_ ?_
      rotate_left
      · intro w' hw'; go_simp; with_reducible rfl
      go_simp
      refine H_take (i := 3) (v := ?_) rfl (by as_aux_lemma => kernel_rfl) (by as_aux_lemma => kernel_rfl) (by as_aux_lemma => kernel_rfl) (fun _ _ _ h => h) (by rfl) hS ?_ ?_
      rotate_left
      · intro w' hw'; go_simp; with_reducible rfl
      go_simp
      refine H_take (i := 5) (v := ?_) rfl (by as_aux_lemma => kernel_rfl) (by as_aux_lemma => kernel_rfl) (by as_aux_lemma => kernel_rfl) (fun _ _ _ h => h) (by rfl) hS ?_ ?_
      rotate_left
      · intro w' hw'; go_simp; with_reducible rfl
      go_simp
      refine H_take (i := 6) (v := ?_) rfl (by as_aux_lemma => kernel_rfl) (by as_aux_lemma => kernel_rfl) (by as_aux_lemma => kernel_rfl) (fun _ _ _ h => h) (by rfl) hS ?_ ?_
      rotate_left
      · intro w' hw'; go_simp; with_reducible rfl
      go_simp
      refine H_take (i := 7) (v := ?_) rfl (by as_aux_lemma => kernel_rfl) (by as_aux_lemma => kernel_rfl) (by as_aux_lemma => kernel_rfl) (fun _ _ _ h => h) (by rfl) hS ?_ ?_
      rotate_left
      · intro w' hw'; go_simp; with_reducible rfl
      go_simp
      refine H_take (i := 8) (v := ?_) rfl (by as_aux_lemma => kernel_rfl) (by as_aux_lemma => kernel_rfl) (by as_aux_lemma => kernel_rfl) (fun _ _ _ h => h) (by rfl) hS ?_ ?_
      rotate_left
      · intro w' hw'; go_simp; with_reducible rfl
      go_simp
      refine H_one (i := 4) (by as_aux_lemma => kernel_rfl) rfl (by rfl) ?_
      go_simp
      refine (RefDrop_any c.v i F _ W.drew (HVV.out.below HFF.out (below_drew1 W)) HFF.out (by have := HC.out.2.1; omega)).mono ?_
      rintro e w4 ⟨u4, rfl, ho4⟩
      obtain ⟨a4, k4, hv4⟩ := ho4.2.slice
      subst hv4
      have hS4 : Only (fun q => q = r) W w4 := Only.thn hS (fun _ h => .inl h) (Only.of_below (X := fun q => q = r) ho4.1)
      have HB4 : Hid (Below W.heap.size W w4) := Lib.hid ((below_drew1 W).trans (ho4.1.mono (Nat.le_refl _)))
      have HO4 := Lib.hid ho4
      clear ho4
      refine ⟨hS4, ?_⟩
      go_simp
      refine H_one (i := 9) (by as_aux_lemma => kernel_rfl) rfl (by rfl) ?_
      go_simp
      refine (RefDrop_any c.l i F _ w4 (HLL.out.below HFF.out HB4.out) (fun k hk => Nat.lt_of_lt_of_le (HFF.out k hk) HB4.out.size) (by have := HC.out.2.1; omega)).mono ?_
      rintro e w5 ⟨u5, rfl, ho5⟩
      obtain ⟨a5, k5, hv5⟩ := ho5.2.slice
      subst hv5
      have hS5 : Only (fun q => q = r) W w5 := Only.thn hS4 (fun _ h => .inl h) (Only.of_below (X := fun q => q = r) ho5.1)
      have HB5W : Hid (Below W.heap.size W w5) := Lib.hid (HB4.out.trans (ho5.1.mono HB4.out.size))
      have HB5 : Hid (Below w.heap.size w w5) := Lib.hid (HB.out.trans (HB5W.out.mono HB.out.size))
      have HRX5 : Hid (w5.heap[r]? = some (.cells #[.slice none 0 0, .slice none 0 0] 24)) := Lib.hid (old_below HRX.out HB5W.out)
      have HI4 := Lib.hid ((HO4.out.2.next ho5.1).lower (base' := r + 1) (by have := HRZ.out; show r + 1 ≤ W.heap.size; omega))
      have HI5 := Lib.hid (ho5.2.lower (base' := r + 1) (by have := HRZ.out; have := HB4.out.size; omega))
      obtain ⟨x0, x1, x2, x3, x4⟩ := block2' HRX5.out
      obtain ⟨n4, hn4⟩ : ∃ n4, n4 = (dropN c.v i).length := ⟨_, rfl⟩
      obtain ⟨n5, hn5⟩ : ∃ n5, n5 = (dropN c.l i).length := ⟨_, rfl⟩
      rw [← hn4] at HI4 ⊢
      rw [← hn5] at HI5 ho5 ⊢
      clear ho5 hn4 hn5
      refine ⟨hS5, ?_⟩
      go_simp
      refine H_take (i := 10) (v := ?_) rfl (by as_aux_lemma => kernel_rfl) (by as_aux_lemma => kernel_rfl) (by as_aux_lemma => kernel_rfl) (fun _ _ _ h => h) (by rfl) hS5 ?_ ?_
      rotate_left
      · intro w' hw'; go_simp; with_reducible rfl
      go_simp
      refine H_one (i := 11) (by as_aux_lemma => kernel_rfl) rfl (by rfl) ?_
      go_simp
      have hS6 : Only (fun q => q = r) W ((w5.setCell ⟨r, 0, none⟩ (.slice a4 n4 k4)).setCell ⟨r, 1, none⟩ (.slice a5 n5 k5)) := (hS5.set (.inl rfl) _).set (.inl rfl) _
      refine ⟨hS6, ?_⟩
      refine H_take (i := 12) (v := ?_) rfl (by as_aux_lemma => kernel_rfl) (by as_aux_lemma => kernel_rfl) (by as_aux_lemma => kernel_rfl) (fun _ _ _ h => h) (by rfl) hS6 ?_ ?_
      rotate_left
      · intro w' hw'; go_simp; with_reducible rfl
      go_simp
      refine wpAnyH_done (by as_aux_lemma => kernel_rfl) ?_ _
      clear hS hS4 hS5 hS6 r0 r1 r2
      go_wp2_with fail
      have hr1 : ∀ {u : Value} {z : List Int}, IR (r + 1) z u w5 → RepI ((w5.setCell ⟨r, 0, none⟩ (.slice a4 n4 k4)).setCell ⟨r, 1, none⟩ (.slice a5 n5 k5)) (fun b => w.heap.size ≤ b ∧ b < ((w5.setCell ⟨r, 0, none⟩ (.slice a4 n4 k4)).setCell ⟨r, 1, none⟩ (.slice a5 n5 k5)).heap.size) z u := fun {u z} h => by
        have hx : u.ownBlock ≠ some r := fun e => by have := (h.block_lt e).1; omega
        exact ((h.set hx).set hx).rep.same (fun k hk => ⟨by have := hk.1; have := HRL.out; omega, hk.2⟩) fun _ _ => rfl
      refine bodyPost_ret (v := .tuple #[.agg #[.slice a4 n4 k4, .slice a5 n5 k5], .int .i64 0]) (results_row_tmp (P := Try.prog) Try.results25 _ _ r 24 _ (0, 0) _ rfl (heap_set22 HRX5.out) Try.underlying24 rfl (by kernel_rfl) _ rfl) rfl ?_
      rw [HE.out]
      exact ⟨(HB5.out.setCell (show w.heap.size ≤ r from HRL.out) _).setCell (show w.heap.size ≤ r from HRL.out) _, _, _, rfl, hr1 HI4.out, hr1 HI5.out⟩
    by_cases hy : i ∈ c.l
    · have HE : Hid (R = (⟨dropN c.v i, dropN c.l i⟩, 0)) := Lib.hid (by rw [HR.out]; exact next1_rem rfl HI.out (.inr hy) (fun h => hx h.1))
      rw [yes_f hx, yes_t hy]
      go_wp2_with fail
      refine wp_region_held (S := fun w' => Only (fun q => q = r) W w') (by kernel_rfl) ?_
      have hS : Only (fun q => q = r) W W.drew := only_drew _ W
      have r0 : ∀ w', Only (fun q => q = r) W w' → w'.cell? ⟨g, 0, none⟩ = some (.slice a n k) := fun w' hw' => (cell_only hw' HGZ.out (fun h => absurd h HGR.out) 0).trans (block2' HBX.out).1
      have r1 : ∀ w', Only (fun q => q = r) W w' → w'.cell? ⟨g, 1, none⟩ = some (.slice a' m k') := fun w' hw' => (cell_only hw' HGZ.out (fun h => absurd h HGR.out) 1).trans (block2' HBX.out).2.1
      have r2 : ∀ w', Only (fun q => q = r) W w' → w'.cell? ⟨h, 1, none⟩ = some (.int .i64 i) := fun w' hw' => (cell_only hw' HHZ.out (fun hh => absurd hh HHR.out) 1).trans (block2' HCH.out).2.1
      clear c0 c1 d0 d1
      refine H_take (i := 0) (v := ?_) rfl (by as_aux_lemma => kernel_rfl) (by as_aux_lemma => kernel_rfl) (by as_aux_lemma => kernel_rfl) (fun _ _ _ h => h) (by rfl) hS ?_ ?_
      rotate_left
      · intro w' hw'; go_simp; with_reducible rfl
      go_simp
      refine H_take (i := 1) (v := ?_) rfl (by as_aux_lemma => kernel_rfl) (by as_aux_lemma => kernel_rfl) (by as_aux_lemma => kernel_rfl) (fun _ _ _ h => h) (by rfl) hS ?_ ?_
      rotate_left
      · intro w' hw'; go_simp; with_reducible rfl
      go_simp
      refine H_take (i := 2) (v := ?_) rfl (by as_aux_lemma => kernel_rfl) (by as_aux_lemma => kernel_rfl) (by as_aux_lemma => kernel_rfl) (fun _ _ _ h => h) (by rfl) hS ?_ ?_
      rotate_left
      · intro w' hw'; go_simp; with_reducible rfl
      go_simp
      refine H_take (i := 3) (v := ?_) rfl (by as_aux_lemma => kernel_rfl) (by as_aux_lemma => kernel_rfl) (by as_aux_lemma => kernel_rfl) (fun _ _ _ h => h) (by rfl) hS ?_ ?_
      rotate_left
      · intro w' hw'; go_simp; with_reducible rfl
      go_simp
      refine H_take (i := 5) (v := ?_) rfl (by as_aux_lemma => kernel_rfl) (by as_aux_lemma => kernel_rfl) (by as_aux_lemma => kernel_rfl) (fun _ _ _ h => h) (by rfl) hS ?_ ?_
      rotate_left
      · intro w' hw'; go_simp; with_reducible rfl
      go_simp
      refine H_take (i := 6) (v := ?_) rfl (by as_aux_lemma => kernel_rfl) (by as_aux_lemma => kernel_rfl) (by as_aux_lemma => kernel_rfl) (fun _ _ _ h => h) (by rfl) hS ?_ ?_
      rotate_left
      · intro w' hw'; go_simp; with_reducible rfl
      go_simp
      refine H_take (i := 7) (v := ?_) rfl (by as_aux_lemma => kernel_rfl) (by as_aux_lemma => kernel_rfl) (by as_aux_lemma => kernel_rfl) (fun _ _ _ h => h) (by rfl) hS ?_ ?_
      rotate_left
      · intro w' hw'; go_simp; with_reducible rfl
      go_simp
      refine H_take (i := 8) (v := ?_) rfl (by as_aux_lemma => kernel_rfl) (by as_aux_lemma => kernel_rfl) (by as_aux_lemma => kernel_rfl) (fun _ _ _ h => h) (by rfl) hS ?_ ?_
      rotate_left
      · intro w' hw'; go_simp; with_reducible rfl
      go_simp
      refine H_one (i := 4) (by as_aux_lemma => kernel_rfl) rfl (by rfl) ?_
      go_simp
      refine (RefDrop_any c.v i F _ W.drew (HVV.out.below HFF.out (below_drew1 W)) HFF.out (by have := HC.out.2.1; omega)).mono ?_
      rintro e w4 ⟨u4, rfl, ho4⟩
      obtain ⟨a4, k4, hv4⟩ := ho4.2.slice
      subst hv4
      have hS4 : Only (fun q => q = r) W w4 := Only.thn hS (fun _ h => .inl h) (Only.of_below (X := fun q => q = r) ho4.1)
      have HB4 : Hid (Below W.heap.size W w4) := Lib.hid ((below_drew1 W).trans (ho4.1.mono (Nat.le_refl _)))
      have HO4 := Lib.hid ho4
      clear ho4
      refine ⟨hS4, ?_⟩
      go_simp
      refine H_one (i := 9) (by as_aux_lemma => kernel_rfl) rfl (by rfl) ?_
      go_simp
      refine (RefDrop_any c.l i F _ w4 (HLL.out.below HFF.out HB4.out) (fun k hk => Nat.lt_of_lt_of_le (HFF.out k hk) HB4.out.size) (by have := HC.out.2.1; omega)).mono ?_
      rintro e w5 ⟨u5, rfl, ho5⟩
      obtain ⟨a5, k5, hv5⟩ := ho5.2.slice
      subst hv5
      have hS5 : Only (fun q => q = r) W w5 := Only.thn hS4 (fun _ h => .inl h) (Only.of_below (X := fun q => q = r) ho5.1)
      have HB5W : Hid (Below W.heap.size W w5) := Lib.hid (HB4.out.trans (ho5.1.mono HB4.out.size))
      have HB5 : Hid (Below w.heap.size w w5) := Lib.hid (HB.out.trans (HB5W.out.mono HB.out.size))
      have HRX5 : Hid (w5.heap[r]? = some (.cells #[.slice none 0 0, .slice none 0 0] 24)) := Lib.hid (old_below HRX.out HB5W.out)
      have HI4 := Lib.hid ((HO4.out.2.next ho5.1).lower (base' := r + 1) (by have := HRZ.out; show r + 1 ≤ W.heap.size; omega))
      have HI5 := Lib.hid (ho5.2.lower (base' := r + 1) (by have := HRZ.out; have := HB4.out.size; omega))
      obtain ⟨x0, x1, x2, x3, x4⟩ := block2' HRX5.out
      obtain ⟨n4, hn4⟩ : ∃ n4, n4 = (dropN c.v i).length := ⟨_, rfl⟩
      obtain ⟨n5, hn5⟩ : ∃ n5, n5 = (dropN c.l i).length := ⟨_, rfl⟩
      rw [← hn4] at HI4 ⊢
      rw [← hn5] at HI5 ho5 ⊢
      clear ho5 hn4 hn5
      refine ⟨hS5, ?_⟩
      go_simp
      refine H_take (i := 10) (v := ?_) rfl (by as_aux_lemma => kernel_rfl) (by as_aux_lemma => kernel_rfl) (by as_aux_lemma => kernel_rfl) (fun _ _ _ h => h) (by rfl) hS5 ?_ ?_
      rotate_left
      · intro w' hw'; go_simp; with_reducible rfl
      go_simp
      refine H_one (i := 11) (by as_aux_lemma => kernel_rfl) rfl (by rfl) ?_
      go_simp
      have hS6 : Only (fun q => q = r) W ((w5.setCell ⟨r, 0, none⟩ (.slice a4 n4 k4)).setCell ⟨r, 1, none⟩ (.slice a5 n5 k5)) := (hS5.set (.inl rfl) _).set (.inl rfl) _
      refine ⟨hS6, ?_⟩
      refine H_take (i := 12) (v := ?_) rfl (by as_aux_lemma => kernel_rfl) (by as_aux_lemma => kernel_rfl) (by as_aux_lemma => kernel_rfl) (fun _ _ _ h => h) (by rfl) hS6 ?_ ?_
      rotate_left
      · intro w' hw'; go_simp; with_reducible rfl
      go_simp
      refine wpAnyH_done (by as_aux_lemma => kernel_rfl) ?_ _
      clear hS hS4 hS5 hS6 r0 r1 r2
      go_wp2_with fail
      have hr1 : ∀ {u : Value} {z : List Int}, IR (r + 1) z u w5 → RepI ((w5.setCell ⟨r, 0, none⟩ (.slice a4 n4 k4)).setCell ⟨r, 1, none⟩ (.slice a5 n5 k5)) (fun b => w.heap.size ≤ b ∧ b < ((w5.setCell ⟨r, 0, none⟩ (.slice a4 n4 k4)).setCell ⟨r, 1, none⟩ (.slice a5 n5 k5)).heap.size) z u := fun {u z} h => by
        have hx : u.ownBlock ≠ some r := fun e => by have := (h.block_lt e).1; omega
        exact ((h.set hx).set hx).rep.same (fun k hk => ⟨by have := hk.1; have := HRL.out; omega, hk.2⟩) fun _ _ => rfl
      refine bodyPost_ret (v := .tuple #[.agg #[.slice a4 n4 k4, .slice a5 n5 k5], .int .i64 0]) (results_row_tmp (P := Try.prog) Try.results25 _ _ r 24 _ (0, 0) _ rfl (heap_set22 HRX5.out) Try.underlying24 rfl (by kernel_rfl) _ rfl) rfl ?_
      rw [HE.out]
      exact ⟨(HB5.out.setCell (show w.heap.size ≤ r from HRL.out) _).setCell (show w.heap.size ≤ r from HRL.out) _, _, _, rfl, hr1 HI4.out, hr1 HI5.out⟩
    · have HE : Hid (R = (cf0, 80)) := Lib.hid (by rw [HR.out]; exact next1_rem_no rfl HI.out hx hy)
      rw [yes_f hx, yes_f hy]
      obtain ⟨x0, x1, x2, x3, x4⟩ := block2' HRX.out
      go_wp2_with fail
      refine bodyPost_ret (v := .tuple #[.agg #[.slice none 0 0, .slice none 0 0], .int .i64 R.2]) (results_row_tmp (P := Try.prog) Try.results25 _ _ r 24 _ (0, 0) _ rfl (heap_set22 HRX.out) Try.underlying24 rfl (by kernel_rfl) _ (by rw [HE.out]; rfl)) rfl ?_
      rw [HE.out]
      exact ⟨(HB.out.setCell (show w.heap.size ≤ r from HRL.out) _).setCell (show w.heap.size ≤ r from HRL.out) _, _, _, rfl, .inl ⟨rfl, Bare.nil⟩, .inl ⟨rfl, Bare.nil⟩⟩
end Go.Proofs.Ytfdlpmphgojlhaa.M
