/- The statement MembersMeet: whatever the input it answers true. -/
import Derived.Test.YtfdlpmphgojlhaaMM18
import Derived.Test.YtfdlpmphgojlhaaMM19
import Derived.BigQuiet
namespace Go.Proofs.Ytfdlpmphgojlhaa.M
open Go.RowKit

theorem nextAll_one {c : Cf} {d i : Int} (h : (nextAll c [(d, i)]).2 = 0) : c.ok ∧ (next1 c d i).2 = 0 ∧ (nextAll c [(d, i)]).1 = (next1 c d i).1 := by
  unfold nextAll at h ⊢
  split at h
  · rename_i hc
    rw [if_pos hc]
    refine ⟨hc, ?_⟩
    unfold nextN at h ⊢
    by_cases h0 : (next1 c d i).2 = 0
    · rw [if_pos h0]
      exact ⟨h0, rfl⟩
    · rw [if_neg h0] at h
      exact absurd h h0
  · cases h

set_option maxRecDepth 20000 in
set_option maxHeartbeats 12800000 in
theorem MembersMeet_any (c : Cf) (d i : Int) (a b : List Int) (vv lv av bv : Value) (w : World) (hv : RepI w (fun k => k < w.heap.size) c.v vv) (hl : RepI w (fun k => k < w.heap.size) c.l lv) (ha : RepI w (fun k => k < w.heap.size) a av) (hb : RepI w (fun k => k < w.heap.size) b bv) :
    Calls Try.prog 6 #[.agg #[vv, lv], .agg #[.int .i64 d, .int .i64 i], .agg #[av, bv]] w fun e w' => e = .returned (.bool true) ∧ Below w.heap.size w w' := by
  obtain ⟨va, vk, hvv, hx1⟩ := hv.slice
  obtain ⟨la, lk, hlv, hx2⟩ := hl.slice
  obtain ⟨aa, ak, hav, hx3⟩ := ha.slice
  obtain ⟨ba, bk, hbv, hx4⟩ := hb.slice
  obtain ⟨n, hn⟩ : ∃ n, n = c.v.length := ⟨_, rfl⟩
  obtain ⟨m, hm⟩ : ∃ m, m = c.l.length := ⟨_, rfl⟩
  obtain ⟨p, hp⟩ : ∃ p, p = a.length := ⟨_, rfl⟩
  obtain ⟨q, hq⟩ : ∃ q, q = b.length := ⟨_, rfl⟩
  rw [← hn] at hvv hx1
  rw [← hm] at hlv hx2
  rw [← hp] at hav hx3
  rw [← hq] at hbv hx4
  subst hvv hlv hav hbv
  obtain ⟨W, hW⟩ : ∃ W, W = ((w.alloc (.cells #[.slice va n vk, .slice la m lk] 24)).alloc (.cells #[.int .i64 d, .int .i64 i] 48)).alloc (.cells #[.slice aa p ak, .slice ba q bk] 50) := ⟨_, rfl⟩
  have HB : Hid (Below w.heap.size w W) := Lib.hid (by rw [hW]; exact (((Below.refl _ w).alloc (Nat.le_refl _) _).alloc (by simp) _).alloc (by simp; omega) _)
  obtain ⟨gc, hgc⟩ : ∃ gc, gc = w.heap.size := ⟨_, rfl⟩
  obtain ⟨gh, hgh⟩ : ∃ gh, gh = w.heap.size + 1 := ⟨_, rfl⟩
  obtain ⟨gp, hgp⟩ : ∃ gp, gp = w.heap.size + 1 + 1 := ⟨_, rfl⟩
  have HBXC : Hid (W.heap[gc]? = some (.cells #[.slice va n vk, .slice la m lk] 24)) := Lib.hid (by rw [hW, hgc]; exact old_alloc (old_alloc (heap_alloc_new w _)))
  have HBXH : Hid (W.heap[gh]? = some (.cells #[.int .i64 d, .int .i64 i] 48)) := Lib.hid (by rw [hW, hgh]; exact old_alloc (heap_new _ _ _ (by simp)))
  have HBXP : Hid (W.heap[gp]? = some (.cells #[.slice aa p ak, .slice ba q bk] 50)) := Lib.hid (by rw [hW, hgp]; exact heap_new _ _ _ (by simp))
  have HV := Lib.hid hv
  have HL := Lib.hid hl
  have HA := Lib.hid ha
  have HBB := Lib.hid hb
  have HN := Lib.hid hn
  have HM := Lib.hid hm
  have HP := Lib.hid hp
  have HQ := Lib.hid hq
  have HGc := Lib.hid hgc
  have HGh := Lib.hid hgh
  have HGp := Lib.hid hgp
  have HW := Lib.hid hW
  clear hv hl ha hb hn hm hp hq hgc hgh hgp hW
  go_enter Try.func6, Try.ntmps6
  go_wp2_with fail
  rw [← HGp.out, ← HGh.out, ← HGc.out, ← HW.out]
  obtain ⟨p0, p1, -, -, pz⟩ := block2' HBXP.out
  go_quiet (fail)
  obtain ⟨W1, hW1⟩ : ∃ W1, W1 = W.drewN nq := ⟨_, rfl⟩
  have HB1 : Hid (Below w.heap.size w W1) := Lib.hid (by rw [hW1]; exact HB.out.trans (below_dr _ _ _))
  have HC1 : Hid (W1.heap[gc]? = some (.cells #[.slice va n vk, .slice la m lk] 24)) := Lib.hid (by rw [hW1]; exact HBXC.out)
  have HH1 : Hid (W1.heap[gh]? = some (.cells #[.int .i64 d, .int .i64 i] 48)) := Lib.hid (by rw [hW1]; exact HBXH.out)
  rw [← hW1]
  clear hW1 p0 p1 pz HW HGc HGh HGp HBXC HBXH HBXP HB
  go_wp2_with fail
  refine (awake8_any W1).mono ?_
  rintro e w2 ⟨rfl, hb2⟩
  have HB2 : Hid (Below w.heap.size w w2) := Lib.hid (HB1.out.trans (hb2.mono HB1.out.size))
  have HC2 := Lib.hid (old_below HC1.out hb2)
  have HH2 := Lib.hid (old_below HH1.out hb2)
  obtain ⟨c0, c1, -, -, cz⟩ := block2' HC2.out
  clear hb2
  go_wp2_with fail
  have HS := Lib.hid (small_any c (fun k => k < w.heap.size) _ _ w2 (HV.out.below (fun k hk => hk) HB2.out) (HL.out.below (fun k hk => hk) HB2.out))
  rw [← HN.out, ← HM.out] at HS
  refine HS.out.mono ?_
  rintro e w3 ⟨rfl, hb3⟩
  have HBC : Hid (Below w.heap.size w w3) := Lib.hid (HB2.out.trans (hb3.mono HB2.out.size))
  have HC3 := Lib.hid (old_below HC2.out hb3)
  have HH3 := Lib.hid (old_below HH2.out hb3)
  clear hb3 c0 c1 cz
  by_cases hs : n ≤ 60 ∧ m ≤ 60
  · rw [decide_eq_true hs]
    by_cases hp : p > 60
    · have q1 : decide ((p : Int) > 60) = true := decide_eq_true (by omega)
      go_wp2_with fail
      refine (awake8_any _).mono ?_
      rintro e w8 ⟨rfl, hb8⟩
      have HB8 : Hid (Below w.heap.size w w8) := Lib.hid (HBC.out.trans (hb8.mono HBC.out.size))
      clear hb8
      go_wp2_with fail
      go_ret
      exact ⟨rfl, HB8.out⟩
    have q1 : decide ((p : Int) > 60) = false := decide_eq_false (by omega)
    by_cases hq : q > 60
    · have q2 : decide ((q : Int) > 60) = true := decide_eq_true (by omega)
      go_wp2_with fail
      refine (awake8_any _).mono ?_
      rintro e w8 ⟨rfl, hb8⟩
      have HB8 : Hid (Below w.heap.size w w8) := Lib.hid (HBC.out.trans (hb8.mono HBC.out.size))
      clear hb8
      go_wp2_with fail
      go_ret
      exact ⟨rfl, HB8.out⟩
    have q2 : decide ((q : Int) > 60) = false := decide_eq_false (by omega)
    obtain ⟨c0, c1, -, -, cz⟩ := block2' HC3.out
    obtain ⟨h0, h1, -, -, hz⟩ := block2' HH3.out
    have HSM : Hid (c.v.length ≤ 60 ∧ c.l.length ≤ 60 ∧ a.length ≤ 60 ∧ b.length ≤ 60) := Lib.hid (by rw [← HN.out, ← HM.out, ← HP.out, ← HQ.out]; omega)
    go_wp2_with fail
    have hb4 := below_alloc w3 (.cells #[.int .i64 d, .int .i64 i] 48)
    have hch : (w3.alloc (.cells #[.int .i64 d, .int .i64 i] 48)).heap[w3.heap.size]? = some (.cells #[.int .i64 d, .int .i64 i] 48) := heap_new _ _ _ rfl
    have HB4 : Hid (Below w.heap.size w (w3.alloc (.cells #[.int .i64 d, .int .i64 i] 48))) := Lib.hid (HBC.out.trans (hb4.mono HBC.out.size))
    have HCN := Next_any c [(d, i)] (fun k => k < w.heap.size) (fun b => b < w3.heap.size + 1) _ _ (.slice (some ⟨w3.heap.size, 0, none⟩) 1 1) (w3.alloc (.cells #[.int .i64 d, .int .i64 i] 48)) (HV.out.below (fun k hk => hk) HB4.out) (HL.out.below (fun k hk => hk) HB4.out) (fun k hk => Nat.lt_of_lt_of_le hk HB4.out.size) (by have := HSM.out; omega)
      (.inr ⟨_, 0, 1, rfl, by omega, by simp, by omega, fun j hj => by
        obtain rfl : j = 0 := by simpa using hj
        exact ⟨cell_of_row _ _ 0 _ _ _ hch, cell_of_row _ _ 1 _ _ _ hch⟩⟩) (fun k hk => by simpa using hk)
    have HNC := Lib.hid (fun h => nextAll_one (c := c) (d := d) (i := i) h)
    obtain ⟨R, hR⟩ : ∃ R, R = nextAll c [(d, i)] := ⟨_, rfl⟩
    rw [← hR] at HCN HNC
    have HCALL := Lib.hid HCN
    clear hb4 hch HCN hR c0 c1 cz h0 h1 hz
    refine HCALL.out.mono ?_
    rintro e w5 ⟨hb5, v5, l5, rfl, hv5, hl5⟩
    obtain ⟨a5, k5, hva⟩ := hv5.slice
    obtain ⟨a6, k6, hla⟩ := hl5.slice
    obtain ⟨n5, hn5⟩ : ∃ n5, n5 = R.1.v.length := ⟨_, rfl⟩
    obtain ⟨m5, hm5⟩ : ∃ m5, m5 = R.1.l.length := ⟨_, rfl⟩
    rw [← hn5] at hva
    rw [← hm5] at hla
    obtain ⟨hva, -⟩ := hva
    obtain ⟨hla, -⟩ := hla
    subst hva hla
    have HB5 : Hid (Below w.heap.size w w5) := Lib.hid (HB4.out.trans (hb5.mono HB4.out.size))
    obtain ⟨er, her⟩ : ∃ er, er = R.2 := ⟨_, rfl⟩
    rw [← her]
    obtain ⟨WD, hWD⟩ : ∃ WD, WD = w5.alloc (.cells #[.slice a5 n5 k5, .slice a6 m5 k6] 24) := ⟨_, rfl⟩
    obtain ⟨gd, hgd⟩ : ∃ gd, gd = w5.heap.size := ⟨_, rfl⟩
    have hbD : Below w5.heap.size w5 WD := by rw [hWD]; exact below_alloc _ _
    have HBD : Hid (Below w.heap.size w WD) := Lib.hid (HB5.out.trans (hbD.mono HB5.out.size))
    have HGD : Hid (WD.heap[gd]? = some (.cells #[.slice a5 n5 k5, .slice a6 m5 k6] 24)) := Lib.hid (by rw [hWD, hgd]; exact heap_alloc_new _ _)
    have HGC : Hid (WD.heap[gc]? = some (.cells #[.slice va n vk, .slice la m lk] 24)) := Lib.hid (old_below (old_below (old_alloc HC3.out) hb5) hbD)
    have HDV := Lib.hid (hv5.below (fun k hk => hk.2) hbD)
    have HDL := Lib.hid (hl5.below (fun k hk => hk.2) hbD)
    have HRD : Hid (∀ w', Below WD.heap.size WD w' → RepI w' (fun k => k < WD.heap.size) R.1.v (.slice a5 n5 k5) ∧ RepI w' (fun k => k < WD.heap.size) R.1.l (.slice a6 m5 k6)) := Lib.hid fun w' hb' =>
      ⟨(HDV.out.below (fun k hk => Nat.lt_of_lt_of_le hk.2 hbD.size) hb').same (fun k hk => Nat.lt_of_lt_of_le hk.2 hbD.size) fun _ _ => rfl, (HDL.out.below (fun k hk => Nat.lt_of_lt_of_le hk.2 hbD.size) hb').same (fun k hk => Nat.lt_of_lt_of_le hk.2 hbD.size) fun _ _ => rfl⟩
    have HLT : Hid (∀ {z : List Int} {u : Value}, RepI w (fun k => k < w.heap.size) z u → ∀ w', Below WD.heap.size WD w' → RepI w' (fun k => k < WD.heap.size) z u) := Lib.hid fun h w' hb' =>
      ((h.below (fun k hk => hk) HBD.out).below (fun k hk => Nat.lt_of_lt_of_le hk HBD.out.size) hb').same (fun k hk => Nat.lt_of_lt_of_le hk HBD.out.size) fun _ _ => rfl
    have HER := Lib.hid her
    have HWD := Lib.hid hWD
    have HGDE := Lib.hid hgd
    clear hb5 hv5 hl5 hn5 hm5 hbD hWD hgd her
    go_wp2_with fail
    rw [← HGDE.out, ← HWD.out]
    go_loopg [11, 12] p (fun gk cm j wr => ∃ (z : Nat) (y : Bool), z + gk = p ∧ j = .int .i64 (z : Int) ∧ cm = .bool y ∧ Hid (Below WD.heap.size WD wr) ∧ Hid (y = true ↔ ∃ x ∈ a.take z, x ∈ b ∧ x ∈ c.v))
    case atStart => exact ⟨0, false, by omega, rfl, rfl, Lib.hid (Below.refl _ _), Lib.hid (by simp)⟩
    case round =>
      obtain ⟨z, y, hz, rfl, rfl, HBL, HY⟩ := hrel
      by_cases hlt : z < p
      · have hkk : (z : Int) < (p : Int) := by omega
        have hl1 : z < a.length := by rw [← HP.out]; exact hlt
        obtain ⟨ab, ao, hab, -, e0, -, -⟩ := (HLT.out HA.out wr HBL.out).elem z hl1
        subst hab
        have htk : a.take (z + 1) = a.take z ++ [a[z]] := take_snoc hl1
        obtain ⟨x, hx⟩ : ∃ x, x = a[z] := ⟨_, rfl⟩
        rw [← hx] at e0 htk
        have HTK := Lib.hid htk
        have HINB : Hid (∀ s, Calls Try.prog 15 #[.slice ba q bk, .int .i64 x] (wr.drewN s) fun e w' => e = .returned (.bool (yes (x ∈ b))) ∧ w' = wr.drewN s) := Lib.hid fun s => RefIn_any b x (fun k => k < WD.heap.size) _ _ ((HLT.out HBB.out wr HBL.out).same (fun _ h => h) fun _ _ => rfl)
        have HINC : Hid (∀ s, Calls Try.prog 15 #[.slice va n vk, .int .i64 x] (wr.drewN s) fun e w' => e = .returned (.bool (yes (x ∈ c.v))) ∧ w' = wr.drewN s) := Lib.hid fun s => RefIn_any c.v x (fun k => k < WD.heap.size) _ _ ((HLT.out HV.out wr HBL.out).same (fun _ h => h) fun _ _ => rfl)
        have HSPL : Hid ((∃ u ∈ a.take (z + 1), u ∈ b ∧ u ∈ c.v) ↔ (y = true ∨ (x ∈ b ∧ x ∈ c.v))) := Lib.hid (by
          rw [htk, HY.out]
          constructor
          · rintro ⟨u, hu, h2⟩
            rcases List.mem_append.1 hu with hu | hu
            · exact .inl ⟨u, hu, h2⟩
            · simp at hu; subst hu; exact .inr h2
          · rintro (⟨u, hu, h2⟩ | h2)
            · exact ⟨u, List.mem_append_left _ hu, h2⟩
            · exact ⟨x, by simp, h2⟩)
        obtain ⟨c0, c1, -, -, cz⟩ := block2' (old_below HGC.out HBL.out)
        clear hx htk hl1
        cases y with
        | true =>
          have HY2 : Hid (∀ yy : Bool, yy = true → (yy = true ↔ ∃ u ∈ a.take (z + 1), u ∈ b ∧ u ∈ c.v)) := Lib.hid (by rintro yy rfl; rw [HSPL.out]; simp)
          go_wp2_with fail
          go_quiet (fail)
          go_wp2_with fail
          go_roundg (gk - 1)
          case measure => omega
          case rel => exact ⟨z + 1, true, by omega, by go_num, rfl, Lib.hid (HBL.out.trans (below_dr _ _ _)), Lib.hid (HY2.out _ rfl)⟩
        | false =>
          by_cases hxb : x ∈ b
          · rw [yes_t hxb] at HINB
            by_cases hxc : x ∈ c.v
            · rw [yes_t hxc] at HINC
              have HY2 : Hid (∀ yy : Bool, yy = true → (yy = true ↔ ∃ u ∈ a.take (z + 1), u ∈ b ∧ u ∈ c.v)) := Lib.hid (by rintro yy rfl; rw [HSPL.out]; simp [hxb, hxc])
              clear hxb hxc
              go_wp2_with fail
              go_quiet ((go_at_call 15; first | with_reducible exact Calls.quiet_of_same (HINB.out _) | with_reducible exact Calls.quiet_of_same (HINC.out _)))
              go_wp2_with fail
              go_roundg (gk - 1)
              case measure => omega
              case rel => exact ⟨z + 1, true, by omega, by go_num, rfl, Lib.hid (HBL.out.trans (below_dr _ _ _)), Lib.hid (HY2.out _ rfl)⟩
            · rw [yes_f hxc] at HINC
              have HY2 : Hid (∀ yy : Bool, yy = false → (yy = true ↔ ∃ u ∈ a.take (z + 1), u ∈ b ∧ u ∈ c.v)) := Lib.hid (by rintro yy rfl; rw [HSPL.out]; simp [hxb, hxc])
              clear hxb hxc
              go_wp2_with fail
              go_quiet ((go_at_call 15; first | with_reducible exact Calls.quiet_of_same (HINB.out _) | with_reducible exact Calls.quiet_of_same (HINC.out _)))
              go_wp2_with fail
              go_roundg (gk - 1)
              case measure => omega
              case rel => exact ⟨z + 1, false, by omega, by go_num, rfl, Lib.hid (HBL.out.trans (below_dr _ _ _)), Lib.hid (HY2.out _ rfl)⟩
          · rw [yes_f hxb] at HINB
            have HY2 : Hid (∀ yy : Bool, yy = false → (yy = true ↔ ∃ u ∈ a.take (z + 1), u ∈ b ∧ u ∈ c.v)) := Lib.hid (by rintro yy rfl; rw [HSPL.out]; simp [hxb])
            clear hxb
            go_wp2_with fail
            go_quiet ((go_at_call 15; first | with_reducible exact Calls.quiet_of_same (HINB.out _) | with_reducible exact Calls.quiet_of_same (HINC.out _)))
            go_wp2_with fail
            go_roundg (gk - 1)
            case measure => omega
            case rel => exact ⟨z + 1, false, by omega, by go_num, rfl, Lib.hid (HBL.out.trans (below_dr _ _ _)), Lib.hid (HY2.out _ rfl)⟩
      · obtain rfl : z = p := by omega
        have hkk : ¬ ((z : Nat) : Int) < (z : Int) := by omega
        have HCM : Hid (y = true ↔ ∃ x ∈ a, x ∈ b ∧ x ∈ c.v) := Lib.hid (by have := HY.out; rw [HP.out, List.take_length] at this; exact this)
        clear HY hz hlt
        have HMAJ : Hid (∀ w', Below WD.heap.size WD w' → Calls Try.prog 12 #[.agg #[.slice va n vk, .slice la m lk], .slice aa z ak] w' fun e w'' => e = .returned (.bool (yes (maj c a))) ∧ Below w'.heap.size w' w'') := Lib.hid fun w' hb' =>
          Majority_any c a (fun k => k < WD.heap.size) (fun k => k < WD.heap.size) _ _ _ w' (HLT.out HV.out w' hb') (HLT.out HL.out w' hb') (fun k hk => Nat.lt_of_lt_of_le hk hb'.size) (by have := HSM.out; omega) (HLT.out HA.out w' hb') (fun k hk => Nat.lt_of_lt_of_le hk hb'.size) (by have := HSM.out; omega)
        have HMBJ : Hid (∀ w', Below WD.heap.size WD w' → Calls Try.prog 12 #[.agg #[.slice va n vk, .slice la m lk], .slice ba q bk] w' fun e w'' => e = .returned (.bool (yes (maj c b))) ∧ Below w'.heap.size w' w'') := Lib.hid fun w' hb' =>
          Majority_any c b (fun k => k < WD.heap.size) (fun k => k < WD.heap.size) _ _ _ w' (HLT.out HV.out w' hb') (HLT.out HL.out w' hb') (fun k hk => Nat.lt_of_lt_of_le hk hb'.size) (by have := HSM.out; omega) (HLT.out HBB.out w' hb') (fun k hk => Nat.lt_of_lt_of_le hk hb'.size) (by have := HSM.out; omega)
        have HMDJ : Hid (∀ w', R.1.v.length ≤ 1000000 → Below WD.heap.size WD w' → Calls Try.prog 12 #[.agg #[.slice a5 n5 k5, .slice a6 m5 k6], .slice ba q bk] w' fun e w'' => e = .returned (.bool (yes (maj R.1 b))) ∧ Below w'.heap.size w' w'') := Lib.hid fun w' hl' hb' =>
          Majority_any R.1 b (fun k => k < WD.heap.size) (fun k => k < WD.heap.size) _ _ _ w' (HRD.out w' hb').1 (HRD.out w' hb').2 (fun k hk => Nat.lt_of_lt_of_le hk hb'.size) hl' (HLT.out HBB.out w' hb') (fun k hk => Nat.lt_of_lt_of_le hk hb'.size) (by have := HSM.out; omega)
        have HRGT : Hid (∀ w', Below WD.heap.size WD w' → Calls Try.prog 10 #[.agg #[.slice va n vk, .slice la m lk]] w' fun e w'' => e = .returned (.bool (yes c.ok)) ∧ Below w'.heap.size w' w'') := Lib.hid fun w' hb' =>
          RefRight_any c (fun k => k < WD.heap.size) _ _ w' (HLT.out HV.out w' hb') (HLT.out HL.out w' hb') (fun k hk => Nat.lt_of_lt_of_le hk hb'.size) (by have := HSM.out; omega)
        cases y with
        | true =>
          by_cases he : er = 0
          · have q9 : (er != 0) = false := by simpa using he
            have HRL : Hid (R.1.v.length ≤ 1000000) := Lib.hid (by
              obtain ⟨h1, h2, h3⟩ := HNC.out (by rw [← HER.out]; exact he)
              have := (next1_ok h1 h2).2.1
              rw [← h3] at this
              omega)
            clear he
            obtain ⟨c0, c1, -, -, cz⟩ := block2' (old_below HGC.out HBL.out)
            obtain ⟨d0, d1, -, -, dz⟩ := block2' (old_below HGD.out HBL.out)
            go_wp2_with fail
            refine (HMAJ.out _ HBL.out).mono ?_
            rintro e we ⟨rfl, hbe⟩
            have HBL2 : Hid (Below WD.heap.size WD we) := Lib.hid (HBL.out.trans (hbe.mono HBL.out.size))
            clear HBL hbe
            have HBL := HBL2
            clear HBL2
            by_cases hA : maj c a
            · rw [yes_t hA]
              clear c0 c1 cz d0 d1 dz
              obtain ⟨c0, c1, -, -, cz⟩ := block2' (old_below HGC.out HBL.out)
              obtain ⟨d0, d1, -, -, dz⟩ := block2' (old_below HGD.out HBL.out)
              go_wp2_with fail
              refine (HMBJ.out _ HBL.out).mono ?_
              rintro e we ⟨rfl, hbe⟩
              have HBL2 : Hid (Below WD.heap.size WD we) := Lib.hid (HBL.out.trans (hbe.mono HBL.out.size))
              clear HBL hbe
              have HBL := HBL2
              clear HBL2
              by_cases hB : maj c b
              · rw [yes_t hB]
                clear c0 c1 cz d0 d1 dz
                obtain ⟨c0, c1, -, -, cz⟩ := block2' (old_below HGC.out HBL.out)
                obtain ⟨d0, d1, -, -, dz⟩ := block2' (old_below HGD.out HBL.out)
                go_wp2_with fail
                refine (HRGT.out _ HBL.out).mono ?_
                rintro e we ⟨rfl, hbe⟩
                have HBL2 : Hid (Below WD.heap.size WD we) := Lib.hid (HBL.out.trans (hbe.mono HBL.out.size))
                clear HBL hbe
                have HBL := HBL2
                clear HBL2
                clear c0 c1 cz d0 d1 dz
                by_cases hO : c.ok
                · rw [yes_t hO]
                  obtain ⟨c0, c1, -, -, cz⟩ := block2' (old_below HGC.out HBL.out)
                  obtain ⟨d0, d1, -, -, dz⟩ := block2' (old_below HGD.out HBL.out)
                  go_wp2_with fail
                  refine (HMAJ.out _ HBL.out).mono ?_
                  rintro e we ⟨rfl, hbe⟩
                  have HBL2 : Hid (Below WD.heap.size WD we) := Lib.hid (HBL.out.trans (hbe.mono HBL.out.size))
                  clear HBL hbe
                  have HBL := HBL2
                  clear HBL2
                  clear c0 c1 cz d0 d1 dz
                  rw [yes_t hA]
                  obtain ⟨c0, c1, -, -, cz⟩ := block2' (old_below HGC.out HBL.out)
                  obtain ⟨d0, d1, -, -, dz⟩ := block2' (old_below HGD.out HBL.out)
                  go_wp2_with fail
                  refine (HMDJ.out _ HRL.out HBL.out).mono ?_
                  rintro e we ⟨rfl, hbe⟩
                  have HBL2 : Hid (Below WD.heap.size WD we) := Lib.hid (HBL.out.trans (hbe.mono HBL.out.size))
                  clear HBL hbe
                  have HBL := HBL2
                  clear HBL2
                  clear c0 c1 cz d0 d1 dz
                  by_cases hD : maj R.1 b
                  · rw [yes_t hD]
                    obtain ⟨c0, c1, -, -, cz⟩ := block2' (old_below HGC.out HBL.out)
                    obtain ⟨d0, d1, -, -, dz⟩ := block2' (old_below HGD.out HBL.out)
                    go_wp2_with fail
                    go_ret
                    exact ⟨rfl, HBD.out.trans (HBL.out.mono HBD.out.size)⟩
                  · rw [yes_f hD]
                    obtain ⟨c0, c1, -, -, cz⟩ := block2' (old_below HGC.out HBL.out)
                    obtain ⟨d0, d1, -, -, dz⟩ := block2' (old_below HGD.out HBL.out)
                    go_wp2_with fail
                    go_ret
                    exact ⟨rfl, HBD.out.trans (HBL.out.mono HBD.out.size)⟩
                · rw [yes_f hO]
                  obtain ⟨c0, c1, -, -, cz⟩ := block2' (old_below HGC.out HBL.out)
                  obtain ⟨d0, d1, -, -, dz⟩ := block2' (old_below HGD.out HBL.out)
                  go_wp2_with fail
                  refine (HMAJ.out _ HBL.out).mono ?_
                  rintro e we ⟨rfl, hbe⟩
                  have HBL2 : Hid (Below WD.heap.size WD we) := Lib.hid (HBL.out.trans (hbe.mono HBL.out.size))
                  clear HBL hbe
                  have HBL := HBL2
                  clear HBL2
                  clear c0 c1 cz d0 d1 dz
                  rw [yes_t hA]
                  obtain ⟨c0, c1, -, -, cz⟩ := block2' (old_below HGC.out HBL.out)
                  obtain ⟨d0, d1, -, -, dz⟩ := block2' (old_below HGD.out HBL.out)
                  go_wp2_with fail
                  refine (HMDJ.out _ HRL.out HBL.out).mono ?_
                  rintro e we ⟨rfl, hbe⟩
                  have HBL2 : Hid (Below WD.heap.size WD we) := Lib.hid (HBL.out.trans (hbe.mono HBL.out.size))
                  clear HBL hbe
                  have HBL := HBL2
                  clear HBL2
                  clear c0 c1 cz d0 d1 dz
                  by_cases hD : maj R.1 b
                  · rw [yes_t hD]
                    obtain ⟨c0, c1, -, -, cz⟩ := block2' (old_below HGC.out HBL.out)
                    obtain ⟨d0, d1, -, -, dz⟩ := block2' (old_below HGD.out HBL.out)
                    go_wp2_with fail
                    go_ret
                    exact ⟨rfl, HBD.out.trans (HBL.out.mono HBD.out.size)⟩
                  · rw [yes_f hD]
                    obtain ⟨c0, c1, -, -, cz⟩ := block2' (old_below HGC.out HBL.out)
                    obtain ⟨d0, d1, -, -, dz⟩ := block2' (old_below HGD.out HBL.out)
                    go_wp2_with fail
                    go_ret
                    exact ⟨rfl, HBD.out.trans (HBL.out.mono HBD.out.size)⟩
              · rw [yes_f hB]
                clear c0 c1 cz d0 d1 dz
                obtain ⟨c0, c1, -, -, cz⟩ := block2' (old_below HGC.out HBL.out)
                obtain ⟨d0, d1, -, -, dz⟩ := block2' (old_below HGD.out HBL.out)
                go_wp2_with fail
                refine (HMAJ.out _ HBL.out).mono ?_
                rintro e we ⟨rfl, hbe⟩
                have HBL2 : Hid (Below WD.heap.size WD we) := Lib.hid (HBL.out.trans (hbe.mono HBL.out.size))
                clear HBL hbe
                have HBL := HBL2
                clear HBL2
                clear c0 c1 cz d0 d1 dz
                rw [yes_t hA]
                obtain ⟨c0, c1, -, -, cz⟩ := block2' (old_below HGC.out HBL.out)
                obtain ⟨d0, d1, -, -, dz⟩ := block2' (old_below HGD.out HBL.out)
                go_wp2_with fail
                refine (HMDJ.out _ HRL.out HBL.out).mono ?_
                rintro e we ⟨rfl, hbe⟩
                have HBL2 : Hid (Below WD.heap.size WD we) := Lib.hid (HBL.out.trans (hbe.mono HBL.out.size))
                clear HBL hbe
                have HBL := HBL2
                clear HBL2
                clear c0 c1 cz d0 d1 dz
                by_cases hD : maj R.1 b
                · rw [yes_t hD]
                  obtain ⟨c0, c1, -, -, cz⟩ := block2' (old_below HGC.out HBL.out)
                  obtain ⟨d0, d1, -, -, dz⟩ := block2' (old_below HGD.out HBL.out)
                  go_wp2_with fail
                  go_ret
                  exact ⟨rfl, HBD.out.trans (HBL.out.mono HBD.out.size)⟩
                · rw [yes_f hD]
                  obtain ⟨c0, c1, -, -, cz⟩ := block2' (old_below HGC.out HBL.out)
                  obtain ⟨d0, d1, -, -, dz⟩ := block2' (old_below HGD.out HBL.out)
                  go_wp2_with fail
                  go_ret
                  exact ⟨rfl, HBD.out.trans (HBL.out.mono HBD.out.size)⟩
            · rw [yes_f hA]
              clear c0 c1 cz d0 d1 dz
              obtain ⟨c0, c1, -, -, cz⟩ := block2' (old_below HGC.out HBL.out)
              obtain ⟨d0, d1, -, -, dz⟩ := block2' (old_below HGD.out HBL.out)
              go_wp2_with fail
              refine (HMAJ.out _ HBL.out).mono ?_
              rintro e we ⟨rfl, hbe⟩
              have HBL2 : Hid (Below WD.heap.size WD we) := Lib.hid (HBL.out.trans (hbe.mono HBL.out.size))
              clear HBL hbe
              have HBL := HBL2
              clear HBL2
              clear c0 c1 cz d0 d1 dz
              rw [yes_f hA]
              obtain ⟨c0, c1, -, -, cz⟩ := block2' (old_below HGC.out HBL.out)
              obtain ⟨d0, d1, -, -, dz⟩ := block2' (old_below HGD.out HBL.out)
              go_wp2_with fail
              go_ret
              exact ⟨rfl, HBD.out.trans (HBL.out.mono HBD.out.size)⟩
          · have q9 : (er != 0) = true := by simpa using he
            obtain ⟨c0, c1, -, -, cz⟩ := block2' (old_below HGC.out HBL.out)
            obtain ⟨d0, d1, -, -, dz⟩ := block2' (old_below HGD.out HBL.out)
            go_wp2_with fail
            refine (HMAJ.out _ HBL.out).mono ?_
            rintro e we ⟨rfl, hbe⟩
            have HBL2 : Hid (Below WD.heap.size WD we) := Lib.hid (HBL.out.trans (hbe.mono HBL.out.size))
            clear HBL hbe
            have HBL := HBL2
            clear HBL2
            by_cases hA : maj c a
            · rw [yes_t hA]
              clear c0 c1 cz d0 d1 dz
              obtain ⟨c0, c1, -, -, cz⟩ := block2' (old_below HGC.out HBL.out)
              obtain ⟨d0, d1, -, -, dz⟩ := block2' (old_below HGD.out HBL.out)
              go_wp2_with fail
              refine (HMBJ.out _ HBL.out).mono ?_
              rintro e we ⟨rfl, hbe⟩
              have HBL2 : Hid (Below WD.heap.size WD we) := Lib.hid (HBL.out.trans (hbe.mono HBL.out.size))
              clear HBL hbe
              have HBL := HBL2
              clear HBL2
              by_cases hB : maj c b
              · rw [yes_t hB]
                clear c0 c1 cz d0 d1 dz
                obtain ⟨c0, c1, -, -, cz⟩ := block2' (old_below HGC.out HBL.out)
                obtain ⟨d0, d1, -, -, dz⟩ := block2' (old_below HGD.out HBL.out)
                go_wp2_with fail
                refine (HRGT.out _ HBL.out).mono ?_
                rintro e we ⟨rfl, hbe⟩
                have HBL2 : Hid (Below WD.heap.size WD we) := Lib.hid (HBL.out.trans (hbe.mono HBL.out.size))
                clear HBL hbe
                have HBL := HBL2
                clear HBL2
                clear c0 c1 cz d0 d1 dz
                by_cases hO : c.ok
                · rw [yes_t hO]
                  obtain ⟨c0, c1, -, -, cz⟩ := block2' (old_below HGC.out HBL.out)
                  obtain ⟨d0, d1, -, -, dz⟩ := block2' (old_below HGD.out HBL.out)
                  go_wp2_with fail
                  go_ret
                  exact ⟨rfl, HBD.out.trans (HBL.out.mono HBD.out.size)⟩
                · rw [yes_f hO]
                  obtain ⟨c0, c1, -, -, cz⟩ := block2' (old_below HGC.out HBL.out)
                  obtain ⟨d0, d1, -, -, dz⟩ := block2' (old_below HGD.out HBL.out)
                  go_wp2_with fail
                  go_ret
                  exact ⟨rfl, HBD.out.trans (HBL.out.mono HBD.out.size)⟩
              · rw [yes_f hB]
                clear c0 c1 cz d0 d1 dz
                obtain ⟨c0, c1, -, -, cz⟩ := block2' (old_below HGC.out HBL.out)
                obtain ⟨d0, d1, -, -, dz⟩ := block2' (old_below HGD.out HBL.out)
                go_wp2_with fail
                go_ret
                exact ⟨rfl, HBD.out.trans (HBL.out.mono HBD.out.size)⟩
            · rw [yes_f hA]
              clear c0 c1 cz d0 d1 dz
              obtain ⟨c0, c1, -, -, cz⟩ := block2' (old_below HGC.out HBL.out)
              obtain ⟨d0, d1, -, -, dz⟩ := block2' (old_below HGD.out HBL.out)
              go_wp2_with fail
              go_ret
              exact ⟨rfl, HBD.out.trans (HBL.out.mono HBD.out.size)⟩
        | false =>
          by_cases he : er = 0
          · have q9 : (er != 0) = false := by simpa using he
            have HNX : Hid (c.ok ∧ (next1 c d i).2 = 0 ∧ R.1 = (next1 c d i).1) := Lib.hid (HNC.out (by rw [← HER.out]; exact he))
            have HRL : Hid (R.1.v.length ≤ 1000000) := Lib.hid (by
              obtain ⟨h1, h2, h3⟩ := HNX.out
              have := (next1_ok h1 h2).2.1
              rw [← h3] at this
              omega)
            clear he
            obtain ⟨c0, c1, -, -, cz⟩ := block2' (old_below HGC.out HBL.out)
            obtain ⟨d0, d1, -, -, dz⟩ := block2' (old_below HGD.out HBL.out)
            go_wp2_with fail
            refine (HMAJ.out _ HBL.out).mono ?_
            rintro e we ⟨rfl, hbe⟩
            have HBL2 : Hid (Below WD.heap.size WD we) := Lib.hid (HBL.out.trans (hbe.mono HBL.out.size))
            clear HBL hbe
            have HBL := HBL2
            clear HBL2
            by_cases hA : maj c a
            · rw [yes_t hA]
              clear c0 c1 cz d0 d1 dz
              obtain ⟨c0, c1, -, -, cz⟩ := block2' (old_below HGC.out HBL.out)
              obtain ⟨d0, d1, -, -, dz⟩ := block2' (old_below HGD.out HBL.out)
              go_wp2_with fail
              refine (HMBJ.out _ HBL.out).mono ?_
              rintro e we ⟨rfl, hbe⟩
              have HBL2 : Hid (Below WD.heap.size WD we) := Lib.hid (HBL.out.trans (hbe.mono HBL.out.size))
              clear HBL hbe
              have HBL := HBL2
              clear HBL2
              by_cases hB : maj c b
              · rw [yes_t hB]
                clear c0 c1 cz d0 d1 dz
                obtain ⟨c0, c1, -, -, cz⟩ := block2' (old_below HGC.out HBL.out)
                obtain ⟨d0, d1, -, -, dz⟩ := block2' (old_below HGD.out HBL.out)
                go_wp2_with fail
                refine (HRGT.out _ HBL.out).mono ?_
                rintro e we ⟨rfl, hbe⟩
                have HBL2 : Hid (Below WD.heap.size WD we) := Lib.hid (HBL.out.trans (hbe.mono HBL.out.size))
                clear HBL hbe
                have HBL := HBL2
                clear HBL2
                clear c0 c1 cz d0 d1 dz
                by_cases hO : c.ok
                · rw [yes_t hO]
                  exact absurd (HCM.out.2 (by obtain ⟨x, h1, h2, h3⟩ := maj_meet hA hB; exact ⟨x, h2, h3, h1⟩)) (by simp)
                · rw [yes_f hO]
                  obtain ⟨c0, c1, -, -, cz⟩ := block2' (old_below HGC.out HBL.out)
                  obtain ⟨d0, d1, -, -, dz⟩ := block2' (old_below HGD.out HBL.out)
                  go_wp2_with fail
                  refine (HMAJ.out _ HBL.out).mono ?_
                  rintro e we ⟨rfl, hbe⟩
                  have HBL2 : Hid (Below WD.heap.size WD we) := Lib.hid (HBL.out.trans (hbe.mono HBL.out.size))
                  clear HBL hbe
                  have HBL := HBL2
                  clear HBL2
                  clear c0 c1 cz d0 d1 dz
                  rw [yes_t hA]
                  obtain ⟨c0, c1, -, -, cz⟩ := block2' (old_below HGC.out HBL.out)
                  obtain ⟨d0, d1, -, -, dz⟩ := block2' (old_below HGD.out HBL.out)
                  go_wp2_with fail
                  refine (HMDJ.out _ HRL.out HBL.out).mono ?_
                  rintro e we ⟨rfl, hbe⟩
                  have HBL2 : Hid (Below WD.heap.size WD we) := Lib.hid (HBL.out.trans (hbe.mono HBL.out.size))
                  clear HBL hbe
                  have HBL := HBL2
                  clear HBL2
                  clear c0 c1 cz d0 d1 dz
                  by_cases hD : maj R.1 b
                  · rw [yes_t hD]
                    exact absurd (HCM.out.2 (by
                      obtain ⟨h1, h2, h3⟩ := HNX.out
                      rw [h3] at hD
                      obtain ⟨x, h4, h5, h6⟩ := maj_next h1 h2 hA hD
                      exact ⟨x, h5, h6, h4⟩)) (by simp)
                  · rw [yes_f hD]
                    obtain ⟨c0, c1, -, -, cz⟩ := block2' (old_below HGC.out HBL.out)
                    obtain ⟨d0, d1, -, -, dz⟩ := block2' (old_below HGD.out HBL.out)
                    go_wp2_with fail
                    go_ret
                    exact ⟨rfl, HBD.out.trans (HBL.out.mono HBD.out.size)⟩
              · rw [yes_f hB]
                clear c0 c1 cz d0 d1 dz
                obtain ⟨c0, c1, -, -, cz⟩ := block2' (old_below HGC.out HBL.out)
                obtain ⟨d0, d1, -, -, dz⟩ := block2' (old_below HGD.out HBL.out)
                go_wp2_with fail
                refine (HMAJ.out _ HBL.out).mono ?_
                rintro e we ⟨rfl, hbe⟩
                have HBL2 : Hid (Below WD.heap.size WD we) := Lib.hid (HBL.out.trans (hbe.mono HBL.out.size))
                clear HBL hbe
                have HBL := HBL2
                clear HBL2
                clear c0 c1 cz d0 d1 dz
                rw [yes_t hA]
                obtain ⟨c0, c1, -, -, cz⟩ := block2' (old_below HGC.out HBL.out)
                obtain ⟨d0, d1, -, -, dz⟩ := block2' (old_below HGD.out HBL.out)
                go_wp2_with fail
                refine (HMDJ.out _ HRL.out HBL.out).mono ?_
                rintro e we ⟨rfl, hbe⟩
                have HBL2 : Hid (Below WD.heap.size WD we) := Lib.hid (HBL.out.trans (hbe.mono HBL.out.size))
                clear HBL hbe
                have HBL := HBL2
                clear HBL2
                clear c0 c1 cz d0 d1 dz
                by_cases hD : maj R.1 b
                · rw [yes_t hD]
                  exact absurd (HCM.out.2 (by
                    obtain ⟨h1, h2, h3⟩ := HNX.out
                    rw [h3] at hD
                    obtain ⟨x, h4, h5, h6⟩ := maj_next h1 h2 hA hD
                    exact ⟨x, h5, h6, h4⟩)) (by simp)
                · rw [yes_f hD]
                  obtain ⟨c0, c1, -, -, cz⟩ := block2' (old_below HGC.out HBL.out)
                  obtain ⟨d0, d1, -, -, dz⟩ := block2' (old_below HGD.out HBL.out)
                  go_wp2_with fail
                  go_ret
                  exact ⟨rfl, HBD.out.trans (HBL.out.mono HBD.out.size)⟩
            · rw [yes_f hA]
              clear c0 c1 cz d0 d1 dz
              obtain ⟨c0, c1, -, -, cz⟩ := block2' (old_below HGC.out HBL.out)
              obtain ⟨d0, d1, -, -, dz⟩ := block2' (old_below HGD.out HBL.out)
              go_wp2_with fail
              refine (HMAJ.out _ HBL.out).mono ?_
              rintro e we ⟨rfl, hbe⟩
              have HBL2 : Hid (Below WD.heap.size WD we) := Lib.hid (HBL.out.trans (hbe.mono HBL.out.size))
              clear HBL hbe
              have HBL := HBL2
              clear HBL2
              clear c0 c1 cz d0 d1 dz
              rw [yes_f hA]
              obtain ⟨c0, c1, -, -, cz⟩ := block2' (old_below HGC.out HBL.out)
              obtain ⟨d0, d1, -, -, dz⟩ := block2' (old_below HGD.out HBL.out)
              go_wp2_with fail
              go_ret
              exact ⟨rfl, HBD.out.trans (HBL.out.mono HBD.out.size)⟩
          · have q9 : (er != 0) = true := by simpa using he
            obtain ⟨c0, c1, -, -, cz⟩ := block2' (old_below HGC.out HBL.out)
            obtain ⟨d0, d1, -, -, dz⟩ := block2' (old_below HGD.out HBL.out)
            go_wp2_with fail
            refine (HMAJ.out _ HBL.out).mono ?_
            rintro e we ⟨rfl, hbe⟩
            have HBL2 : Hid (Below WD.heap.size WD we) := Lib.hid (HBL.out.trans (hbe.mono HBL.out.size))
            clear HBL hbe
            have HBL := HBL2
            clear HBL2
            by_cases hA : maj c a
            · rw [yes_t hA]
              clear c0 c1 cz d0 d1 dz
              obtain ⟨c0, c1, -, -, cz⟩ := block2' (old_below HGC.out HBL.out)
              obtain ⟨d0, d1, -, -, dz⟩ := block2' (old_below HGD.out HBL.out)
              go_wp2_with fail
              refine (HMBJ.out _ HBL.out).mono ?_
              rintro e we ⟨rfl, hbe⟩
              have HBL2 : Hid (Below WD.heap.size WD we) := Lib.hid (HBL.out.trans (hbe.mono HBL.out.size))
              clear HBL hbe
              have HBL := HBL2
              clear HBL2
              by_cases hB : maj c b
              · rw [yes_t hB]
                clear c0 c1 cz d0 d1 dz
                obtain ⟨c0, c1, -, -, cz⟩ := block2' (old_below HGC.out HBL.out)
                obtain ⟨d0, d1, -, -, dz⟩ := block2' (old_below HGD.out HBL.out)
                go_wp2_with fail
                refine (HRGT.out _ HBL.out).mono ?_
                rintro e we ⟨rfl, hbe⟩
                have HBL2 : Hid (Below WD.heap.size WD we) := Lib.hid (HBL.out.trans (hbe.mono HBL.out.size))
                clear HBL hbe
                have HBL := HBL2
                clear HBL2
                clear c0 c1 cz d0 d1 dz
                by_cases hO : c.ok
                · rw [yes_t hO]
                  exact absurd (HCM.out.2 (by obtain ⟨x, h1, h2, h3⟩ := maj_meet hA hB; exact ⟨x, h2, h3, h1⟩)) (by simp)
                · rw [yes_f hO]
                  obtain ⟨c0, c1, -, -, cz⟩ := block2' (old_below HGC.out HBL.out)
                  obtain ⟨d0, d1, -, -, dz⟩ := block2' (old_below HGD.out HBL.out)
                  go_wp2_with fail
                  go_ret
                  exact ⟨rfl, HBD.out.trans (HBL.out.mono HBD.out.size)⟩
              · rw [yes_f hB]
                clear c0 c1 cz d0 d1 dz
                obtain ⟨c0, c1, -, -, cz⟩ := block2' (old_below HGC.out HBL.out)
                obtain ⟨d0, d1, -, -, dz⟩ := block2' (old_below HGD.out HBL.out)
                go_wp2_with fail
                go_ret
                exact ⟨rfl, HBD.out.trans (HBL.out.mono HBD.out.size)⟩
            · rw [yes_f hA]
              clear c0 c1 cz d0 d1 dz
              obtain ⟨c0, c1, -, -, cz⟩ := block2' (old_below HGC.out HBL.out)
              obtain ⟨d0, d1, -, -, dz⟩ := block2' (old_below HGD.out HBL.out)
              go_wp2_with fail
              go_ret
              exact ⟨rfl, HBD.out.trans (HBL.out.mono HBD.out.size)⟩
  · rw [decide_eq_false hs]
    go_wp2_with fail
    refine (awake8_any _).mono ?_
    rintro e w8 ⟨rfl, hb8⟩
    have HB8 : Hid (Below w.heap.size w w8) := Lib.hid (HBC.out.trans (hb8.mono HBC.out.size))
    clear hb8
    go_wp2_with fail
    go_ret
    exact ⟨rfl, HB8.out⟩
end Go.Proofs.Ytfdlpmphgojlhaa.M
