/- The document's answers: who has what, a majority, Commit. The document's Commit. -/
import Derived.Test.YtenpbcpdecnhmaaTA8
import Derived.StillTailTactics
/- Part: TaC. -/
namespace Go.Proofs.Ytenpbcpdecnhmaa.M
open Go.RowKit

set_option maxRecDepth 20000 in
set_option maxHeartbeats 1600000 in
theorem RefHas_any (ms : List (Int × Int)) (x : Int) (F : Nat → Prop) (v : Value) (w : World) (hv : RepM w F ms v) :
    Calls Try.prog 29 #[v, .int .i64 x] w fun e w' => e = .returned (.int .i64 (hasM ms x)) ∧ w' = w := by
  obtain ⟨va, vc, rfl, hnb⟩ := hv.slice
  obtain ⟨n, hn⟩ : ∃ n, n = ms.length := ⟨_, rfl⟩
  rw [← hn] at hv hnb ⊢
  obtain ⟨y, hy⟩ : ∃ y, y = hasM ms x := ⟨_, rfl⟩
  rw [← hy]
  have HV := Lib.hid hv
  have HN := Lib.hid hn
  have HY := Lib.hid hy
  clear hv hn hy
  go_enter Try.func29, Try.ntmps29
  go_wp2_with fail
  go_loopw [5, 6] (fun b i wr => ∃ (k : Nat) (h : Int), k ≤ n ∧ i = .int .i64 (k : Int) ∧ b = .int .i64 h ∧ Hid (wr = w) ∧ Hid (h = hasM (ms.take k) x)) (fun _ i _ => n - (intOf i).toNat)
  case atStart => exact ⟨0, 0, Nat.zero_le _, rfl, rfl, Lib.hid rfl, Lib.hid rfl⟩
  case round =>
    obtain ⟨k, h, hk, rfl, rfl, HW, HH⟩ := hrel
    by_cases hlt : k < n
    · have hkk : (k : Int) < (n : Int) := by omega
      have hlt2 : k < ms.length := by rw [← HN.out]; exact hlt
      obtain ⟨b, off, rfl, -, e0, e1, -, -⟩ := (HW.out ▸ HV.out : RepM wr F ms (.slice va n vc)).elem k hlt2
      obtain ⟨id, hid⟩ : ∃ id, id = ms[k].1 := ⟨_, rfl⟩
      obtain ⟨u, hu⟩ : ∃ u, u = ms[k].2 := ⟨_, rfl⟩
      rw [← hid] at e0
      rw [← hu] at e1
      have HS : Hid (hasM (ms.take (k + 1)) x = if id = x ∧ h < u then u else h) := Lib.hid (by rw [hasM_take hlt2, ← HH.out]; unfold hasStep; rw [← hid, ← hu])
      clear hid hu
      by_cases h1 : id = x
      · have q1 : (id == x) = true := by simp [h1]
        by_cases h2 : u > h
        · have q2 : decide (u > h) = true := decide_eq_true h2
          have HT : Hid (u = hasM (ms.take (k + 1)) x) := Lib.hid (by rw [HS.out, if_pos ⟨h1, h2⟩])
          clear h1 h2
          go_wp2_with fail
          go_roundw
          case rel => exact ⟨k + 1, u, by omega, by go_num, rfl, HW, HT⟩
          case measure => simp only [intOf]; omega
        · have q2 : decide (u > h) = false := decide_eq_false h2
          have HT : Hid (h = hasM (ms.take (k + 1)) x) := Lib.hid (by rw [HS.out, if_neg fun e => h2 e.2])
          clear h1 h2
          go_wp2_with fail
          go_roundw
          case rel => exact ⟨k + 1, h, by omega, by go_num, rfl, HW, HT⟩
          case measure => simp only [intOf]; omega
      · have q1 : (id == x) = false := by simpa using h1
        have HT : Hid (h = hasM (ms.take (k + 1)) x) := Lib.hid (by rw [HS.out, if_neg fun e => h1 e.1])
        clear h1
        go_wp2_with fail
        go_roundw
        case rel => exact ⟨k + 1, h, by omega, by go_num, rfl, HW, HT⟩
        case measure => simp only [intOf]; omega
    · obtain rfl : k = n := by omega
      have hkk : ¬ ((k : Nat) : Int) < (k : Int) := by omega
      have HT : Hid (h = y) := Lib.hid (by rw [HY.out, HH.out, HN.out, List.take_length])
      clear HH
      go_wp2_with fail
      go_ret
      exact ⟨by rw [← HT.out]; rfl, HW.out⟩

theorem cnt_snoc {L : List Int} {k : Nat} (hk : k < L.length) (x : Int) : cntGe (L.take (k + 1)) x = cntGe (L.take k) x + if x ≤ L[k] then 1 else 0 := by
  unfold cntGe
  rw [take_snocI hk, List.countP_append, List.countP_singleton]
  simp

set_option maxRecDepth 20000 in
set_option maxHeartbeats 3200000 in
theorem RefEnough_any (V Ls : List Int) (ms : List (Int × Int)) (x : Int) (F G : Nat → Prop) (vv lv mv : Value) (w : World) (hv : RepI w F V vv) (hl : RepI w F Ls lv) (hF : ∀ k, F k → k < w.heap.size) (hm : RepM w G ms mv) (hG : ∀ k, G k → k < w.heap.size) (hs : V.length ≤ 1000000) :
    Calls Try.prog 12 #[.agg #[vv, lv], mv, .int .i64 x] w fun e w' => e = .returned (.bool (decide (enough (V.map (hasM ms)) x))) ∧ Below w.heap.size w w' := by
  obtain ⟨a, k, rfl, -⟩ := hv.slice
  obtain ⟨a', k', rfl, -⟩ := hl.slice
  obtain ⟨n, hn⟩ : ∃ n, n = V.length := ⟨_, rfl⟩
  obtain ⟨m, hm2⟩ : ∃ m, m = Ls.length := ⟨_, rfl⟩
  rw [← hn] at hs hv ⊢
  rw [← hm2] at hl ⊢
  obtain ⟨L, hL⟩ : ∃ L, L = V.map (hasM ms) := ⟨_, rfl⟩
  rw [← hL]
  obtain ⟨y, hy⟩ : ∃ y, y = decide (enough L x) := ⟨_, rfl⟩
  rw [← hy]
  have hLn : L.length = n := by rw [hL, List.length_map, hn]
  obtain ⟨W, hW⟩ : ∃ W, W = w.alloc (.cells #[.slice a n k, .slice a' m k'] 24) := ⟨_, rfl⟩
  have HB : Hid (Below w.heap.size w W) := Lib.hid (by rw [hW]; exact below_alloc _ _)
  obtain ⟨g, hg⟩ : ∃ g, g = w.heap.size := ⟨_, rfl⟩
  have hBX : W.heap[g]? = some (.cells #[.slice a n k, .slice a' m k'] 24) := by rw [hW, hg]; exact heap_alloc_new w _
  have HV := Lib.hid (hv.below hF HB.out)
  have HM := Lib.hid (hm.below hG HB.out)
  have HN := Lib.hid hn
  have HL := Lib.hid hL
  have HLN := Lib.hid hLn
  have HY := Lib.hid hy
  have HW := Lib.hid hW
  have HG := Lib.hid hg
  obtain ⟨c0, -, -, -, cz⟩ := block2' hBX
  clear hv hl hm hF hG hn hm2 hL hy hLn hW hg hBX
  go_enter Try.func12, Try.ntmps12
  go_wp2_with fail
  rw [← HG.out, ← HW.out]
  go_loopw [7, 8] (fun b i wr => ∃ k c : Nat, k ≤ n ∧ c ≤ k ∧ i = .int .i64 (k : Int) ∧ b = .int .i64 ((2 * c : Nat) : Int) ∧ Hid (wr = W) ∧ Hid (c = cntGe (L.take k) x)) (fun _ i _ => n - (intOf i).toNat)
  case atStart => exact ⟨0, 0, Nat.zero_le _, Nat.le_refl _, rfl, rfl, Lib.hid rfl, Lib.hid rfl⟩
  case round =>
    obtain ⟨k, c, hk, hck, rfl, rfl, HWR, HC⟩ := hrel
    obtain rfl := HWR.out
    by_cases hlt : k < n
    · have hkk : (k : Int) < (n : Int) := by omega
      have hlt3 : k < L.length := by rw [HLN.out]; exact hlt
      obtain ⟨b, off, rfl, -, e0, -, -⟩ := HV.out.elem' HN.out k hlt
      obtain ⟨id, hid⟩ : ∃ id, id = V[k]'(by rw [← HN.out]; exact hlt) := ⟨_, rfl⟩
      rw [← hid] at e0
      obtain ⟨h, hh⟩ : ∃ h, h = hasM ms id := ⟨_, rfl⟩
      have HHAS := Lib.hid (RefHas_any ms id G _ wr HM.out)
      rw [← hh] at HHAS
      have hxl : L[k] = h := by simp only [HL.out, List.getElem_map]; rw [← hid, hh]
      have HS : Hid (cntGe (L.take (k + 1)) x = c + if x ≤ h then 1 else 0) := Lib.hid (by rw [cnt_snoc hlt3, hxl, ← HC.out])
      clear hid hh hxl hlt3
      go_wp2_with fail
      refine HHAS.out.mono ?_
      rintro e w2 ⟨rfl, rfl⟩
      by_cases h1 : h ≥ x
      · have q1 : decide (h ≥ x) = true := decide_eq_true h1
        have HT : Hid (c + 1 = cntGe (L.take (k + 1)) x) := Lib.hid (by rw [HS.out, if_pos h1])
        clear h1
        go_wp2_with fail
        go_roundw
        case rel => exact ⟨k + 1, c + 1, by omega, by omega, by go_num, by go_num, Lib.hid (by first | rfl | trivial), HT⟩
        case measure => simp only [intOf]; omega
      · have q1 : decide (h ≥ x) = false := decide_eq_false h1
        have HT : Hid (c = cntGe (L.take (k + 1)) x) := Lib.hid (by rw [HS.out, if_neg h1]; rfl)
        clear h1
        go_wp2_with fail
        go_roundw
        case rel => exact ⟨k + 1, c, by omega, by omega, by go_num, rfl, Lib.hid (by first | rfl | trivial), HT⟩
        case measure => simp only [intOf]; omega
    · obtain rfl : k = n := by omega
      have hkk : ¬ ((k : Nat) : Int) < (k : Int) := by omega
      have HT : Hid (y = decide (((2 * c : Nat) : Int) > (k : Int))) := Lib.hid (by
        rw [HY.out, decide_eq_decide]
        unfold enough
        have := HC.out
        rw [List.take_of_length_le (by rw [HLN.out]; exact Nat.le_refl _)] at this
        rw [HLN.out, ← this]
        omega)
      clear HC
      go_wp2_with fail
      go_ret
      exact ⟨by rw [HT.out]; simp, HB.out⟩
end Go.Proofs.Ytenpbcpdecnhmaa.M

/- Part: TaD. -/
namespace Go.Proofs.Ytenpbcpdecnhmaa.M
open Go.RowKit

set_option maxRecDepth 20000 in
set_option maxHeartbeats 3200000 in
theorem RefCommit_any (V Ls : List Int) (ms : List (Int × Int)) (F G : Nat → Prop) (vv lv mv : Value) (w : World) (hv : RepI w F V vv) (hl : RepI w F Ls lv) (hF : ∀ k, F k → k < w.heap.size) (hm : RepM w G ms mv) (hG : ∀ k, G k → k < w.heap.size) (hs : V.length ≤ 1000000) :
    Calls Try.prog 11 #[.agg #[vv, lv], mv] w fun e w' => e = .returned (.int .i64 (comOf V ms)) ∧ Below w.heap.size w w' := by
  obtain ⟨a, k, rfl, -⟩ := hv.slice
  obtain ⟨a', k', rfl, -⟩ := hl.slice
  obtain ⟨ma, mk, rfl, -⟩ := hm.slice
  obtain ⟨n, hn⟩ : ∃ n, n = V.length := ⟨_, rfl⟩
  obtain ⟨m, hm2⟩ : ∃ m, m = Ls.length := ⟨_, rfl⟩
  obtain ⟨q, hq⟩ : ∃ q, q = ms.length := ⟨_, rfl⟩
  rw [← hn] at hs hv ⊢
  rw [← hm2] at hl ⊢
  rw [← hq] at hm ⊢
  obtain ⟨L, hL⟩ : ∃ L, L = V.map (hasM ms) := ⟨_, rfl⟩
  obtain ⟨y, hy⟩ : ∃ y, y = comOf V ms := ⟨_, rfl⟩
  rw [← hy]
  have hyL : y = com L := by rw [hy, hL]; rfl
  have hLn : L.length = n := by rw [hL, List.length_map, hn]
  obtain ⟨W, hW⟩ : ∃ W, W = w.alloc (.cells #[.slice a n k, .slice a' m k'] 24) := ⟨_, rfl⟩
  have HB : Hid (Below w.heap.size w W) := Lib.hid (by rw [hW]; exact below_alloc _ _)
  obtain ⟨g, hg⟩ : ∃ g, g = w.heap.size := ⟨_, rfl⟩
  have hBX : W.heap[g]? = some (.cells #[.slice a n k, .slice a' m k'] 24) := by rw [hW, hg]; exact heap_alloc_new w _
  have HV := Lib.hid (hv.below hF HB.out)
  have HLL := Lib.hid (hl.below hF HB.out)
  have HM := Lib.hid (hm.below hG HB.out)
  have HF : Hid (∀ k, F k → k < W.heap.size) := Lib.hid fun k hk => Nat.lt_of_lt_of_le (hF k hk) HB.out.size
  have HGW : Hid (∀ k, G k → k < W.heap.size) := Lib.hid fun k hk => Nat.lt_of_lt_of_le (hG k hk) HB.out.size
  have HN := Lib.hid hn
  have HL := Lib.hid hL
  have HLN := Lib.hid hLn
  have HYL := Lib.hid hyL
  have HW := Lib.hid hW
  have HG := Lib.hid hg
  have HBX := Lib.hid hBX
  have HNN : Hid (∀ x ∈ L, 0 ≤ x) := Lib.hid fun x hx => by
    rw [hL] at hx
    obtain ⟨v, -, rfl⟩ := List.mem_map.1 hx
    exact hasM_nn ms v
  clear hv hl hm hF hG hn hm2 hq hL hy hyL hLn hW hg hBX
  go_enter Try.func11, Try.ntmps11
  go_wp2_with fail
  rw [← HG.out, ← HW.out]
  go_loopw [5, 6] (fun b i wr => ∃ (k : Nat) (c : Int), k ≤ n ∧ i = .int .i64 (k : Int) ∧ b = .int .i64 c ∧ Hid (Below W.heap.size W wr) ∧ Hid (BestAt L k c)) (fun _ i _ => n - (intOf i).toNat)
  case atStart => exact ⟨0, 0, Nat.zero_le _, rfl, rfl, Lib.hid (Below.refl _ _), Lib.hid (BestAt.start L)⟩
  case round =>
    obtain ⟨k, c, hk, rfl, rfl, HBW, HC⟩ := hrel
    obtain ⟨c0, c1, -, -, cz⟩ := block2' (old_below HBX.out HBW.out)
    by_cases hlt : k < n
    · have hkk : (k : Int) < (n : Int) := by omega
      have hlt3 : k < L.length := by rw [HLN.out]; exact hlt
      obtain ⟨b, off, rfl, -, e0, -, -⟩ := (HV.out.below HF.out HBW.out).elem' HN.out k hlt
      obtain ⟨id, hid⟩ : ∃ id, id = V[k]'(by rw [← HN.out]; exact hlt) := ⟨_, rfl⟩
      rw [← hid] at e0
      obtain ⟨h, hh⟩ : ∃ h, h = hasM ms id := ⟨_, rfl⟩
      have HHAS := Lib.hid (RefHas_any ms id G _ wr (HM.out.below HGW.out HBW.out))
      rw [← hh] at HHAS
      have HLT := Lib.hid hlt3
      have HX : Hid (L[k]'HLT.out = h) := Lib.hid (by simp only [HL.out, List.getElem_map]; rw [← hid, hh])
      have HEN := Lib.hid (RefEnough_any V Ls ms h F G _ _ _ wr (HV.out.below HF.out HBW.out) (HLL.out.below HF.out HBW.out) (fun k hk => Nat.lt_of_lt_of_le (HF.out k hk) HBW.out.size) (HM.out.below HGW.out HBW.out) (fun k hk => Nat.lt_of_lt_of_le (HGW.out k hk) HBW.out.size) (by rw [← HN.out]; exact hs))
      rw [← HL.out] at HEN
      clear hid hh hlt3
      go_wp2_with fail
      refine HHAS.out.mono ?_
      rintro e w2 ⟨rfl, rfl⟩
      by_cases h1 : h > c
      · have q1 : decide (h > c) = true := decide_eq_true h1
        by_cases h2 : enough L h
        · rw [decide_eq_true h2] at HEN
          have HT : Hid (BestAt L (k + 1) h) := Lib.hid (by rw [← HX.out]; exact HC.out.up HLT.out (by rw [HX.out]; exact h1) (by rw [HX.out]; exact h2))
          clear h1 h2
          go_wp2_with fail
          refine HEN.out.mono ?_
          rintro e w3 ⟨rfl, hb3⟩
          have HB3 : Hid (Below W.heap.size W w3) := Lib.hid (HBW.out.trans (hb3.mono HBW.out.size))
          clear hb3
          go_wp2_with fail
          go_roundw
          case rel => exact ⟨k + 1, h, by omega, by go_num, rfl, HB3, HT⟩
          case measure => simp only [intOf]; omega
        · rw [decide_eq_false h2] at HEN
          have HT : Hid (BestAt L (k + 1) c) := Lib.hid (HC.out.stay HLT.out (by rw [HX.out]; exact fun e => h2 e.2))
          clear h1 h2
          go_wp2_with fail
          refine HEN.out.mono ?_
          rintro e w3 ⟨rfl, hb3⟩
          have HB3 : Hid (Below W.heap.size W w3) := Lib.hid (HBW.out.trans (hb3.mono HBW.out.size))
          clear hb3
          go_wp2_with fail
          go_roundw
          case rel => exact ⟨k + 1, c, by omega, by go_num, rfl, HB3, HT⟩
          case measure => simp only [intOf]; omega
      · have q1 : decide (h > c) = false := decide_eq_false h1
        have HT : Hid (BestAt L (k + 1) c) := Lib.hid (HC.out.stay HLT.out (by rw [HX.out]; exact fun e => h1 e.1))
        clear h1
        go_wp2_with fail
        go_roundw
        case rel => exact ⟨k + 1, c, by omega, by go_num, rfl, HBW, HT⟩
        case measure => simp only [intOf]; omega
    · obtain rfl : k = n := by omega
      have hkk : ¬ ((k : Nat) : Int) < (k : Int) := by omega
      have HT : Hid (c = y) := Lib.hid (by
        have := HC.out
        rw [← HLN.out] at this
        rw [HYL.out]; exact this.done HNN.out)
      clear HC
      go_wp2_with fail
      go_ret
      exact ⟨by rw [← HT.out]; rfl, HB.out.trans (HBW.out.mono HB.out.size)⟩
end Go.Proofs.Ytenpbcpdecnhmaa.M
