/- The law TallyAlike. -/
import Derived.Test.YtenpbcpdecnhmaaTA10
import Derived.Deep.RegionHeld
import Derived.Deep.CutRange
namespace Go.Proofs.Ytenpbcpdecnhmaa.M
open Go.RowKit

/-- Those of voters. -/
def byVoters (V : List Int) (ms : List (Int × Int)) : List (Int × Int) := ms.filter fun p => decide (p.1 ∈ V)

theorem byVoters_take (V : List Int) {ms : List (Int × Int)} {k : Nat} (hk : k < ms.length) : byVoters V (ms.take (k + 1)) = if ms[k].1 ∈ V then byVoters V (ms.take k) ++ [ms[k]] else byVoters V (ms.take k) := by
  unfold byVoters
  rw [List.take_add_one, List.getElem?_eq_getElem hk, Option.toList_some, List.filter_append]
  by_cases h : ms[k].1 ∈ V
  · rw [if_pos h]; simp [h]
  · rw [if_neg h]; simp [h]

theorem com_byVoters (V : List Int) (ms : List (Int × Int)) : comOf V (byVoters V ms) = comOf V ms := comOf_congr fun v hv x => by
  unfold byVoters
  rw [List.mem_filter]
  simp [hv]

theorem byVoters_len (V : List Int) (ms : List (Int × Int)) : (byVoters V ms).length ≤ ms.length := List.length_filter_le _ _

theorem back_step {ms : List (Int × Int)} {z : Nat} (hz : z < ms.length) : (ms.drop z).reverse = (ms.drop (z + 1)).reverse ++ [ms[z]] := by
  rw [List.drop_eq_getElem_cons hz, List.reverse_cons]

set_option maxRecDepth 20000 in
set_option maxHeartbeats 6400000 in
theorem TallyAlike_any (turn : Int) (V Ls : List Int) (ms : List (Int × Int)) (vv lv mv : Value) (w : World) (hv : RepI w (fun k => k < w.heap.size) V vv) (hl : RepI w (fun k => k < w.heap.size) Ls lv) (hm : RepM w (fun k => k < w.heap.size) ms mv) :
    Calls Try.prog 7 #[.agg #[vv, lv], mv, .int .i64 turn] w fun e w' => e = .returned (.bool true) ∧ Below w.heap.size w w' := by
  obtain ⟨a, k, rfl, -⟩ := hv.slice
  obtain ⟨a', k', rfl, -⟩ := hl.slice
  obtain ⟨ma, mk, rfl, hqb⟩ := hm.slice
  obtain ⟨n, hn⟩ : ∃ n, n = V.length := ⟨_, rfl⟩
  obtain ⟨m, hm2⟩ : ∃ m, m = Ls.length := ⟨_, rfl⟩
  obtain ⟨q, hq⟩ : ∃ q, q = ms.length := ⟨_, rfl⟩
  rw [← hn] at hv ⊢
  rw [← hm2] at hl ⊢
  rw [← hq] at hm hqb ⊢
  obtain ⟨W, hW⟩ : ∃ W, W = w.alloc (.cells #[.slice a n k, .slice a' m k'] 24) := ⟨_, rfl⟩
  have HB : Hid (Below w.heap.size w W) := Lib.hid (by rw [hW]; exact below_alloc _ _)
  obtain ⟨g, hg⟩ : ∃ g, g = w.heap.size := ⟨_, rfl⟩
  have HBX : Hid (W.heap[g]? = some (.cells #[.slice a n k, .slice a' m k'] 24)) := Lib.hid (by rw [hW, hg]; exact heap_alloc_new w _)
  have HV := Lib.hid hv
  have HL := Lib.hid hl
  have HM := Lib.hid hm
  have HN := Lib.hid hn
  have HM2 := Lib.hid hm2
  have HQ := Lib.hid hq
  have HW := Lib.hid hW
  have HG := Lib.hid hg
  clear hv hl hm hn hm2 hq hW hg
  go_enter Try.func7, Try.ntmps7
  go_wp2_with fail
  rw [← HG.out, ← HW.out]
  refine (awake9_any W).mono ?_
  rintro e w2 ⟨rfl, hb2⟩
  have HB2 : Hid (Below w.heap.size w w2) := Lib.hid (HB.out.trans (hb2.mono HB.out.size))
  have HBX2 := Lib.hid (old_below HBX.out hb2)
  obtain ⟨c0, c1, -, -, cz⟩ := block2' HBX2.out
  clear hb2
  go_wp2_with fail
  have HS := Lib.hid (small_any V Ls (fun k => k < w.heap.size) _ _ w2 (HV.out.below (fun k hk => hk) HB2.out) (HL.out.below (fun k hk => hk) HB2.out))
  rw [← HN.out, ← HM2.out] at HS
  refine HS.out.mono ?_
  rintro e w3 ⟨rfl, hb3⟩
  have HB3 : Hid (Below w.heap.size w w3) := Lib.hid (HB2.out.trans (hb3.mono HB2.out.size))
  have HBX3 := Lib.hid (old_below HBX2.out hb3)
  clear hb3 c0 c1 cz HS
  by_cases hs : n ≤ 60 ∧ m ≤ 60
  · rw [decide_eq_true hs]
    by_cases hp : q > 60
    · have q1 : decide ((q : Int) > 60) = true := decide_eq_true (by omega)
      go_wp2_with fail
      refine (awake9_any _).mono ?_
      rintro e w5 ⟨rfl, hb5⟩
      have HB5 : Hid (Below w.heap.size w w5) := Lib.hid (HB3.out.trans (hb5.mono HB3.out.size))
      clear hb5
      go_wp2_with fail
      go_ret
      exact ⟨rfl, HB5.out⟩
    have q1 : decide ((q : Int) > 60) = false := decide_eq_false (by omega)
    obtain ⟨c0, c1, -, -, cz⟩ := block2' HBX3.out
    have HSM : Hid (V.length ≤ 60 ∧ ms.length ≤ 60) := Lib.hid (by rw [← HN.out, ← HQ.out]; omega)
    obtain ⟨y, hy⟩ : ∃ y, y = comOf V ms := ⟨_, rfl⟩
    have HC : Hid (∀ (l : List (Int × Int)) (lv : Value) (w' : World), comOf V l = y → l.length ≤ 1000000 → Below w3.heap.size w3 w' → RepM w' (fun k => k < w'.heap.size) l lv → Calls Try.prog 10 #[.agg #[.slice a n k, .slice a' m k'], lv] w' fun e w'' => e = .returned (.int .i64 y) ∧ Below w'.heap.size w' w'') := Lib.hid fun l lv w' hl hll hb' hr => by
      have hb := HB3.out.trans (hb'.mono HB3.out.size)
      have hk : ∀ k, k < w.heap.size → k < w'.heap.size := fun k hk => Nat.lt_of_lt_of_le hk hb.size
      rw [← hl]
      exact Commit_any V Ls l (fun k => k < w.heap.size) (fun k => k < w'.heap.size) _ _ _ w' (HV.out.below (fun k hk => hk) hb) (HL.out.below (fun k hk => hk) hb) hk hr (fun k hk => hk) (by have := HSM.out; omega) hll
    have HMB : Hid (∀ w' : World, Below w3.heap.size w3 w' → RepM w' (fun k => k < w.heap.size) ms (.slice ma q mk)) := Lib.hid fun w' hb' => HM.out.below (fun k hk => hk) (HB3.out.trans (hb'.mono HB3.out.size))
    have HVB : Hid (∀ w' : World, Below w3.heap.size w3 w' → RepI w' (fun k => k < w.heap.size) V (.slice a n k)) := Lib.hid fun w' hb' => HV.out.below (fun k hk => hk) (HB3.out.trans (hb'.mono HB3.out.size))
    have HY := Lib.hid hy
    clear hy
    have hC1 := HC.out ms (.slice ma q mk) w3 HY.out.symm (by have := HSM.out; omega) (Below.refl _ _) ((HMB.out w3 (Below.refl _ _)).same (fun k hk => Nat.lt_of_lt_of_le hk HB3.out.size) fun _ _ => rfl)
    have HC1 := Lib.hid hC1
    clear hC1 hs
    go_wp2_with fail
    refine HC1.out.mono ?_
    rintro e w4 ⟨rfl, hb4⟩
    have HB4 := Lib.hid hb4
    clear hb4 HC1 c0 c1 cz
    go_wp2_with fail
    go_loopg [8, 9] q (fun gk x i wr => gk ≤ q ∧ i = .int .i64 ((gk : Int) - 1) ∧ Hid (OwnM w4 (ms.drop gk).reverse x wr))
    case atStart => exact ⟨Nat.le_refl _, by go_num, Lib.hid (by rw [HQ.out, List.drop_length]; exact OwnM.bare (Below.refl _ _))⟩
    case round =>
      obtain ⟨hgk, rfl, HO⟩ := hrel
      have HBR : Hid (Below w3.heap.size w3 wr) := Lib.hid (HB4.out.trans (HO.out.1.mono HB4.out.size))
      rcases Nat.eq_zero_or_pos gk with h0 | h0
      · subst h0
        rw [show ((0 : Nat) : Int) - 1 = -1 by rfl]
        have hneg : decide ((-1 : Int) ≥ 0) = false := by decide
        rw [List.drop_zero] at HO
        obtain ⟨oa, oc, hov⟩ := HO.out.2.slice
        obtain ⟨w5, hw5⟩ : ∃ w5, w5 = wr := ⟨_, rfl⟩
        subst hw5
        rw [List.length_reverse, ← HQ.out] at hov
        subst hov
        go_upto_if 46 with fail
        go_cut [8, 10, 46] from 47 to 67 (fun x _ _ w' => ∃ l, Hid (OwnM w4 l x w' ∧ (∀ p, p ∈ l ↔ p ∈ ms) ∧ l.length ≤ 62))
        case first =>
          by_cases hq0 : q = 0
          · have hnq : ¬ 0 < q := by omega
            have q2b : decide (0 < q) = false := decide_eq_false (by omega)
            have HH : Hid (OwnM w4 ms.reverse (.slice oa q oc) w5 ∧ (∀ p, p ∈ ms.reverse ↔ p ∈ ms) ∧ ms.reverse.length ≤ 62) := Lib.hid ⟨HO.out, fun p => by simp, by have := HSM.out; simp; omega⟩
            clear hq0
            go_wp2_with fail
            go_meet
            case rel => exact ⟨_, HH⟩
          · have hpq : 0 < q := by omega
            have q2b : decide (0 < q) = true := decide_eq_true (by omega)
            have hq0i : (q : Int) ≠ 0 := by omega
            have q3 : ((q : Int) == 0) = false := by simpa using hq0
            have hr2 : turn.tmod (q : Int) < (q : Int) := Int.tmod_lt_of_pos _ (by omega)
            have hr1 : -(q : Int) < turn.tmod (q : Int) := by
              have h1 := Int.tmod_lt_of_pos (-turn) (b := (q : Int)) (by omega)
              rw [Int.neg_tmod] at h1
              omega
            obtain ⟨kk, hkk⟩ : ∃ kk : Nat, (turn.tmod (q : Int) + (q : Int)) % (q : Int) = (kk : Int) := by
              have := Int.emod_nonneg (turn.tmod (q : Int) + (q : Int)) hq0i
              exact ⟨((turn.tmod (q : Int) + (q : Int)) % (q : Int)).toNat, by omega⟩
            have hkq : (kk : Int) < (q : Int) := by rw [← hkk]; exact Int.emod_lt_of_pos _ (by omega)
            have hz : kk < ms.length := by rw [← HQ.out]; omega
            obtain ⟨b, off, rfl, hbw, e0, e1, hr⟩ := (HMB.out w5 HBR.out).elem kk hz
            obtain ⟨id, hid⟩ : ∃ id, id = ms[kk].1 := ⟨_, rfl⟩
            obtain ⟨x, hx⟩ : ∃ x, x = ms[kk].2 := ⟨_, rfl⟩
            have hp : ms[kk] = (id, x) := by rw [hid, hx]
            rw [hp] at e0 e1 hr
            have r0 : ∀ w' : World, Below w4.heap.size w4 w' → w'.cell? ⟨b, off + kk * 2, none⟩ = some (.int .i64 id) := fun w' hb' => by
              obtain ⟨b2, off2, hbb, -, f0, -, -⟩ := (HMB.out w' (HB4.out.trans (hb'.mono HB4.out.size))).elem kk hz
              cases hbb
              rw [hp] at f0
              exact f0
            have r1 : ∀ w' : World, Below w4.heap.size w4 w' → w'.cell? ⟨b, off + kk * 2 + 1, none⟩ = some (.int .i64 x) := fun w' hb' => by
              obtain ⟨b2, off2, hbb, -, -, f1, -⟩ := (HMB.out w' (HB4.out.trans (hb'.mono HB4.out.size))).elem kk hz
              cases hbb
              rw [hp] at f1
              exact f1
            have HMEM : Hid ((id, x) ∈ ms) := Lib.hid (by rw [← hp]; exact List.getElem_mem hz)
            have HR := Lib.hid hr
            clear hid hx hp hr hz hq0
            go_wp2_with fail
            clear hkk hr1 hr2 hq0i q3
            have hS : Below w4.heap.size w4 w5.drew := HO.out.1.trans ((Below.refl _ _).drew.mono HO.out.1.size)
            refine wp_region_held (S := fun w' => Below w4.heap.size w4 w') (by kernel_rfl) ?_
            refine H_take (i := 0) (v := ?_) rfl (by as_aux_lemma => kernel_rfl) (by as_aux_lemma => kernel_rfl) (by as_aux_lemma => kernel_rfl) (fun _ _ _ h => h) (by rfl) hS ?_ ?_
            rotate_left
            · intro w' hw'; go_simp; with_reducible rfl
            go_simp
            refine H_take (i := 1) (v := ?_) rfl (by as_aux_lemma => kernel_rfl) (by as_aux_lemma => kernel_rfl) (by as_aux_lemma => kernel_rfl) (fun _ _ _ h => h) (by rfl) hS ?_ ?_
            rotate_left
            · intro w' hw'; go_simp; with_reducible rfl
            go_simp
            refine H_take (i := 2) (v := ?_) rfl (by as_aux_lemma => kernel_rfl) (by as_aux_lemma => kernel_rfl) (by as_aux_lemma => kernel_rfl) (fun _ _ _ h => h) (by rfl) hS ?_ ?_
            rotate_left
            · intro w' hw'; go_simp; with_reducible rfl
            go_simp
            refine H_take (i := 3) (v := ?_) rfl (by as_aux_lemma => kernel_rfl) (by as_aux_lemma => kernel_rfl) (by as_aux_lemma => kernel_rfl) (fun _ _ _ h => h) (by rfl) hS ?_ ?_
            rotate_left
            · intro w' hw'; go_simp; with_reducible rfl
            go_simp
            refine H_take (i := 4) (v := ?_) rfl (by as_aux_lemma => kernel_rfl) (by as_aux_lemma => kernel_rfl) (by as_aux_lemma => kernel_rfl) (fun _ _ _ h => h) (by rfl) hS ?_ ?_
            rotate_left
            · intro w' hw'; go_simp; with_reducible rfl
            go_simp
            refine H_take (i := 5) (v := ?_) rfl (by as_aux_lemma => kernel_rfl) (by as_aux_lemma => kernel_rfl) (by as_aux_lemma => kernel_rfl) (fun _ _ _ h => h) (by rfl) hS ?_ ?_
            rotate_left
            · intro w' hw'; go_simp; with_reducible rfl
            go_simp
            refine H_take (i := 6) (v := ?_) rfl (by as_aux_lemma => kernel_rfl) (by as_aux_lemma => kernel_rfl) (by as_aux_lemma => kernel_rfl) (fun _ _ _ h => h) (by rfl) hS ?_ ?_
            rotate_left
            · intro w' hw'; go_simp; with_reducible rfl
            go_simp
            refine H_take (i := 7) (v := ?_) rfl (by as_aux_lemma => kernel_rfl) (by as_aux_lemma => kernel_rfl) (by as_aux_lemma => kernel_rfl) (fun _ _ _ h => h) (by rfl) hS ?_ ?_
            rotate_left
            · intro w' hw'; go_simp; with_reducible rfl
            go_simp
            refine H_take (i := 8) (v := ?_) rfl (by as_aux_lemma => kernel_rfl) (by as_aux_lemma => kernel_rfl) (by as_aux_lemma => kernel_rfl) (fun _ _ _ h => h) (by rfl) hS ?_ ?_
            rotate_left
            · intro w' hw'; go_simp; with_reducible rfl
            go_simp
            refine H_one (i := 9) (by as_aux_lemma => kernel_rfl) rfl (by rfl) ?_
            go_simp
            obtain ⟨wn, hwn⟩ : ∃ wn, wn = (w5.alloc (.cells #[.int .i64 id, .int .i64 x, .int .i64 id, .int .i64 x] 32)).drew := ⟨_, rfl⟩
            rw [← hwn]
            have hb2 : Below w5.heap.size w5 wn := by rw [hwn]; exact (below_alloc _ _).drew
            have HO2 := Lib.hid (HO.out.next hb2)
            have hS2 := HO2.out.1
            have HTW : Hid (RepM wn (fun k => k < w5.heap.size + 1) [(id, x), (id, x)] (.slice (some ⟨w5.heap.size, 0, none⟩) 2 2)) := Lib.hid (by rw [hwn]; exact (RepM.two (w := w5) rfl HR.out HR.out).same (fun _ h => h) fun _ _ => rfl)
            clear hwn hS r0 r1 hb2 e0 e1
            refine ⟨hS2, ?_⟩
            refine H_one (i := 10) (by as_aux_lemma => kernel_rfl) rfl (by rfl) ?_
            refine wp_own_match (.tmp 57) (.tmp 66) rfl (w := w4) (L := ms.reverse) (L2 := [(id, x), (id, x)]) rfl HO2.out rfl HTW.out (by have := HSM.out; simp; omega) ?_
            intro v2 w6 ho6 hg6
            have hS6 := ho6.1
            have HH : Hid (OwnM w4 (ms.reverse ++ [(id, x), (id, x)]) v2 w6 ∧ (∀ p, p ∈ ms.reverse ++ [(id, x), (id, x)] ↔ p ∈ ms) ∧ (ms.reverse ++ [(id, x), (id, x)]).length ≤ 62) := Lib.hid ⟨ho6, fun p => by
              simp only [List.mem_append, List.mem_reverse, List.mem_cons, List.not_mem_nil, or_false, or_self]
              exact ⟨fun h => h.elim (fun h => h) fun h => h ▸ HMEM.out, .inl⟩, by have := HSM.out; simp; omega⟩
            clear ho6
            refine ⟨hS6, ?_⟩
            go_simp
            refine H_take (i := 11) (v := ?_) rfl (by as_aux_lemma => kernel_rfl) (by as_aux_lemma => kernel_rfl) (by as_aux_lemma => kernel_rfl) (fun _ _ _ h => h) (by rfl) hS6 ?_ ?_
            rotate_left
            · intro w' hw'; go_simp; with_reducible rfl
            go_simp
            refine wpAnyH_done (by as_aux_lemma => kernel_rfl) ?_ _
            go_wp2_with fail
            go_meet
            case rel => exact ⟨_, HH⟩
        case rest =>
          obtain ⟨l, HCUT⟩ := hcut
          obtain ⟨la, lc, hlv⟩ := HCUT.out.1.2.slice
          obtain ⟨nl, hnl⟩ : ∃ nl, nl = l.length := ⟨_, rfl⟩
          rw [← hnl] at hlv
          subst hlv
          have HO6 := Lib.hid HCUT.out.1
          have HCL : Hid (comOf V l = y) := Lib.hid (by rw [HY.out]; exact comOf_congr fun v _ x => HCUT.out.2.1 (v, x))
          have HLL : Hid (l.length ≤ 62) := Lib.hid HCUT.out.2.2
          obtain ⟨W6, hW6⟩ : ∃ W6, W6 = wc := ⟨_, rfl⟩
          subst hW6
          have HB6 : Hid (Below w3.heap.size w3 W6) := Lib.hid (HB4.out.trans (HO6.out.1.mono HB4.out.size))
          clear HCUT hnl HO HBR
          go_wp2_with fail
          go_loopg [11, 12] q (fun gk x i wr => ∃ z : Nat, z + gk = q ∧ i = .int .i64 (z : Int) ∧ Hid (OwnM W6 (byVoters V (ms.take z)) x wr))
          case atStart => exact ⟨0, by omega, rfl, Lib.hid (by simpa [byVoters] using OwnM.bare (Below.refl _ _))⟩
          case round =>
            obtain ⟨z, hz, rfl, HO⟩ := hrel
            obtain ⟨va, vc, hva⟩ := HO.out.2.slice
            obtain ⟨nv, hnv⟩ : ∃ nv, nv = (byVoters V (ms.take z)).length := ⟨_, rfl⟩
            rw [← hnv] at hva
            subst hva
            have HBR : Hid (Below w3.heap.size w3 wr) := Lib.hid (HB6.out.trans (HO.out.1.mono HB6.out.size))
            by_cases hlt : z < q
            · have hzz : (z : Int) < (q : Int) := by omega
              have hz2 : z < ms.length := by rw [← HQ.out]; omega
              obtain ⟨b, off, rfl, hbw, e0, e1, hr⟩ := (HMB.out wr HBR.out).elem z hz2
              obtain ⟨id, hid⟩ : ∃ id, id = ms[z].1 := ⟨_, rfl⟩
              obtain ⟨x, hx⟩ : ∃ x, x = ms[z].2 := ⟨_, rfl⟩
              have hp : ms[z] = (id, x) := by rw [hid, hx]
              rw [hp] at e0 e1 hr
              have HP : Hid (byVoters V (ms.take (z + 1)) = if id ∈ V then byVoters V (ms.take z) ++ [(id, x)] else byVoters V (ms.take z)) := Lib.hid (by rw [byVoters_take V hz2, hp])
              have HR := Lib.hid hr
              have HE : Hid (∀ w' : World, Below wr.heap.size wr w' → w'.cell? ⟨b, off + z * 2, none⟩ = some (.int .i64 id) ∧ w'.cell? ⟨b, off + z * 2 + 1, none⟩ = some (.int .i64 x)) := Lib.hid fun w' hb' => by
                obtain ⟨b2, off2, hbb, -, f0, f1, -⟩ := (HMB.out w' (HBR.out.trans (hb'.mono HBR.out.size))).elem z hz2
                cases hbb
                rw [hp] at f0 f1
                exact ⟨f0, f1⟩
              have HNV : Hid (nv ≤ 60) := Lib.hid (by rw [hnv]; have := byVoters_len V (ms.take z); have := HSM.out; rw [List.length_take] at *; omega)
              have HNVE := Lib.hid hnv
              have HBX6 : Hid (∀ w' : World, Below wr.heap.size wr w' → w'.heap[g]? = some (.cells #[.slice a n k, .slice a' m k'] 24)) := Lib.hid fun w' hb' => old_below HBX3.out (HBR.out.trans (hb'.mono HBR.out.size))
              obtain ⟨wo, hwo⟩ : ∃ wo, wo = wr := ⟨_, rfl⟩
              subst hwo
              obtain ⟨gO, hgO⟩ : ∃ gO, gO = gk := ⟨_, rfl⟩
              subst hgO
              clear hid hx hp hr e0 e1 hnv hz2
              go_wp2_with fail
              go_loopg [11, 13] n (fun gk v j wr => ∃ t : Nat, t + gk = n ∧ j = .int .i64 (t : Int) ∧ v = .slice va nv vc ∧ Hid (Below wo.heap.size wo wr) ∧ Hid (id ∉ V.take t))
              case atStart => exact ⟨0, by omega, rfl, rfl, Lib.hid (Below.refl _ _), Lib.hid (by simp)⟩
              case round =>
                obtain ⟨t, ht, rfl, rfl, HBI, HNI⟩ := hrel
                have hn60 : n ≤ 60 := by rw [HN.out]; exact HSM.out.1
                obtain ⟨c0, c1, -, -, cz⟩ := block2' (HBX6.out wr HBI.out)
                by_cases hlt2 : t < n
                · have htt : (t : Int) < (n : Int) := by omega
                  obtain ⟨vb, vo, rfl, -, d0, -, -⟩ := (HVB.out wr (HBR.out.trans (HBI.out.mono HBR.out.size))).elem' HN.out t hlt2
                  obtain ⟨u, hu⟩ : ∃ u, u = V[t]'(by rw [← HN.out]; exact hlt2) := ⟨_, rfl⟩
                  rw [← hu] at d0
                  have HU : Hid (V.take (t + 1) = V.take t ++ [u]) := Lib.hid (by rw [take_snocI (by rw [← HN.out]; exact hlt2), hu])
                  have HUM : Hid (u ∈ V) := Lib.hid (by rw [hu]; exact List.getElem_mem _)
                  obtain ⟨f0, f1⟩ := HE.out wr HBI.out
                  clear hu
                  by_cases hid : id = u
                  · have q5 : (id == u) = true := by simp [hid]
                    have HIN : Hid (id ∈ V) := Lib.hid (by rw [hid]; exact HUM.out)
                    clear hid
                    go_wp2_with fail
                    go_quiet (fail)
                    obtain ⟨w7, hw7⟩ : ∃ w7, w7 = wr.drewN nq := ⟨_, rfl⟩
                    have HB7 : Hid (Below wo.heap.size wo w7) := Lib.hid (by rw [hw7]; exact HBI.out.trans (below_dr _ _ _))
                    rw [← hw7]
                    clear hw7 c0 c1 cz d0 f0 f1
                    obtain ⟨f0, f1⟩ := HE.out w7 HB7.out
                    go_wp2_with (at_builtin; refine wpList_own_match rfl (.tmp 92) (.tmp 97) rfl (w := W6) (L := byVoters V (ms.take z)) (L2 := [(id, x)]) rfl ((HO.out.next HB7.out).next (below_alloc w7 _)) rfl (RepM.one' rfl HR.out) (by have := HNVE.out; have := HNV.out; simp; omega) ?_)
                    intro v8 w8 ho8 _
                    have HO8 : Hid (OwnM W6 (byVoters V (ms.take (z + 1))) v8 w8) := Lib.hid (by rw [HP.out, if_pos HIN.out]; exact ho8)
                    clear ho8
                    go_wp2_with fail
                    go_roundg (gO - 1)
                    case measure => omega
                    case rel => exact ⟨z + 1, by omega, by go_num, HO8⟩
                  · have q5 : (id == u) = false := by simpa using hid
                    have HNI2 : Hid (id ∉ V.take (t + 1)) := Lib.hid (by
                      rw [HU.out]
                      intro h
                      rcases List.mem_append.1 h with h | h
                      · exact HNI.out h
                      · exact hid (List.mem_singleton.1 h))
                    clear hid
                    go_wp2_with fail
                    go_quiet (fail)
                    obtain ⟨w7, hw7⟩ : ∃ w7, w7 = wr.drewN nq := ⟨_, rfl⟩
                    have HB7 : Hid (Below wo.heap.size wo w7) := Lib.hid (by rw [hw7]; exact HBI.out.trans (below_dr _ _ _))
                    rw [← hw7]
                    clear hw7 c0 c1 cz d0 f0 f1
                    go_wp2_with fail
                    go_roundg (gk - 1)
                    case measure => omega
                    case rel => exact ⟨t + 1, by omega, by go_num, rfl, HB7, HNI2⟩
                · obtain rfl : t = n := by omega
                  have htt : ¬ ((t : Nat) : Int) < (t : Int) := by omega
                  have HO8 : Hid (OwnM W6 (byVoters V (ms.take (z + 1))) (.slice va nv vc) wr) := Lib.hid (by
                    rw [HP.out, if_neg (by have := HNI.out; rw [HN.out, List.take_length] at this; exact this)]
                    exact HO.out.next HBI.out)
                  clear HNI
                  go_wp2_with fail
                  go_roundg (gO - 1)
                  case measure => omega
                  case rel => exact ⟨z + 1, by omega, by go_num, HO8⟩
            · obtain rfl : z = q := by omega
              have hzz : ¬ ((z : Nat) : Int) < (z : Int) := by omega
              have HOV : Hid (OwnM W6 (byVoters V ms) (.slice va nv vc) wr) := Lib.hid (by have := HO.out; rw [HQ.out, List.take_length] at this; exact this)
              have HLV : Hid ((byVoters V ms).length ≤ 60) := Lib.hid (by have := byVoters_len V ms; have := HSM.out; omega)
              have HC2 := Lib.hid (HC.out l (.slice la nl lc) wr HCL.out (by have := HLL.out; omega) HBR.out (HO6.out.next HOV.out.1).rep)
              obtain ⟨c0, c1, -, -, cz⟩ := block2' (old_below HBX3.out HBR.out)
              clear HO hnv
              go_wp2_with fail
              refine HC2.out.mono ?_
              rintro e w7 ⟨rfl, hb7⟩
              have HB7 : Hid (Below w3.heap.size w3 w7) := Lib.hid (HBR.out.trans (hb7.mono HBR.out.size))
              have HC3 := Lib.hid (HC.out (byVoters V ms) (.slice va nv vc) w7 (by rw [HY.out]; exact com_byVoters V ms) (by have := HLV.out; omega) HB7.out (HOV.out.next hb7).rep)
              clear hb7 c0 c1 cz
              obtain ⟨c0, c1, -, -, cz⟩ := block2' (old_below HBX3.out HB7.out)
              have qy : (y == y) = true := by simp
              go_wp2_with fail
              refine HC3.out.mono ?_
              rintro e w8 ⟨rfl, hb8⟩
              have HB8 : Hid (Below w.heap.size w w8) := Lib.hid (HB3.out.trans ((HB7.out.trans (hb8.mono HB7.out.size)).mono HB3.out.size))
              clear hb8 c0 c1 cz
              go_wp2_with fail
              go_ret
              exact ⟨by simp, HB8.out⟩
      · obtain ⟨z, rfl⟩ : ∃ z, gk = z + 1 := ⟨gk - 1, by omega⟩
        have hz : z < ms.length := by rw [← HQ.out]; omega
        have hzq : (z : Int) < (q : Int) := by omega
        have ez : ((z + 1 : Nat) : Int) - 1 = (z : Int) := by omega
        rw [ez]
        obtain ⟨b, off, rfl, -, e0, e1, hr⟩ := (HMB.out wr HBR.out).elem z hz
        obtain ⟨id, hid⟩ : ∃ id, id = ms[z].1 := ⟨_, rfl⟩
        obtain ⟨x, hx⟩ : ∃ x, x = ms[z].2 := ⟨_, rfl⟩
        have hp : ms[z] = (id, x) := by rw [hid, hx]
        rw [hp] at e0 e1 hr
        have HP : Hid ((ms.drop z).reverse = (ms.drop (z + 1)).reverse ++ [(id, x)]) := Lib.hid (by rw [back_step hz, hp])
        have HLN : Hid ((ms.drop (z + 1)).reverse.length ≤ 60) := Lib.hid (by have := HSM.out; simp; omega)
        have HR := Lib.hid hr
        obtain ⟨oa, oc, hov⟩ := HO.out.2.slice
        obtain ⟨on, hon⟩ : ∃ on, on = (ms.drop (z + 1)).reverse.length := ⟨_, rfl⟩
        rw [← hon] at hov
        subst hov
        clear hid hx hp hon hr ez
        go_wp2_with (at_builtin; refine wpList_own_match rfl (.tmp 37) (.tmp 42) rfl (w := w4) (L := (ms.drop (z + 1)).reverse) (L2 := [(id, x)]) rfl (HO.out.next (below_alloc wr _)) rfl (RepM.one' rfl HR.out) (by have := HLN.out; simp at this ⊢; omega) ?_)
        intro v2 w2 ho2 _
        rw [← HP.out] at ho2
        have HO2 := Lib.hid ho2
        clear ho2
        go_wp2_with fail
        go_roundg z
        case measure => omega
        case rel => exact ⟨by omega, by go_num, HO2⟩
  · rw [decide_eq_false hs]
    go_wp2_with fail
    refine (awake9_any _).mono ?_
    rintro e w5 ⟨rfl, hb5⟩
    have HB5 : Hid (Below w.heap.size w w5) := Lib.hid (HB3.out.trans (hb5.mono HB3.out.size))
    clear hb5
    go_wp2_with fail
    go_ret
    exact ⟨rfl, HB5.out⟩
end Go.Proofs.Ytenpbcpdecnhmaa.M
