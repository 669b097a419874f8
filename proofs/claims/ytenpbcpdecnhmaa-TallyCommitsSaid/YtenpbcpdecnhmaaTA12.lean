/- The law TallyCommits. -/
import Derived.Test.YtenpbcpdecnhmaaTA10
import Derived.Test.YtenpbcpdecnhmaaTA11
import Derived.Deep.RegionHeld
namespace Go.Proofs.Ytenpbcpdecnhmaa.M
open Go.RowKit

set_option maxRecDepth 20000 in
set_option maxHeartbeats 3200000 in
theorem TallyCommits_any (V Ls : List Int) (ms : List (Int × Int)) (vv lv mv : Value) (w : World) (hv : RepI w (fun k => k < w.heap.size) V vv) (hl : RepI w (fun k => k < w.heap.size) Ls lv) (hm : RepM w (fun k => k < w.heap.size) ms mv) :
    Calls Try.prog 3 #[.agg #[vv, lv], mv] w fun e w' => e = .returned (.bool true) ∧ Below w.heap.size w w' := by
  obtain ⟨a, k, rfl, -⟩ := hv.slice
  obtain ⟨a', k', rfl, -⟩ := hl.slice
  obtain ⟨ma, mk, rfl, hqb⟩ := hm.slice
  obtain ⟨n, hn⟩ : ∃ n, n = V.length := ⟨_, rfl⟩
  obtain ⟨m, hm2⟩ : ∃ m, m = Ls.length := ⟨_, rfl⟩
  obtain ⟨q, hq⟩ : ∃ q, q = ms.length := ⟨_, rfl⟩
  rw [← hn] at hv ⊢
  rw [← hm2] at hl ⊢
  rw [← hq] at hm hqb ⊢
  obtain ⟨W, hW⟩ : ∃ W, W = w.alloc (.cells #[.slice a n k, .slice a' m k'] 24) := ⟨_, rfl⟩
  have HB : Hid (Below w.heap.size w W) := Lib.hid (by rw [hW]; exact below_alloc _ _)
  obtain ⟨g, hg⟩ : ∃ g, g = w.heap.size := ⟨_, rfl⟩
  have HBX : Hid (W.heap[g]? = some (.cells #[.slice a n k, .slice a' m k'] 24)) := Lib.hid (by rw [hW, hg]; exact heap_alloc_new w _)
  have HV := Lib.hid hv
  have HL := Lib.hid hl
  have HM := Lib.hid hm
  have HN := Lib.hid hn
  have HM2 := Lib.hid hm2
  have HQ := Lib.hid hq
  have HW := Lib.hid hW
  have HG := Lib.hid hg
  clear hv hl hm hn hm2 hq hW hg
  go_enter Try.func3, Try.ntmps3
  go_wp2_with fail
  rw [← HG.out, ← HW.out]
  refine (awake9_any W).mono ?_
  rintro e w2 ⟨rfl, hb2⟩
  have HB2 : Hid (Below w.heap.size w w2) := Lib.hid (HB.out.trans (hb2.mono HB.out.size))
  have HBX2 := Lib.hid (old_below HBX.out hb2)
  obtain ⟨c0, c1, -, -, cz⟩ := block2' HBX2.out
  clear hb2
  go_wp2_with fail
  have HS := Lib.hid (small_any V Ls (fun k => k < w.heap.size) _ _ w2 (HV.out.below (fun k hk => hk) HB2.out) (HL.out.below (fun k hk => hk) HB2.out))
  rw [← HN.out, ← HM2.out] at HS
  refine HS.out.mono ?_
  rintro e w3 ⟨rfl, hb3⟩
  have HB3 : Hid (Below w.heap.size w w3) := Lib.hid (HB2.out.trans (hb3.mono HB2.out.size))
  have HBX3 := Lib.hid (old_below HBX2.out hb3)
  clear hb3 c0 c1 cz HS
  by_cases hs : n ≤ 60 ∧ m ≤ 60
  · rw [decide_eq_true hs]
    by_cases hp : q > 60
    · have q1 : decide ((q : Int) > 60) = true := decide_eq_true (by omega)
      go_wp2_with fail
      refine (awake9_any _).mono ?_
      rintro e w5 ⟨rfl, hb5⟩
      have HB5 : Hid (Below w.heap.size w w5) := Lib.hid (HB3.out.trans (hb5.mono HB3.out.size))
      clear hb5
      go_wp2_with fail
      go_ret
      exact ⟨rfl, HB5.out⟩
    have q1 : decide ((q : Int) > 60) = false := decide_eq_false (by omega)
    obtain ⟨c0, c1, -, -, cz⟩ := block2' HBX3.out
    have HSM : Hid (V.length ≤ 60 ∧ ms.length ≤ 60) := Lib.hid (by rw [← HN.out, ← HQ.out]; omega)
    obtain ⟨y, hy⟩ : ∃ y, y = comOf V ms := ⟨_, rfl⟩
    have HC1 : Hid (∀ w' : World, Below w3.heap.size w3 w' → Calls Try.prog 10 #[.agg #[.slice a n k, .slice a' m k'], .slice ma q mk] w' fun e w'' => e = .returned (.int .i64 y) ∧ Below w'.heap.size w' w'') := Lib.hid fun w' hb' => by
      have hb := HB3.out.trans (hb'.mono HB3.out.size)
      have hk : ∀ k, k < w.heap.size → k < w'.heap.size := fun k hk => Nat.lt_of_lt_of_le hk hb.size
      rw [hy]
      exact Commit_any V Ls ms (fun k => k < w.heap.size) (fun k => k < w.heap.size) _ _ _ w' (HV.out.below (fun k hk => hk) hb) (HL.out.below (fun k hk => hk) hb) hk (HM.out.below (fun k hk => hk) hb) hk (by have := HSM.out; omega) (by have := HSM.out; omega)
    have HC2 : Hid (∀ w' : World, Below w3.heap.size w3 w' → Calls Try.prog 11 #[.agg #[.slice a n k, .slice a' m k'], .slice ma q mk] w' fun e w'' => e = .returned (.int .i64 y) ∧ Below w'.heap.size w' w'') := Lib.hid fun w' hb' => by
      have hb := HB3.out.trans (hb'.mono HB3.out.size)
      have hk : ∀ k, k < w.heap.size → k < w'.heap.size := fun k hk => Nat.lt_of_lt_of_le hk hb.size
      rw [hy]
      exact RefCommit_any V Ls ms (fun k => k < w.heap.size) (fun k => k < w.heap.size) _ _ _ w' (HV.out.below (fun k hk => hk) hb) (HL.out.below (fun k hk => hk) hb) hk (HM.out.below (fun k hk => hk) hb) hk (by have := HSM.out; omega)
    have r0 : ∀ w' : World, Below w3.heap.size w3 w' → w'.cell? ⟨g, 0, none⟩ = some (.slice a n k) := fun w' hb' => (block2' (old_below HBX3.out hb')).1
    have r1 : ∀ w' : World, Below w3.heap.size w3 w' → w'.cell? ⟨g, 1, none⟩ = some (.slice a' m k') := fun w' hb' => (block2' (old_below HBX3.out hb')).2.1
    have hS : Below w3.heap.size w3 w3.drew := (Below.refl _ _).drew
    clear hy hs
    go_wp2_with fail
    refine wp_region_held (S := fun w' => Below w3.heap.size w3 w') (by kernel_rfl) ?_
    refine H_take (i := 0) (v := ?_) rfl (by as_aux_lemma => kernel_rfl) (by as_aux_lemma => kernel_rfl) (by as_aux_lemma => kernel_rfl) (fun _ _ _ h => h) (by rfl) hS ?_ ?_
    rotate_left
    · intro w' hw'; go_simp; with_reducible rfl
    go_simp
    refine H_take (i := 1) (v := ?_) rfl (by as_aux_lemma => kernel_rfl) (by as_aux_lemma => kernel_rfl) (by as_aux_lemma => kernel_rfl) (fun _ _ _ h => h) (by rfl) hS ?_ ?_
    rotate_left
    · intro w' hw'; go_simp; with_reducible rfl
    go_simp
    refine H_take (i := 3) (v := ?_) rfl (by as_aux_lemma => kernel_rfl) (by as_aux_lemma => kernel_rfl) (by as_aux_lemma => kernel_rfl) (fun _ _ _ h => h) (by rfl) hS ?_ ?_
    rotate_left
    · intro w' hw'; go_simp; with_reducible rfl
    go_simp
    refine H_take (i := 4) (v := ?_) rfl (by as_aux_lemma => kernel_rfl) (by as_aux_lemma => kernel_rfl) (by as_aux_lemma => kernel_rfl) (fun _ _ _ h => h) (by rfl) hS ?_ ?_
    rotate_left
    · intro w' hw'; go_simp; with_reducible rfl
    go_simp
    refine H_one (i := 2) (by as_aux_lemma => kernel_rfl) rfl (by rfl) ?_
    go_simp
    refine (HC1.out _ hS).mono ?_
    rintro e w4 ⟨rfl, hb4⟩
    have hS4 : Below w3.heap.size w3 w4 := hS.trans (hb4.mono hS.size)
    refine ⟨hS4, ?_⟩
    go_simp
    refine H_one (i := 5) (by as_aux_lemma => kernel_rfl) rfl (by rfl) ?_
    go_simp
    refine (HC2.out _ hS4).mono ?_
    rintro e w5 ⟨rfl, hb5⟩
    have hS5 : Below w3.heap.size w3 w5 := hS4.trans (hb5.mono hS4.size)
    refine ⟨hS5, ?_⟩
    go_simp
    refine H_take (i := 6) (v := ?_) rfl (by as_aux_lemma => kernel_rfl) (by as_aux_lemma => kernel_rfl) (by as_aux_lemma => kernel_rfl) (fun _ _ _ h => h) (by rfl) hS5 ?_ ?_
    rotate_left
    · intro w' hw'; go_simp; with_reducible rfl
    go_simp
    refine H_take (i := 7) (v := ?_) rfl (by as_aux_lemma => kernel_rfl) (by as_aux_lemma => kernel_rfl) (by as_aux_lemma => kernel_rfl) (fun _ _ _ h => h) (by rfl) hS5 ?_ ?_
    rotate_left
    · intro w' hw'; go_simp; with_reducible rfl
    go_simp
    refine wpAnyH_done (by as_aux_lemma => kernel_rfl) ?_ _
    go_wp2_with fail
    go_ret
    exact ⟨by simp, HB3.out.trans (hS5.mono HB3.out.size)⟩
  · rw [decide_eq_false hs]
    go_wp2_with fail
    refine (awake9_any _).mono ?_
    rintro e w5 ⟨rfl, hb5⟩
    have HB5 : Hid (Below w.heap.size w w5) := Lib.hid (HB3.out.trans (hb5.mono HB3.out.size))
    clear hb5
    go_wp2_with fail
    go_ret
    exact ⟨rfl, HB5.out⟩
end Go.Proofs.Ytenpbcpdecnhmaa.M
