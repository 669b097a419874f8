/- The statement MembersRights: whatever the input it answers true. -/
import Derived.Test.YtfdlpmphgojlhaaMM14
import Derived.Test.YtfdlpmphgojlhaaMM18
import Derived.Test.YtfdlpmphgojlhaaMM19
import Derived.Test.YtfdlpmphgojlhaaMM17
import Derived.Deep.CutRange
namespace Go.Proofs.Ytfdlpmphgojlhaa.M
open Go.RowKit

set_option maxRecDepth 100000 in
set_option maxHeartbeats 12800000 in
theorem MembersRights_any (c d : Cf) (ids : List Int) (vv lv ww mv iv : Value) (w : World) (hv : RepI w (fun k => k < w.heap.size) c.v vv) (hl : RepI w (fun k => k < w.heap.size) c.l lv) (hv' : RepI w (fun k => k < w.heap.size) d.v ww) (hl' : RepI w (fun k => k < w.heap.size) d.l mv) (hi : RepI w (fun k => k < w.heap.size) ids iv) :
    Calls Try.prog 3 #[.agg #[vv, lv], .agg #[ww, mv], iv] w fun e w' => e = .returned (.bool true) ∧ Below w.heap.size w w' := by
  obtain ⟨va, vk, hvv, hx1⟩ := hv.slice
  obtain ⟨la, lk, hlv, hx2⟩ := hl.slice
  obtain ⟨wa, wk, hww, hx3⟩ := hv'.slice
  obtain ⟨ma, mk, hmv, hx4⟩ := hl'.slice
  obtain ⟨ia, ik, hiv, hx5⟩ := hi.slice
  obtain ⟨n, hn⟩ : ∃ n, n = c.v.length := ⟨_, rfl⟩
  obtain ⟨m, hm⟩ : ∃ m, m = c.l.length := ⟨_, rfl⟩
  obtain ⟨n', hn'⟩ : ∃ n', n' = d.v.length := ⟨_, rfl⟩
  obtain ⟨m', hm'⟩ : ∃ m', m' = d.l.length := ⟨_, rfl⟩
  obtain ⟨p, hp⟩ : ∃ p, p = ids.length := ⟨_, rfl⟩
  rw [← hn] at hvv hx1
  rw [← hm] at hlv hx2
  rw [← hn'] at hww hx3
  rw [← hm'] at hmv hx4
  rw [← hp] at hiv hx5
  subst hvv hlv hww hmv hiv
  obtain ⟨W0, hW⟩ : ∃ W0, W0 = (w.alloc (.cells #[.slice va n vk, .slice la m lk] 24)).alloc (.cells #[.slice wa n' wk, .slice ma m' mk] 24) := ⟨_, rfl⟩
  have HB : Hid (Below w.heap.size w W0) := Lib.hid (by rw [hW]; exact ((Below.refl _ w).alloc (Nat.le_refl _) _).alloc (by simp) _)
  obtain ⟨gc, hgc⟩ : ∃ gc, gc = w.heap.size := ⟨_, rfl⟩
  obtain ⟨gd, hgd⟩ : ∃ gd, gd = w.heap.size + 1 := ⟨_, rfl⟩
  have HBXC : Hid (W0.heap[gc]? = some (.cells #[.slice va n vk, .slice la m lk] 24)) := Lib.hid (by rw [hW, hgc]; exact old_alloc (heap_alloc_new w _))
  have HBXD : Hid (W0.heap[gd]? = some (.cells #[.slice wa n' wk, .slice ma m' mk] 24)) := Lib.hid (by rw [hW, hgd]; exact heap_new _ _ _ (by simp))
  have HV0 := Lib.hid hv
  have HL0 := Lib.hid hl
  have HV1 := Lib.hid hv'
  have HL1 := Lib.hid hl'
  have HI0 := Lib.hid hi
  have HN := Lib.hid hn
  have HM := Lib.hid hm
  have HN' := Lib.hid hn'
  have HM' := Lib.hid hm'
  have HP := Lib.hid hp
  have HGc := Lib.hid hgc
  have HGd := Lib.hid hgd
  have HW := Lib.hid hW
  clear hv hl hv' hl' hi hn hm hn' hm' hp hgc hgd hW
  go_enter Try.func3, Try.ntmps3
  go_wp2_with fail
  rw [← HGd.out, ← HGc.out, ← HW.out]
  refine (awake8_any W0).mono ?_
  rintro e w2 ⟨rfl, hb2⟩
  have HB2 : Hid (Below w.heap.size w w2) := Lib.hid (HB.out.trans (hb2.mono HB.out.size))
  have HC2 := Lib.hid (old_below HBXC.out hb2)
  have HD2 := Lib.hid (old_below HBXD.out hb2)
  obtain ⟨c0, c1, -, -, cz⟩ := block2' HC2.out
  clear hb2
  go_wp2_with fail
  have HS := Lib.hid (small_any c (fun k => k < w.heap.size) _ _ w2 (HV0.out.below (fun k hk => hk) HB2.out) (HL0.out.below (fun k hk => hk) HB2.out))
  rw [← HN.out, ← HM.out] at HS
  refine HS.out.mono ?_
  rintro e w3 ⟨rfl, hb3⟩
  have HBC : Hid (Below w.heap.size w w3) := Lib.hid (HB2.out.trans (hb3.mono HB2.out.size))
  have HC3 := Lib.hid (old_below HC2.out hb3)
  have HD3 := Lib.hid (old_below HD2.out hb3)
  clear hb3 c0 c1 cz
  by_cases hs : n ≤ 60 ∧ m ≤ 60
  rotate_left
  · rw [decide_eq_false hs]
    go_wp2_with fail
    refine (awake8_any _).mono ?_
    rintro e w8 ⟨rfl, hb8⟩
    have HB8 : Hid (Below w.heap.size w w8) := Lib.hid (HBC.out.trans (hb8.mono HBC.out.size))
    clear hb8
    go_wp2_with fail
    go_ret
    exact ⟨rfl, HB8.out⟩
  rw [decide_eq_true hs]
  obtain ⟨d0, d1, -, -, dz⟩ := block2' HD3.out
  go_wp2_with fail
  have HS' := Lib.hid (small_any d (fun k => k < w.heap.size) _ _ w3 (HV1.out.below (fun k hk => hk) HBC.out) (HL1.out.below (fun k hk => hk) HBC.out))
  rw [← HN'.out, ← HM'.out] at HS'
  refine HS'.out.mono ?_
  rintro e w4 ⟨rfl, hb4⟩
  have HBC2 : Hid (Below w.heap.size w w4) := Lib.hid (HBC.out.trans (hb4.mono HBC.out.size))
  have HC4 := Lib.hid (old_below HC3.out hb4)
  have HD4 := Lib.hid (old_below HD3.out hb4)
  clear hb4 d0 d1 dz HBC
  have HBC := HBC2
  clear HBC2
  by_cases hs' : n' ≤ 60 ∧ m' ≤ 60
  rotate_left
  · rw [decide_eq_false hs']
    go_wp2_with fail
    refine (awake8_any _).mono ?_
    rintro e w8 ⟨rfl, hb8⟩
    have HB8 : Hid (Below w.heap.size w w8) := Lib.hid (HBC.out.trans (hb8.mono HBC.out.size))
    clear hb8
    go_wp2_with fail
    go_ret
    exact ⟨rfl, HB8.out⟩
  rw [decide_eq_true hs']
  by_cases hp : p > 60
  · have q1 : decide ((p : Int) > 60) = true := decide_eq_true (by omega)
    go_wp2_with fail
    refine (awake8_any _).mono ?_
    rintro e w8 ⟨rfl, hb8⟩
    have HB8 : Hid (Below w.heap.size w w8) := Lib.hid (HBC.out.trans (hb8.mono HBC.out.size))
    clear hb8
    go_wp2_with fail
    go_ret
    exact ⟨rfl, HB8.out⟩
  have q1 : decide ((p : Int) > 60) = false := decide_eq_false (by omega)
  have HSM : Hid (c.v.length ≤ 60 ∧ c.l.length ≤ 60 ∧ d.v.length ≤ 60 ∧ d.l.length ≤ 60 ∧ ids.length ≤ 60) := Lib.hid (by rw [← HN.out, ← HM.out, ← HP.out, ← HN'.out, ← HM'.out]; omega)
  obtain ⟨W, hWW⟩ : ∃ W, W = w4 := ⟨_, rfl⟩
  subst hWW
  have HLT : Hid (∀ {z : List Int} {u : Value}, RepI w (fun k => k < w.heap.size) z u → ∀ w', Below W.heap.size W w' → RepI w' (fun k => k < W.heap.size) z u) := Lib.hid fun h w' hb' =>
    ((h.below (fun k hk => hk) HBC.out).below (fun k hk => Nat.lt_of_lt_of_le hk HBC.out.size) hb').same (fun k hk => Nat.lt_of_lt_of_le hk HBC.out.size) fun _ _ => rfl
  obtain ⟨ya, hya⟩ : ∃ ya, ya = yes c.ok := ⟨_, rfl⟩
  obtain ⟨yd, hyd⟩ : ∃ yd, yd = yes d.ok := ⟨_, rfl⟩
  have HRC : Hid (∀ w', Below W.heap.size W w' → Calls Try.prog 10 #[.agg #[.slice va n vk, .slice la m lk]] w' fun e w'' => e = .returned (.bool ya) ∧ Below w'.heap.size w' w'') := Lib.hid fun w' hb' => by
    rw [hya]; exact RefRight_any c (fun k => k < W.heap.size) _ _ w' (HLT.out HV0.out w' hb') (HLT.out HL0.out w' hb') (fun k hk => Nat.lt_of_lt_of_le hk hb'.size) (by have := HSM.out; omega)
  have HRD : Hid (∀ w', Below W.heap.size W w' → Calls Try.prog 10 #[.agg #[.slice wa n' wk, .slice ma m' mk]] w' fun e w'' => e = .returned (.bool yd) ∧ Below w'.heap.size w' w'') := Lib.hid fun w' hb' => by
    rw [hyd]; exact RefRight_any d (fun k => k < W.heap.size) _ _ w' (HLT.out HV1.out w' hb') (HLT.out HL1.out w' hb') (fun k hk => Nat.lt_of_lt_of_le hk hb'.size) (by have := HSM.out; omega)
  have HYA := Lib.hid hya
  have HYD := Lib.hid hyd
  clear hya hyd
  go_wp2_with fail
  refine wp_region_held (S := fun w' => Below W.heap.size W w') (by kernel_rfl) ?_
  have hs0 : Below W.heap.size W W.drew := below_drew1 W
  have r0 : ∀ w', Below W.heap.size W w' → w'.cell? ⟨gc, 0, none⟩ = some (.slice va n vk) := fun w' hw' => (block2' (old_below HC4.out hw')).1
  have r1 : ∀ w', Below W.heap.size W w' → w'.cell? ⟨gc, 1, none⟩ = some (.slice la m lk) := fun w' hw' => (block2' (old_below HC4.out hw')).2.1
  have r2 : ∀ w', Below W.heap.size W w' → w'.cell? ⟨gd, 0, none⟩ = some (.slice wa n' wk) := fun w' hw' => (block2' (old_below HD4.out hw')).1
  have r3 : ∀ w', Below W.heap.size W w' → w'.cell? ⟨gd, 1, none⟩ = some (.slice ma m' mk) := fun w' hw' => (block2' (old_below HD4.out hw')).2.1
  refine H_take (i := 0) (v := ?_) rfl (by as_aux_lemma => kernel_rfl) (by as_aux_lemma => kernel_rfl) (by as_aux_lemma => kernel_rfl) (fun _ _ _ h => h) (by rfl) hs0 ?_ ?_
  rotate_left
  · intro w' hw'; go_simp; with_reducible rfl
  go_simp
  refine H_take (i := 2) (v := ?_) rfl (by as_aux_lemma => kernel_rfl) (by as_aux_lemma => kernel_rfl) (by as_aux_lemma => kernel_rfl) (fun _ _ _ h => h) (by rfl) hs0 ?_ ?_
  rotate_left
  · intro w' hw'; go_simp; with_reducible rfl
  go_simp
  refine H_one (i := 1) (by as_aux_lemma => kernel_rfl) rfl (by rfl) ?_
  go_simp
  refine (HRC.out _ hs0).mono ?_
  rintro e w5 ⟨rfl, hb5⟩
  have hs1 : Below W.heap.size W w5 := hs0.trans (hb5.mono hs0.size)
  refine ⟨hs1, ?_⟩
  go_simp
  refine H_one (i := 3) (by as_aux_lemma => kernel_rfl) rfl (by rfl) ?_
  go_simp
  refine (HRD.out _ hs1).mono ?_
  rintro e w6 ⟨rfl, hb6⟩
  have hs2 : Below W.heap.size W w6 := hs1.trans (hb6.mono hs1.size)
  refine ⟨hs2, ?_⟩
  go_simp
  refine H_take (i := 4) (v := ?_) rfl (by as_aux_lemma => kernel_rfl) (by as_aux_lemma => kernel_rfl) (by as_aux_lemma => kernel_rfl) (fun _ _ _ h => h) (by rfl) hs2 ?_ ?_
  rotate_left
  · intro w' hw'; go_simp; with_reducible rfl
  go_simp
  refine H_take (i := 5) (v := ?_) rfl (by as_aux_lemma => kernel_rfl) (by as_aux_lemma => kernel_rfl) (by as_aux_lemma => kernel_rfl) (fun _ _ _ h => h) (by rfl) hs2 ?_ ?_
  rotate_left
  · intro w' hw'; go_simp; with_reducible rfl
  go_simp
  refine wpAnyH_done (by as_aux_lemma => kernel_rfl) ?_ _
  have HB6 := Lib.hid hs2
  clear hs0 hs1 hs2 hb5 hb6 r0 r1 r2 r3
  obtain ⟨ym, hym⟩ : ∃ ym, ym = yes (maj c ids) := ⟨_, rfl⟩
  have HK1 : Hid (∀ (w' : World) (b : Nat), Below W.heap.size W w' → w'.heap[b]? = some (.cells #[.slice va n vk, .slice la m lk] 24) → Calls Try.prog 11 #[.slice (some ⟨b, 0, none⟩) 1 1] w' fun e w'' => e = .returned (.bool ya) ∧ Below w'.heap.size w' w'') := Lib.hid fun w' b hb' hx => by
    have h := Right_any [⟨c, .slice va n vk, .slice la m lk⟩] (fun k => k < w'.heap.size) (.slice (some ⟨b, 0, none⟩) 1 1) w'
      ⟨fun q hq => by
        rw [List.mem_singleton.1 hq]
        exact ⟨(HLT.out HV0.out w' hb').same (fun k hk => Nat.lt_of_lt_of_le hk hb'.size) fun _ _ => rfl, (HLT.out HL0.out w' hb').same (fun k hk => Nat.lt_of_lt_of_le hk hb'.size) fun _ _ => rfl, by have := HSM.out; show c.v.length + c.l.length ≤ _; omega⟩, .inr ⟨_, 0, 1, rfl, lt_of_heap hx, by simp, by omega, fun j hj => by
        obtain rfl : j = 0 := by simpa using hj
        exact ⟨cell_of_row _ _ 0 _ _ _ hx, cell_of_row _ _ 1 _ _ _ hx⟩⟩⟩ (fun k hk => hk)
    rw [show yes (∀ q ∈ [(⟨c, .slice va n vk, .slice la m lk⟩ : Cm)], q.c.ok) = ya from by rw [HYA.out]; exact yes_congr ⟨fun h => h _ (List.mem_cons_self ..), fun h q hq => by rw [List.mem_singleton.1 hq]; exact h⟩] at h
    exact h
  have HK2 : Hid (∀ (w' : World) (b : Nat), Below W.heap.size W w' → w'.heap[b]? = some (.cells #[.slice va n vk, .slice la m lk, .slice wa n' wk, .slice ma m' mk] 24) → Calls Try.prog 11 #[.slice (some ⟨b, 0, none⟩) 2 2] w' fun e w'' => e = .returned (.bool (ya && yd)) ∧ Below w'.heap.size w' w'') := Lib.hid fun w' b hb' hx => by
    have h := Right_any [⟨c, .slice va n vk, .slice la m lk⟩, ⟨d, .slice wa n' wk, .slice ma m' mk⟩] (fun k => k < w'.heap.size) (.slice (some ⟨b, 0, none⟩) 2 2) w'
      ⟨fun q hq => by
        simp only [List.mem_cons, List.not_mem_nil, or_false] at hq
        rcases hq with rfl | rfl
        · exact ⟨(HLT.out HV0.out w' hb').same (fun k hk => Nat.lt_of_lt_of_le hk hb'.size) fun _ _ => rfl, (HLT.out HL0.out w' hb').same (fun k hk => Nat.lt_of_lt_of_le hk hb'.size) fun _ _ => rfl, by have := HSM.out; show c.v.length + c.l.length ≤ _; omega⟩
        · exact ⟨(HLT.out HV1.out w' hb').same (fun k hk => Nat.lt_of_lt_of_le hk hb'.size) fun _ _ => rfl, (HLT.out HL1.out w' hb').same (fun k hk => Nat.lt_of_lt_of_le hk hb'.size) fun _ _ => rfl, by have := HSM.out; show d.v.length + d.l.length ≤ _; omega⟩, .inr ⟨_, 0, 2, rfl, lt_of_heap hx, by simp, by omega, fun j hj => by
        have hj2 : j < 2 := by simpa using hj
        rcases (show j = 0 ∨ j = 1 by omega) with rfl | rfl
        · exact ⟨cell_of_row _ _ 0 _ _ _ hx, cell_of_row _ _ 1 _ _ _ hx⟩
        · exact ⟨cell_of_row _ _ 2 _ _ _ hx, cell_of_row _ _ 3 _ _ _ hx⟩⟩⟩ (fun k hk => hk)
    rw [show yes (∀ q ∈ [(⟨c, .slice va n vk, .slice la m lk⟩ : Cm), ⟨d, .slice wa n' wk, .slice ma m' mk⟩], q.c.ok) = (ya && yd) from by
      rw [HYA.out, HYD.out]
      refine yes_of ?_
      rw [Bool.and_eq_true, yes_iff, yes_iff]
      exact ⟨fun h q hq => by
        simp only [List.mem_cons, List.not_mem_nil, or_false] at hq
        rcases hq with rfl | rfl
        · exact h.1
        · exact h.2, fun h => ⟨h _ (List.mem_cons_self ..), h _ (List.mem_cons_of_mem _ (List.mem_cons_self ..))⟩⟩] at h
    exact h
  have HK3 : Hid (∀ w' : World, Calls Try.prog 11 #[.slice none 0 0] w' fun e w'' => e = .returned (.bool true) ∧ Below w'.heap.size w' w'') := Lib.hid fun w' => by
    have h := Right_any [] (fun k => k < w'.heap.size) (.slice none 0 0) w' ⟨fun _ h => by simp at h, .inl ⟨rfl, Bare.nil⟩⟩ (fun k hk => hk)
    rw [yes_t (fun _ h => by simp at h)] at h
    exact h
  have HK4 : Hid (∀ w' : World, Below W.heap.size W w' → Calls Try.prog 12 #[.agg #[.slice va n vk, .slice la m lk], .slice ia p ik] w' fun e w'' => e = .returned (.bool ym) ∧ Below w'.heap.size w' w'') := Lib.hid fun w' hb' => by
    rw [hym]; exact Majority_any c ids (fun k => k < W.heap.size) (fun k => k < W.heap.size) _ _ _ w' (HLT.out HV0.out w' hb') (HLT.out HL0.out w' hb') (fun k hk => Nat.lt_of_lt_of_le hk hb'.size) (by have := HSM.out; omega) (HLT.out HI0.out w' hb') (fun k hk => Nat.lt_of_lt_of_le hk hb'.size) (by have := HSM.out; omega)
  have HK5 : Hid (∀ w' : World, Below W.heap.size W w' → Calls Try.prog 13 #[.agg #[.slice va n vk, .slice la m lk], .slice ia p ik] w' fun e w'' => e = .returned (.bool ym) ∧ Below w'.heap.size w' w'') := Lib.hid fun w' hb' => by
    rw [hym]; exact RefMajority_any c ids (fun k => k < W.heap.size) (fun k => k < W.heap.size) _ _ _ w' (HLT.out HV0.out w' hb') (HLT.out HL0.out w' hb') (fun k hk => Nat.lt_of_lt_of_le hk hb'.size) (by have := HSM.out; omega) (HLT.out HI0.out w' hb') (fun k hk => Nat.lt_of_lt_of_le hk hb'.size)
  have HK6 : Hid (∀ w' : World, Below W.heap.size W w' → Calls Try.prog 14 #[.agg #[.slice va n vk, .slice la m lk]] w' fun e w'' => e = .returned (.int .i64 ((n / 2 + 1 : Nat) : Int)) ∧ Below w'.heap.size w' w'') := Lib.hid fun w' hb' => by
    rw [HN.out]; exact Quorum_any c (fun k => k < W.heap.size) _ _ w' (HLT.out HV0.out w' hb' |> fun h => by rw [← HN.out]; exact h) (HLT.out HL0.out w' hb') (by have := HSM.out; omega)
  clear hym
  go_upto_region 4 with fail
  go_cut [75] from 37 to 75 (fun x w' => x = .bool false ∧ Hid (Below W.heap.size W w'))
  case first =>
    have hq : (n : Int).tdiv 2 = ((n / 2 : Nat) : Int) := by rw [Int.tdiv_eq_ediv_of_nonneg (by omega)]; rfl
    have hqw : IntKind.i64.wrap (((n / 2 : Nat) : Int) + 1) = ((n / 2 + 1 : Nat) : Int) := by rw [IntWalk.i64_in _ (by omega)]; rfl
    have r0 : ∀ w', Below W.heap.size W w' → w'.cell? ⟨gc, 0, none⟩ = some (.slice va n vk) := fun w' hw' => (block2' (old_below HC4.out hw')).1
    have r1 : ∀ w', Below W.heap.size W w' → w'.cell? ⟨gc, 1, none⟩ = some (.slice la m lk) := fun w' hw' => (block2' (old_below HC4.out hw')).2.1
    have r2 : ∀ w', Below W.heap.size W w' → w'.cell? ⟨gd, 0, none⟩ = some (.slice wa n' wk) := fun w' hw' => (block2' (old_below HD4.out hw')).1
    have r3 : ∀ w', Below W.heap.size W w' → w'.cell? ⟨gd, 1, none⟩ = some (.slice ma m' mk) := fun w' hw' => (block2' (old_below HD4.out hw')).2.1
    cases ya with
    | true =>
      refine wp_region_held (S := fun w' => Below W.heap.size W w') (by kernel_rfl) ?_
      have hs0 : Below W.heap.size W w6.drew := HB6.out.drew
      refine H_take (i := 0) (v := ?_) rfl (by as_aux_lemma => kernel_rfl) (by as_aux_lemma => kernel_rfl) (by as_aux_lemma => kernel_rfl) (fun _ _ _ h => h) (by rfl) hs0 ?_ ?_
      rotate_left
      · intro w' hw'; go_simp; with_reducible rfl
      go_simp
      refine H_take (i := 3) (v := ?_) rfl (by as_aux_lemma => kernel_rfl) (by as_aux_lemma => kernel_rfl) (by as_aux_lemma => kernel_rfl) (fun _ _ _ h => h) (by rfl) hs0 ?_ ?_
      rotate_left
      · intro w' hw'; go_simp; with_reducible rfl
      go_simp
      refine H_one (i := 1) (by as_aux_lemma => kernel_rfl) rfl (by rfl) ?_
      go_simp
      obtain ⟨w7, hw7⟩ : ∃ w7, w7 = (w6.alloc (.cells #[.slice va n vk, .slice la m lk] 24)).drew := ⟨_, rfl⟩
      obtain ⟨g7, hg7⟩ : ∃ g7, g7 = w6.heap.size := ⟨_, rfl⟩
      have hx7 : w7.heap[g7]? = some (.cells #[.slice va n vk, .slice la m lk] 24) := by rw [hw7, hg7]; exact heap_alloc_new w6 _
      have hs7 : Below W.heap.size W w7 := by rw [hw7]; exact (HB6.out.alloc HB6.out.size _).drew
      rw [← hw7, ← hg7]
      clear hw7 hg7 hs0
      refine ⟨hs7, ?_⟩
      refine H_one (i := 2) (by as_aux_lemma => kernel_rfl) rfl (by rfl) ?_
      go_simp
      refine (HK1.out w7 g7 hs7 hx7).mono ?_
      rintro e w8 ⟨rfl, hb8⟩
      have hs8 : Below W.heap.size W w8 := hs7.trans (hb8.mono hs7.size)
      clear hb8 hx7 hs7
      refine ⟨hs8, ?_⟩
      go_simp
      refine H_take (i := 4) (v := ?_) rfl (by as_aux_lemma => kernel_rfl) (by as_aux_lemma => kernel_rfl) (by as_aux_lemma => kernel_rfl) (fun _ _ _ h => h) (by rfl) hs8 ?_ ?_
      rotate_left
      · intro w' hw'; go_simp; with_reducible rfl
      go_simp
      refine H_take (i := 5) (v := ?_) rfl (by as_aux_lemma => kernel_rfl) (by as_aux_lemma => kernel_rfl) (by as_aux_lemma => kernel_rfl) (fun _ _ _ h => h) (by rfl) hs8 ?_ ?_
      rotate_left
      · intro w' hw'; go_simp; with_reducible rfl
      go_simp
      refine H_take (i := 6) (v := ?_) rfl (by as_aux_lemma => kernel_rfl) (by as_aux_lemma => kernel_rfl) (by as_aux_lemma => kernel_rfl) (fun _ _ _ h => h) (by rfl) hs8 ?_ ?_
      rotate_left
      · intro w' hw'; go_simp; with_reducible rfl
      go_simp
      refine H_take (i := 7) (v := ?_) rfl (by as_aux_lemma => kernel_rfl) (by as_aux_lemma => kernel_rfl) (by as_aux_lemma => kernel_rfl) (fun _ _ _ h => h) (by rfl) hs8 ?_ ?_
      rotate_left
      · intro w' hw'; go_simp; with_reducible rfl
      go_simp
      refine H_take (i := 10) (v := ?_) rfl (by as_aux_lemma => kernel_rfl) (by as_aux_lemma => kernel_rfl) (by as_aux_lemma => kernel_rfl) (fun _ _ _ h => h) (by rfl) hs8 ?_ ?_
      rotate_left
      · intro w' hw'; go_simp; with_reducible rfl
      go_simp
      refine H_one (i := 8) (by as_aux_lemma => kernel_rfl) rfl (by rfl) ?_
      go_simp
      obtain ⟨w9, hw9⟩ : ∃ w9, w9 = w8.alloc (.cells #[.slice va n vk, .slice la m lk, .slice wa n' wk, .slice ma m' mk] 24) := ⟨_, rfl⟩
      obtain ⟨g9, hg9⟩ : ∃ g9, g9 = w8.heap.size := ⟨_, rfl⟩
      have hx9 : w9.heap[g9]? = some (.cells #[.slice va n vk, .slice la m lk, .slice wa n' wk, .slice ma m' mk] 24) := by rw [hw9, hg9]; exact heap_alloc_new w8 _
      have hs9 : Below W.heap.size W w9 := by rw [hw9]; exact hs8.alloc hs8.size _
      rw [← hw9, ← hg9]
      clear hw9 hg9 hs8
      refine ⟨hs9, ?_⟩
      refine H_one (i := 9) (by as_aux_lemma => kernel_rfl) rfl (by rfl) ?_
      go_simp
      refine (HK2.out w9 g9 hs9 hx9).mono ?_
      rintro e w10 ⟨rfl, hb10⟩
      have hs10 : Below W.heap.size W w10 := hs9.trans (hb10.mono hs9.size)
      clear hb10 hx9 hs9
      refine ⟨hs10, ?_⟩
      go_simp
      refine H_take (i := 11) (v := ?_) rfl (by as_aux_lemma => kernel_rfl) (by as_aux_lemma => kernel_rfl) (by as_aux_lemma => kernel_rfl) (fun _ _ _ h => h) (by rfl) hs10 ?_ ?_
      rotate_left
      · intro w' hw'; go_simp; with_reducible rfl
      go_simp
      refine H_take (i := 12) (v := ?_) rfl (by as_aux_lemma => kernel_rfl) (by as_aux_lemma => kernel_rfl) (by as_aux_lemma => kernel_rfl) (fun _ _ _ h => h) (by rfl) hs10 ?_ ?_
      rotate_left
      · intro w' hw'; go_simp; with_reducible rfl
      go_simp
      refine H_take (i := 13) (v := ?_) rfl (by as_aux_lemma => kernel_rfl) (by as_aux_lemma => kernel_rfl) (by as_aux_lemma => kernel_rfl) (fun _ _ _ h => h) (by rfl) hs10 ?_ ?_
      rotate_left
      · intro w' hw'; go_simp; with_reducible rfl
      go_simp
      refine H_take (i := 14) (v := ?_) rfl (by as_aux_lemma => kernel_rfl) (by as_aux_lemma => kernel_rfl) (by as_aux_lemma => kernel_rfl) (fun _ _ _ h => h) (by rfl) hs10 ?_ ?_
      rotate_left
      · intro w' hw'; go_simp; with_reducible rfl
      go_simp
      refine H_take (i := 15) (v := ?_) rfl (by as_aux_lemma => kernel_rfl) (by as_aux_lemma => kernel_rfl) (by as_aux_lemma => kernel_rfl) (fun _ _ _ h => h) (by rfl) hs10 ?_ ?_
      rotate_left
      · intro w' hw'; go_simp; with_reducible rfl
      go_simp
      refine H_take (i := 16) (v := ?_) rfl (by as_aux_lemma => kernel_rfl) (by as_aux_lemma => kernel_rfl) (by as_aux_lemma => kernel_rfl) (fun _ _ _ h => h) (by rfl) hs10 ?_ ?_
      rotate_left
      · intro w' hw'; go_simp; with_reducible rfl
      go_simp
      refine H_one (i := 17) (by as_aux_lemma => kernel_rfl) rfl (by rfl) ?_
      go_simp
      refine (HK3.out w10).mono ?_
      rintro e w11 ⟨rfl, hb11⟩
      have hs11 : Below W.heap.size W w11 := hs10.trans (hb11.mono hs10.size)
      clear hb11 hs10
      refine ⟨hs11, ?_⟩
      go_simp
      refine H_take (i := 18) (v := ?_) rfl (by as_aux_lemma => kernel_rfl) (by as_aux_lemma => kernel_rfl) (by as_aux_lemma => kernel_rfl) (fun _ _ _ h => h) (by rfl) hs11 ?_ ?_
      rotate_left
      · intro w' hw'; go_simp; with_reducible rfl
      go_simp
      refine H_take (i := 19) (v := ?_) rfl (by as_aux_lemma => kernel_rfl) (by as_aux_lemma => kernel_rfl) (by as_aux_lemma => kernel_rfl) (fun _ _ _ h => h) (by rfl) hs11 ?_ ?_
      rotate_left
      · intro w' hw'; go_simp; with_reducible rfl
      go_simp
      refine H_take (i := 20) (v := ?_) rfl (by as_aux_lemma => kernel_rfl) (by as_aux_lemma => kernel_rfl) (by as_aux_lemma => kernel_rfl) (fun _ _ _ h => h) (by rfl) hs11 ?_ ?_
      rotate_left
      · intro w' hw'; go_simp; with_reducible rfl
      go_simp
      refine H_take (i := 21) (v := ?_) rfl (by as_aux_lemma => kernel_rfl) (by as_aux_lemma => kernel_rfl) (by as_aux_lemma => kernel_rfl) (fun _ _ _ h => h) (by rfl) hs11 ?_ ?_
      rotate_left
      · intro w' hw'; go_simp; with_reducible rfl
      go_simp
      refine H_take (i := 22) (v := ?_) rfl (by as_aux_lemma => kernel_rfl) (by as_aux_lemma => kernel_rfl) (by as_aux_lemma => kernel_rfl) (fun _ _ _ h => h) (by rfl) hs11 ?_ ?_
      rotate_left
      · intro w' hw'; go_simp; with_reducible rfl
      go_simp
      refine H_take (i := 24) (v := ?_) rfl (by as_aux_lemma => kernel_rfl) (by as_aux_lemma => kernel_rfl) (by as_aux_lemma => kernel_rfl) (fun _ _ _ h => h) (by rfl) hs11 ?_ ?_
      rotate_left
      · intro w' hw'; go_simp; with_reducible rfl
      go_simp
      refine H_take (i := 25) (v := ?_) rfl (by as_aux_lemma => kernel_rfl) (by as_aux_lemma => kernel_rfl) (by as_aux_lemma => kernel_rfl) (fun _ _ _ h => h) (by rfl) hs11 ?_ ?_
      rotate_left
      · intro w' hw'; go_simp; with_reducible rfl
      go_simp
      refine H_one (i := 23) (by as_aux_lemma => kernel_rfl) rfl (by rfl) ?_
      go_simp
      refine (HK4.out w11 hs11).mono ?_
      rintro e w12 ⟨rfl, hb12⟩
      have hs12 : Below W.heap.size W w12 := hs11.trans (hb12.mono hs11.size)
      clear hb12 hs11
      refine ⟨hs12, ?_⟩
      go_simp
      refine H_one (i := 26) (by as_aux_lemma => kernel_rfl) rfl (by rfl) ?_
      go_simp
      refine (HK5.out w12 hs12).mono ?_
      rintro e w13 ⟨rfl, hb13⟩
      have hs13 : Below W.heap.size W w13 := hs12.trans (hb13.mono hs12.size)
      clear hb13 hs12
      refine ⟨hs13, ?_⟩
      go_simp
      refine H_take (i := 27) (v := ?_) rfl (by as_aux_lemma => kernel_rfl) (by as_aux_lemma => kernel_rfl) (by as_aux_lemma => kernel_rfl) (fun _ _ _ h => h) (by rfl) hs13 ?_ ?_
      rotate_left
      · intro w' hw'; go_simp; with_reducible rfl
      go_simp
      refine H_take (i := 28) (v := ?_) rfl (by as_aux_lemma => kernel_rfl) (by as_aux_lemma => kernel_rfl) (by as_aux_lemma => kernel_rfl) (fun _ _ _ h => h) (by rfl) hs13 ?_ ?_
      rotate_left
      · intro w' hw'; go_simp; with_reducible rfl
      go_simp
      refine H_take (i := 29) (v := ?_) rfl (by as_aux_lemma => kernel_rfl) (by as_aux_lemma => kernel_rfl) (by as_aux_lemma => kernel_rfl) (fun _ _ _ h => h) (by rfl) hs13 ?_ ?_
      rotate_left
      · intro w' hw'; go_simp; with_reducible rfl
      go_simp
      refine H_take (i := 30) (v := ?_) rfl (by as_aux_lemma => kernel_rfl) (by as_aux_lemma => kernel_rfl) (by as_aux_lemma => kernel_rfl) (fun _ _ _ h => h) (by rfl) hs13 ?_ ?_
      rotate_left
      · intro w' hw'; go_simp; with_reducible rfl
      go_simp
      refine H_take (i := 32) (v := ?_) rfl (by as_aux_lemma => kernel_rfl) (by as_aux_lemma => kernel_rfl) (by as_aux_lemma => kernel_rfl) (fun _ _ _ h => h) (by rfl) hs13 ?_ ?_
      rotate_left
      · intro w' hw'; go_simp; with_reducible rfl
      go_simp
      refine H_take (i := 33) (v := ?_) rfl (by as_aux_lemma => kernel_rfl) (by as_aux_lemma => kernel_rfl) (by as_aux_lemma => kernel_rfl) (fun _ _ _ h => h) (by rfl) hs13 ?_ ?_
      rotate_left
      · intro w' hw'; go_simp; with_reducible rfl
      go_simp
      refine H_take (i := 34) (v := ?_) rfl (by as_aux_lemma => kernel_rfl) (by as_aux_lemma => kernel_rfl) (by as_aux_lemma => kernel_rfl) (fun _ _ _ h => h) (by rfl) hs13 ?_ ?_
      rotate_left
      · intro w' hw'; go_simp; with_reducible rfl
      go_simp
      refine H_take (i := 35) (v := ?_) rfl (by as_aux_lemma => kernel_rfl) (by as_aux_lemma => kernel_rfl) (by as_aux_lemma => kernel_rfl) (fun _ _ _ h => h) (by rfl) hs13 ?_ ?_
      rotate_left
      · intro w' hw'; go_simp; with_reducible rfl
      go_simp
      refine H_take (i := 36) (v := ?_) rfl (by as_aux_lemma => kernel_rfl) (by as_aux_lemma => kernel_rfl) (by as_aux_lemma => kernel_rfl) (fun _ _ _ h => h) (by rfl) hs13 ?_ ?_
      rotate_left
      · intro w' hw'; go_simp; with_reducible rfl
      go_simp
      refine H_one (i := 31) (by as_aux_lemma => kernel_rfl) rfl (by rfl) ?_
      go_simp
      refine (HK6.out w13 hs13).mono ?_
      rintro e w14 ⟨rfl, hb14⟩
      have hs14 : Below W.heap.size W w14 := hs13.trans (hb14.mono hs13.size)
      clear hb14 hs13
      refine ⟨hs14, ?_⟩
      go_simp
      refine H_take (i := 37) (v := ?_) rfl (by as_aux_lemma => kernel_rfl) (by as_aux_lemma => kernel_rfl) (by as_aux_lemma => kernel_rfl) (fun _ _ _ h => h) (by rfl) hs14 ?_ ?_
      rotate_left
      · intro w' hw'; go_simp; with_reducible rfl
      go_simp
      refine H_take (i := 38) (v := ?_) rfl (by as_aux_lemma => kernel_rfl) (by as_aux_lemma => kernel_rfl) (by as_aux_lemma => kernel_rfl) (fun _ _ _ h => h) (by rfl) hs14 ?_ ?_
      rotate_left
      · intro w' hw'; go_simp; with_reducible rfl
      go_simp
      refine wpAnyH_done (by as_aux_lemma => kernel_rfl) ?_ _
      have HS14 := Lib.hid hs14
      clear hs14 r0 r1 r2 r3
      go_wp2_with fail
      have hfin : ((n : Int) / 2 + 1 != IntKind.i64.wrap (IntKind.i64.wrap ((n : Int) / 2) + 1)) = false := by
        rw [IntWalk.i64_in ((n : Int) / 2) (by omega), IntWalk.i64_in ((n : Int) / 2 + 1) (by omega)]; simp
      go_meet
      case rel => exact ⟨by rw [hfin], HS14⟩
    | false =>
      refine wp_region_held (S := fun w' => Below W.heap.size W w') (by kernel_rfl) ?_
      have hs0 : Below W.heap.size W w6.drew := HB6.out.drew
      refine H_take (i := 0) (v := ?_) rfl (by as_aux_lemma => kernel_rfl) (by as_aux_lemma => kernel_rfl) (by as_aux_lemma => kernel_rfl) (fun _ _ _ h => h) (by rfl) hs0 ?_ ?_
      rotate_left
      · intro w' hw'; go_simp; with_reducible rfl
      go_simp
      refine H_take (i := 3) (v := ?_) rfl (by as_aux_lemma => kernel_rfl) (by as_aux_lemma => kernel_rfl) (by as_aux_lemma => kernel_rfl) (fun _ _ _ h => h) (by rfl) hs0 ?_ ?_
      rotate_left
      · intro w' hw'; go_simp; with_reducible rfl
      go_simp
      refine H_one (i := 1) (by as_aux_lemma => kernel_rfl) rfl (by rfl) ?_
      go_simp
      obtain ⟨w7, hw7⟩ : ∃ w7, w7 = (w6.alloc (.cells #[.slice va n vk, .slice la m lk] 24)).drew := ⟨_, rfl⟩
      obtain ⟨g7, hg7⟩ : ∃ g7, g7 = w6.heap.size := ⟨_, rfl⟩
      have hx7 : w7.heap[g7]? = some (.cells #[.slice va n vk, .slice la m lk] 24) := by rw [hw7, hg7]; exact heap_alloc_new w6 _
      have hs7 : Below W.heap.size W w7 := by rw [hw7]; exact (HB6.out.alloc HB6.out.size _).drew
      rw [← hw7, ← hg7]
      clear hw7 hg7 hs0
      refine ⟨hs7, ?_⟩
      refine H_one (i := 2) (by as_aux_lemma => kernel_rfl) rfl (by rfl) ?_
      go_simp
      refine (HK1.out w7 g7 hs7 hx7).mono ?_
      rintro e w8 ⟨rfl, hb8⟩
      have hs8 : Below W.heap.size W w8 := hs7.trans (hb8.mono hs7.size)
      clear hb8 hx7 hs7
      refine ⟨hs8, ?_⟩
      go_simp
      refine H_take (i := 4) (v := ?_) rfl (by as_aux_lemma => kernel_rfl) (by as_aux_lemma => kernel_rfl) (by as_aux_lemma => kernel_rfl) (fun _ _ _ h => h) (by rfl) hs8 ?_ ?_
      rotate_left
      · intro w' hw'; go_simp; with_reducible rfl
      go_simp
      refine H_take (i := 5) (v := ?_) rfl (by as_aux_lemma => kernel_rfl) (by as_aux_lemma => kernel_rfl) (by as_aux_lemma => kernel_rfl) (fun _ _ _ h => h) (by rfl) hs8 ?_ ?_
      rotate_left
      · intro w' hw'; go_simp; with_reducible rfl
      go_simp
      refine H_take (i := 6) (v := ?_) rfl (by as_aux_lemma => kernel_rfl) (by as_aux_lemma => kernel_rfl) (by as_aux_lemma => kernel_rfl) (fun _ _ _ h => h) (by rfl) hs8 ?_ ?_
      rotate_left
      · intro w' hw'; go_simp; with_reducible rfl
      go_simp
      refine H_take (i := 7) (v := ?_) rfl (by as_aux_lemma => kernel_rfl) (by as_aux_lemma => kernel_rfl) (by as_aux_lemma => kernel_rfl) (fun _ _ _ h => h) (by rfl) hs8 ?_ ?_
      rotate_left
      · intro w' hw'; go_simp; with_reducible rfl
      go_simp
      refine H_take (i := 10) (v := ?_) rfl (by as_aux_lemma => kernel_rfl) (by as_aux_lemma => kernel_rfl) (by as_aux_lemma => kernel_rfl) (fun _ _ _ h => h) (by rfl) hs8 ?_ ?_
      rotate_left
      · intro w' hw'; go_simp; with_reducible rfl
      go_simp
      refine H_one (i := 8) (by as_aux_lemma => kernel_rfl) rfl (by rfl) ?_
      go_simp
      obtain ⟨w9, hw9⟩ : ∃ w9, w9 = w8.alloc (.cells #[.slice va n vk, .slice la m lk, .slice wa n' wk, .slice ma m' mk] 24) := ⟨_, rfl⟩
      obtain ⟨g9, hg9⟩ : ∃ g9, g9 = w8.heap.size := ⟨_, rfl⟩
      have hx9 : w9.heap[g9]? = some (.cells #[.slice va n vk, .slice la m lk, .slice wa n' wk, .slice ma m' mk] 24) := by rw [hw9, hg9]; exact heap_alloc_new w8 _
      have hs9 : Below W.heap.size W w9 := by rw [hw9]; exact hs8.alloc hs8.size _
      rw [← hw9, ← hg9]
      clear hw9 hg9 hs8
      refine ⟨hs9, ?_⟩
      refine H_one (i := 9) (by as_aux_lemma => kernel_rfl) rfl (by rfl) ?_
      go_simp
      refine (HK2.out w9 g9 hs9 hx9).mono ?_
      rintro e w10 ⟨rfl, hb10⟩
      have hs10 : Below W.heap.size W w10 := hs9.trans (hb10.mono hs9.size)
      clear hb10 hx9 hs9
      refine ⟨hs10, ?_⟩
      go_simp
      refine H_take (i := 11) (v := ?_) rfl (by as_aux_lemma => kernel_rfl) (by as_aux_lemma => kernel_rfl) (by as_aux_lemma => kernel_rfl) (fun _ _ _ h => h) (by rfl) hs10 ?_ ?_
      rotate_left
      · intro w' hw'; go_simp; with_reducible rfl
      go_simp
      refine H_skip (i := 12) rfl (by as_aux_lemma => kernel_rfl) (by as_aux_lemma => kernel_rfl) (by as_aux_lemma => kernel_rfl) (fun _ _ _ h => h) (by rfl) hs10 ?_
      go_simp
      refine H_take (i := 13) (v := ?_) rfl (by as_aux_lemma => kernel_rfl) (by as_aux_lemma => kernel_rfl) (by as_aux_lemma => kernel_rfl) (fun _ _ _ h => h) (by rfl) hs10 ?_ ?_
      rotate_left
      · intro w' hw'; go_simp; with_reducible rfl
      go_simp
      refine H_take (i := 14) (v := ?_) rfl (by as_aux_lemma => kernel_rfl) (by as_aux_lemma => kernel_rfl) (by as_aux_lemma => kernel_rfl) (fun _ _ _ h => h) (by rfl) hs10 ?_ ?_
      rotate_left
      · intro w' hw'; go_simp; with_reducible rfl
      go_simp
      refine H_take (i := 15) (v := ?_) rfl (by as_aux_lemma => kernel_rfl) (by as_aux_lemma => kernel_rfl) (by as_aux_lemma => kernel_rfl) (fun _ _ _ h => h) (by rfl) hs10 ?_ ?_
      rotate_left
      · intro w' hw'; go_simp; with_reducible rfl
      go_simp
      refine H_take (i := 16) (v := ?_) rfl (by as_aux_lemma => kernel_rfl) (by as_aux_lemma => kernel_rfl) (by as_aux_lemma => kernel_rfl) (fun _ _ _ h => h) (by rfl) hs10 ?_ ?_
      rotate_left
      · intro w' hw'; go_simp; with_reducible rfl
      go_simp
      refine H_one (i := 17) (by as_aux_lemma => kernel_rfl) rfl (by rfl) ?_
      go_simp
      refine (HK3.out w10).mono ?_
      rintro e w11 ⟨rfl, hb11⟩
      have hs11 : Below W.heap.size W w11 := hs10.trans (hb11.mono hs10.size)
      clear hb11 hs10
      refine ⟨hs11, ?_⟩
      go_simp
      refine H_take (i := 18) (v := ?_) rfl (by as_aux_lemma => kernel_rfl) (by as_aux_lemma => kernel_rfl) (by as_aux_lemma => kernel_rfl) (fun _ _ _ h => h) (by rfl) hs11 ?_ ?_
      rotate_left
      · intro w' hw'; go_simp; with_reducible rfl
      go_simp
      refine H_take (i := 19) (v := ?_) rfl (by as_aux_lemma => kernel_rfl) (by as_aux_lemma => kernel_rfl) (by as_aux_lemma => kernel_rfl) (fun _ _ _ h => h) (by rfl) hs11 ?_ ?_
      rotate_left
      · intro w' hw'; go_simp; with_reducible rfl
      go_simp
      refine H_take (i := 20) (v := ?_) rfl (by as_aux_lemma => kernel_rfl) (by as_aux_lemma => kernel_rfl) (by as_aux_lemma => kernel_rfl) (fun _ _ _ h => h) (by rfl) hs11 ?_ ?_
      rotate_left
      · intro w' hw'; go_simp; with_reducible rfl
      go_simp
      refine H_take (i := 21) (v := ?_) rfl (by as_aux_lemma => kernel_rfl) (by as_aux_lemma => kernel_rfl) (by as_aux_lemma => kernel_rfl) (fun _ _ _ h => h) (by rfl) hs11 ?_ ?_
      rotate_left
      · intro w' hw'; go_simp; with_reducible rfl
      go_simp
      refine H_take (i := 22) (v := ?_) rfl (by as_aux_lemma => kernel_rfl) (by as_aux_lemma => kernel_rfl) (by as_aux_lemma => kernel_rfl) (fun _ _ _ h => h) (by rfl) hs11 ?_ ?_
      rotate_left
      · intro w' hw'; go_simp; with_reducible rfl
      go_simp
      refine H_take (i := 24) (v := ?_) rfl (by as_aux_lemma => kernel_rfl) (by as_aux_lemma => kernel_rfl) (by as_aux_lemma => kernel_rfl) (fun _ _ _ h => h) (by rfl) hs11 ?_ ?_
      rotate_left
      · intro w' hw'; go_simp; with_reducible rfl
      go_simp
      refine H_take (i := 25) (v := ?_) rfl (by as_aux_lemma => kernel_rfl) (by as_aux_lemma => kernel_rfl) (by as_aux_lemma => kernel_rfl) (fun _ _ _ h => h) (by rfl) hs11 ?_ ?_
      rotate_left
      · intro w' hw'; go_simp; with_reducible rfl
      go_simp
      refine H_one (i := 23) (by as_aux_lemma => kernel_rfl) rfl (by rfl) ?_
      go_simp
      refine (HK4.out w11 hs11).mono ?_
      rintro e w12 ⟨rfl, hb12⟩
      have hs12 : Below W.heap.size W w12 := hs11.trans (hb12.mono hs11.size)
      clear hb12 hs11
      refine ⟨hs12, ?_⟩
      go_simp
      refine H_one (i := 26) (by as_aux_lemma => kernel_rfl) rfl (by rfl) ?_
      go_simp
      refine (HK5.out w12 hs12).mono ?_
      rintro e w13 ⟨rfl, hb13⟩
      have hs13 : Below W.heap.size W w13 := hs12.trans (hb13.mono hs12.size)
      clear hb13 hs12
      refine ⟨hs13, ?_⟩
      go_simp
      refine H_take (i := 27) (v := ?_) rfl (by as_aux_lemma => kernel_rfl) (by as_aux_lemma => kernel_rfl) (by as_aux_lemma => kernel_rfl) (fun _ _ _ h => h) (by rfl) hs13 ?_ ?_
      rotate_left
      · intro w' hw'; go_simp; with_reducible rfl
      go_simp
      refine H_take (i := 28) (v := ?_) rfl (by as_aux_lemma => kernel_rfl) (by as_aux_lemma => kernel_rfl) (by as_aux_lemma => kernel_rfl) (fun _ _ _ h => h) (by rfl) hs13 ?_ ?_
      rotate_left
      · intro w' hw'; go_simp; with_reducible rfl
      go_simp
      refine H_take (i := 29) (v := ?_) rfl (by as_aux_lemma => kernel_rfl) (by as_aux_lemma => kernel_rfl) (by as_aux_lemma => kernel_rfl) (fun _ _ _ h => h) (by rfl) hs13 ?_ ?_
      rotate_left
      · intro w' hw'; go_simp; with_reducible rfl
      go_simp
      refine H_take (i := 30) (v := ?_) rfl (by as_aux_lemma => kernel_rfl) (by as_aux_lemma => kernel_rfl) (by as_aux_lemma => kernel_rfl) (fun _ _ _ h => h) (by rfl) hs13 ?_ ?_
      rotate_left
      · intro w' hw'; go_simp; with_reducible rfl
      go_simp
      refine H_take (i := 32) (v := ?_) rfl (by as_aux_lemma => kernel_rfl) (by as_aux_lemma => kernel_rfl) (by as_aux_lemma => kernel_rfl) (fun _ _ _ h => h) (by rfl) hs13 ?_ ?_
      rotate_left
      · intro w' hw'; go_simp; with_reducible rfl
      go_simp
      refine H_take (i := 33) (v := ?_) rfl (by as_aux_lemma => kernel_rfl) (by as_aux_lemma => kernel_rfl) (by as_aux_lemma => kernel_rfl) (fun _ _ _ h => h) (by rfl) hs13 ?_ ?_
      rotate_left
      · intro w' hw'; go_simp; with_reducible rfl
      go_simp
      refine H_take (i := 34) (v := ?_) rfl (by as_aux_lemma => kernel_rfl) (by as_aux_lemma => kernel_rfl) (by as_aux_lemma => kernel_rfl) (fun _ _ _ h => h) (by rfl) hs13 ?_ ?_
      rotate_left
      · intro w' hw'; go_simp; with_reducible rfl
      go_simp
      refine H_take (i := 35) (v := ?_) rfl (by as_aux_lemma => kernel_rfl) (by as_aux_lemma => kernel_rfl) (by as_aux_lemma => kernel_rfl) (fun _ _ _ h => h) (by rfl) hs13 ?_ ?_
      rotate_left
      · intro w' hw'; go_simp; with_reducible rfl
      go_simp
      refine H_take (i := 36) (v := ?_) rfl (by as_aux_lemma => kernel_rfl) (by as_aux_lemma => kernel_rfl) (by as_aux_lemma => kernel_rfl) (fun _ _ _ h => h) (by rfl) hs13 ?_ ?_
      rotate_left
      · intro w' hw'; go_simp; with_reducible rfl
      go_simp
      refine H_one (i := 31) (by as_aux_lemma => kernel_rfl) rfl (by rfl) ?_
      go_simp
      refine (HK6.out w13 hs13).mono ?_
      rintro e w14 ⟨rfl, hb14⟩
      have hs14 : Below W.heap.size W w14 := hs13.trans (hb14.mono hs13.size)
      clear hb14 hs13
      refine ⟨hs14, ?_⟩
      go_simp
      refine H_take (i := 37) (v := ?_) rfl (by as_aux_lemma => kernel_rfl) (by as_aux_lemma => kernel_rfl) (by as_aux_lemma => kernel_rfl) (fun _ _ _ h => h) (by rfl) hs14 ?_ ?_
      rotate_left
      · intro w' hw'; go_simp; with_reducible rfl
      go_simp
      refine H_take (i := 38) (v := ?_) rfl (by as_aux_lemma => kernel_rfl) (by as_aux_lemma => kernel_rfl) (by as_aux_lemma => kernel_rfl) (fun _ _ _ h => h) (by rfl) hs14 ?_ ?_
      rotate_left
      · intro w' hw'; go_simp; with_reducible rfl
      go_simp
      refine wpAnyH_done (by as_aux_lemma => kernel_rfl) ?_ _
      have HS14 := Lib.hid hs14
      clear hs14 r0 r1 r2 r3
      go_wp2_with fail
      have hfin : ((n : Int) / 2 + 1 != IntKind.i64.wrap (IntKind.i64.wrap ((n : Int) / 2) + 1)) = false := by
        rw [IntWalk.i64_in ((n : Int) / 2) (by omega), IntWalk.i64_in ((n : Int) / 2 + 1) (by omega)]; simp
      go_meet
      case rel => exact ⟨by rw [hfin], HS14⟩
  case rest =>
    obtain ⟨rfl, HBR⟩ := hcut
    clear HK1 HK2 HK3 HK4 HK5 HK6 HRC HRD HB6
    go_wp2_with fail
    obtain ⟨w0, hw0⟩ : ∃ w0 : World, w0 = wc := ⟨_, rfl⟩
    subst hw0
    go_loopg [9] p (fun gk i wr => ∃ z : Nat, z + gk = p ∧ i = .int .i64 (z : Int) ∧ Hid (Below W.heap.size W wr))
    case atStart => exact ⟨0, by omega, rfl, HBR⟩
    case round =>
      obtain ⟨z, hz, rfl, HB⟩ := hrel
      by_cases hlt : z < p
      · have hkk : (z : Int) < (p : Int) := by omega
        have hl1 : z < ids.length := by rw [← HP.out]; exact hlt
        obtain ⟨ab, ao, hab, hfb, e0, -, -⟩ := (HLT.out HI0.out wr HB.out).elem z hl1
        subst hab
        have hbz : ab < wr.heap.size := Nat.lt_of_lt_of_le hfb HB.out.size
        obtain ⟨x, hx⟩ : ∃ x, x = ids[z] := ⟨_, rfl⟩
        rw [← hx] at e0
        obtain ⟨c0, c1, -, -, cz⟩ := block2' (old_below HC4.out HB.out)
        obtain ⟨yv, hyv⟩ : ∃ yv, yv = yes (x ∈ c.v) := ⟨_, rfl⟩
        obtain ⟨yl, hyl⟩ : ∃ yl, yl = yes (x ∈ c.l) := ⟨_, rfl⟩
        have HINV : Hid (∀ s, Calls Try.prog 15 #[.slice va n vk, .int .i64 x] (wr.drewN s) fun e w' => e = .returned (.bool yv) ∧ w' = wr.drewN s) := Lib.hid fun s => by
          rw [hyv]; exact RefIn_any c.v x (fun k => k < W.heap.size) _ _ ((HLT.out HV0.out wr HB.out).same (fun _ h => h) fun _ _ => rfl)
        have HINL : Hid (∀ s, Calls Try.prog 15 #[.slice la m lk, .int .i64 x] (wr.drewN s) fun e w' => e = .returned (.bool yl) ∧ w' = wr.drewN s) := Lib.hid fun s => by
          rw [hyl]; exact RefIn_any c.l x (fun k => k < W.heap.size) _ _ ((HLT.out HL0.out wr HB.out).same (fun _ h => h) fun _ _ => rfl)
        have HVOT : Hid (∀ w', Below W.heap.size W w' → Calls Try.prog 16 #[.agg #[.slice va n vk, .slice la m lk], .int .i64 x] w' fun e w'' => e = .returned (.bool yv) ∧ Below w'.heap.size w' w'') := Lib.hid fun w' hb' => by
          rw [hyv]; exact Votes_any c x (fun k => k < W.heap.size) _ _ w' (HLT.out HV0.out w' hb') (HLT.out HL0.out w' hb') (fun k hk => Nat.lt_of_lt_of_le hk hb'.size)
        have HHAS : Hid (∀ w', Below W.heap.size W w' → Calls Try.prog 17 #[.agg #[.slice va n vk, .slice la m lk], .int .i64 x] w' fun e w'' => e = .returned (.bool (yv || yl)) ∧ Below w'.heap.size w' w'') := Lib.hid fun w' hb' => by
          rw [show (yv || yl) = yes (x ∈ c.v ∨ x ∈ c.l) from (yes_of (by rw [hyv, hyl, Bool.or_eq_true, yes_iff, yes_iff])).symm]
          exact Has_any c x (fun k => k < W.heap.size) _ _ w' (HLT.out HV0.out w' hb') (HLT.out HL0.out w' hb') (fun k hk => Nat.lt_of_lt_of_le hk hb'.size)
        have e0W : W.cell? ⟨ab, ao + z, none⟩ = some (.int .i64 x) := (HB.out.cell (p := ⟨ab, ao + z, none⟩) hfb).symm.trans e0
        have HEL : Hid (∀ w', Below W.heap.size W w' → w'.cell? ⟨ab, ao + z, none⟩ = some (.int .i64 x)) := Lib.hid fun w' hb' => (hb'.cell (p := ⟨ab, ao + z, none⟩) hfb).trans e0W
        clear hyv hyl hx e0W
        go_wp2_with fail
        go_quiet ((go_at_call 15; first | with_reducible exact Calls.quiet_of_same (HINV.out _) | with_reducible exact Calls.quiet_of_same (HINL.out _)))
        obtain ⟨w7, hw7⟩ : ∃ w7, w7 = wr.drewN nq := ⟨_, rfl⟩
        have HB7 : Hid (Below W.heap.size W w7) := Lib.hid (by rw [hw7]; exact HB.out.trans (below_dr _ _ _))
        rw [← hw7]
        clear hw7 e0 c0 c1 cz hbz
        go_wp2_with fail
        go_upto_region 10 with fail
        go_cut [116] from 82 to 116 (fun x w' => x = .bool false ∧ Hid (Below W.heap.size W w'))
        case first =>
          have r0 : ∀ w', Below W.heap.size W w' → w'.cell? ⟨gc, 0, none⟩ = some (.slice va n vk) := fun w' hw' => (block2' (old_below HC4.out hw')).1
          have r1 : ∀ w', Below W.heap.size W w' → w'.cell? ⟨gc, 1, none⟩ = some (.slice la m lk) := fun w' hw' => (block2' (old_below HC4.out hw')).2.1
          have r4 := HEL.out
          cases yv with
          | true =>
            refine wp_region_held (S := fun w' => Below W.heap.size W w') (by kernel_rfl) ?_
            have hs7 : Below W.heap.size W w7.drew := HB7.out.drew
            refine H_take (i := 0) (v := ?_) rfl (by as_aux_lemma => kernel_rfl) (by as_aux_lemma => kernel_rfl) (by as_aux_lemma => kernel_rfl) (fun _ _ _ h => h) (by rfl) hs7 ?_ ?_
            rotate_left
            · intro w' hw'; go_simp; with_reducible rfl
            go_simp
            refine H_take (i := 1) (v := ?_) rfl (by as_aux_lemma => kernel_rfl) (by as_aux_lemma => kernel_rfl) (by as_aux_lemma => kernel_rfl) (fun _ _ _ h => h) (by rfl) hs7 ?_ ?_
            rotate_left
            · intro w' hw'; go_simp; with_reducible rfl
            go_simp
            refine H_take (i := 2) (v := ?_) rfl (by as_aux_lemma => kernel_rfl) (by as_aux_lemma => kernel_rfl) (by as_aux_lemma => kernel_rfl) (fun _ _ _ h => h) (by rfl) hs7 ?_ ?_
            rotate_left
            · intro w' hw'; go_simp; with_reducible rfl
            go_simp
            refine H_take (i := 3) (v := ?_) rfl (by as_aux_lemma => kernel_rfl) (by as_aux_lemma => kernel_rfl) (by as_aux_lemma => kernel_rfl) (fun _ _ _ h => h) (by rfl) hs7 ?_ ?_
            rotate_left
            · intro w' hw'; go_simp; with_reducible rfl
            go_simp
            refine H_take (i := 4) (v := ?_) rfl (by as_aux_lemma => kernel_rfl) (by as_aux_lemma => kernel_rfl) (by as_aux_lemma => kernel_rfl) (fun _ _ _ h => h) (by rfl) hs7 ?_ ?_
            rotate_left
            · intro w' hw'; go_simp; with_reducible rfl
            go_simp
            refine H_take (i := 6) (v := ?_) rfl (by as_aux_lemma => kernel_rfl) (by as_aux_lemma => kernel_rfl) (by as_aux_lemma => kernel_rfl) (fun _ _ _ h => h) (by rfl) hs7 ?_ ?_
            rotate_left
            · intro w' hw'; go_simp; with_reducible rfl
            go_simp
            refine H_one (i := 5) (by as_aux_lemma => kernel_rfl) rfl (by rfl) ?_
            go_simp
            refine (HVOT.out _ hs7).mono ?_
            rintro e w8 ⟨rfl, hb8⟩
            have hs8 : Below W.heap.size W w8 := hs7.trans (hb8.mono hs7.size)
            clear hb8 hs7
            refine ⟨hs8, ?_⟩
            go_simp
            refine H_take (i := 7) (v := ?_) rfl (by as_aux_lemma => kernel_rfl) (by as_aux_lemma => kernel_rfl) (by as_aux_lemma => kernel_rfl) (fun _ _ _ h => h) (by rfl) hs8 ?_ ?_
            rotate_left
            · intro w' hw'; go_simp; with_reducible rfl
            go_simp
            refine H_take (i := 8) (v := ?_) rfl (by as_aux_lemma => kernel_rfl) (by as_aux_lemma => kernel_rfl) (by as_aux_lemma => kernel_rfl) (fun _ _ _ h => h) (by rfl) hs8 ?_ ?_
            rotate_left
            · intro w' hw'; go_simp; with_reducible rfl
            go_simp
            refine H_take (i := 9) (v := ?_) rfl (by as_aux_lemma => kernel_rfl) (by as_aux_lemma => kernel_rfl) (by as_aux_lemma => kernel_rfl) (fun _ _ _ h => h) (by rfl) hs8 ?_ ?_
            rotate_left
            · intro w' hw'; go_simp; with_reducible rfl
            go_simp
            refine H_take (i := 10) (v := ?_) rfl (by as_aux_lemma => kernel_rfl) (by as_aux_lemma => kernel_rfl) (by as_aux_lemma => kernel_rfl) (fun _ _ _ h => h) (by rfl) hs8 ?_ ?_
            rotate_left
            · intro w' hw'; go_simp; with_reducible rfl
            go_simp
            refine H_take (i := 11) (v := ?_) rfl (by as_aux_lemma => kernel_rfl) (by as_aux_lemma => kernel_rfl) (by as_aux_lemma => kernel_rfl) (fun _ _ _ h => h) (by rfl) hs8 ?_ ?_
            rotate_left
            · intro w' hw'; go_simp; with_reducible rfl
            go_simp
            refine H_take (i := 12) (v := ?_) rfl (by as_aux_lemma => kernel_rfl) (by as_aux_lemma => kernel_rfl) (by as_aux_lemma => kernel_rfl) (fun _ _ _ h => h) (by rfl) hs8 ?_ ?_
            rotate_left
            · intro w' hw'; go_simp; with_reducible rfl
            go_simp
            refine H_take (i := 13) (v := ?_) rfl (by as_aux_lemma => kernel_rfl) (by as_aux_lemma => kernel_rfl) (by as_aux_lemma => kernel_rfl) (fun _ _ _ h => h) (by rfl) hs8 ?_ ?_
            rotate_left
            · intro w' hw'; go_simp; with_reducible rfl
            go_simp
            refine H_take (i := 15) (v := ?_) rfl (by as_aux_lemma => kernel_rfl) (by as_aux_lemma => kernel_rfl) (by as_aux_lemma => kernel_rfl) (fun _ _ _ h => h) (by rfl) hs8 ?_ ?_
            rotate_left
            · intro w' hw'; go_simp; with_reducible rfl
            go_simp
            refine H_one (i := 14) (by as_aux_lemma => kernel_rfl) rfl (by rfl) ?_
            go_simp
            refine (HHAS.out _ hs8).mono ?_
            rintro e w9 ⟨rfl, hb9⟩
            have hs9 : Below W.heap.size W w9 := hs8.trans (hb9.mono hs8.size)
            clear hb9 hs8
            refine ⟨hs9, ?_⟩
            go_simp
            refine H_take (i := 16) (v := ?_) rfl (by as_aux_lemma => kernel_rfl) (by as_aux_lemma => kernel_rfl) (by as_aux_lemma => kernel_rfl) (fun _ _ _ h => h) (by rfl) hs9 ?_ ?_
            rotate_left
            · intro w' hw'; go_simp; with_reducible rfl
            go_simp
            refine H_skip (i := 17) rfl (by as_aux_lemma => kernel_rfl) (by as_aux_lemma => kernel_rfl) (by as_aux_lemma => kernel_rfl) (fun _ _ _ h => h) (by rfl) hs9 ?_
            go_simp
            refine H_take (i := 18) (v := ?_) rfl (by as_aux_lemma => kernel_rfl) (by as_aux_lemma => kernel_rfl) (by as_aux_lemma => kernel_rfl) (fun _ _ _ h => h) (by rfl) hs9 ?_ ?_
            rotate_left
            · intro w' hw'; go_simp; with_reducible rfl
            go_simp
            refine H_take (i := 19) (v := ?_) rfl (by as_aux_lemma => kernel_rfl) (by as_aux_lemma => kernel_rfl) (by as_aux_lemma => kernel_rfl) (fun _ _ _ h => h) (by rfl) hs9 ?_ ?_
            rotate_left
            · intro w' hw'; go_simp; with_reducible rfl
            go_simp
            refine H_take (i := 20) (v := ?_) rfl (by as_aux_lemma => kernel_rfl) (by as_aux_lemma => kernel_rfl) (by as_aux_lemma => kernel_rfl) (fun _ _ _ h => h) (by rfl) hs9 ?_ ?_
            rotate_left
            · intro w' hw'; go_simp; with_reducible rfl
            go_simp
            refine wpAnyH_done (by as_aux_lemma => kernel_rfl) ?_ _
            have HS9 := Lib.hid hs9
            clear hs9 r0 r1 r4
            go_wp2_with fail
            go_meet
            case rel => exact ⟨by simp, HS9⟩
          | false =>
            refine wp_region_held (S := fun w' => Below W.heap.size W w') (by kernel_rfl) ?_
            have hs7 : Below W.heap.size W w7.drew := HB7.out.drew
            refine H_take (i := 0) (v := ?_) rfl (by as_aux_lemma => kernel_rfl) (by as_aux_lemma => kernel_rfl) (by as_aux_lemma => kernel_rfl) (fun _ _ _ h => h) (by rfl) hs7 ?_ ?_
            rotate_left
            · intro w' hw'; go_simp; with_reducible rfl
            go_simp
            refine H_take (i := 1) (v := ?_) rfl (by as_aux_lemma => kernel_rfl) (by as_aux_lemma => kernel_rfl) (by as_aux_lemma => kernel_rfl) (fun _ _ _ h => h) (by rfl) hs7 ?_ ?_
            rotate_left
            · intro w' hw'; go_simp; with_reducible rfl
            go_simp
            refine H_take (i := 2) (v := ?_) rfl (by as_aux_lemma => kernel_rfl) (by as_aux_lemma => kernel_rfl) (by as_aux_lemma => kernel_rfl) (fun _ _ _ h => h) (by rfl) hs7 ?_ ?_
            rotate_left
            · intro w' hw'; go_simp; with_reducible rfl
            go_simp
            refine H_take (i := 3) (v := ?_) rfl (by as_aux_lemma => kernel_rfl) (by as_aux_lemma => kernel_rfl) (by as_aux_lemma => kernel_rfl) (fun _ _ _ h => h) (by rfl) hs7 ?_ ?_
            rotate_left
            · intro w' hw'; go_simp; with_reducible rfl
            go_simp
            refine H_take (i := 4) (v := ?_) rfl (by as_aux_lemma => kernel_rfl) (by as_aux_lemma => kernel_rfl) (by as_aux_lemma => kernel_rfl) (fun _ _ _ h => h) (by rfl) hs7 ?_ ?_
            rotate_left
            · intro w' hw'; go_simp; with_reducible rfl
            go_simp
            refine H_take (i := 6) (v := ?_) rfl (by as_aux_lemma => kernel_rfl) (by as_aux_lemma => kernel_rfl) (by as_aux_lemma => kernel_rfl) (fun _ _ _ h => h) (by rfl) hs7 ?_ ?_
            rotate_left
            · intro w' hw'; go_simp; with_reducible rfl
            go_simp
            refine H_one (i := 5) (by as_aux_lemma => kernel_rfl) rfl (by rfl) ?_
            go_simp
            refine (HVOT.out _ hs7).mono ?_
            rintro e w8 ⟨rfl, hb8⟩
            have hs8 : Below W.heap.size W w8 := hs7.trans (hb8.mono hs7.size)
            clear hb8 hs7
            refine ⟨hs8, ?_⟩
            go_simp
            refine H_take (i := 7) (v := ?_) rfl (by as_aux_lemma => kernel_rfl) (by as_aux_lemma => kernel_rfl) (by as_aux_lemma => kernel_rfl) (fun _ _ _ h => h) (by rfl) hs8 ?_ ?_
            rotate_left
            · intro w' hw'; go_simp; with_reducible rfl
            go_simp
            refine H_take (i := 8) (v := ?_) rfl (by as_aux_lemma => kernel_rfl) (by as_aux_lemma => kernel_rfl) (by as_aux_lemma => kernel_rfl) (fun _ _ _ h => h) (by rfl) hs8 ?_ ?_
            rotate_left
            · intro w' hw'; go_simp; with_reducible rfl
            go_simp
            refine H_take (i := 9) (v := ?_) rfl (by as_aux_lemma => kernel_rfl) (by as_aux_lemma => kernel_rfl) (by as_aux_lemma => kernel_rfl) (fun _ _ _ h => h) (by rfl) hs8 ?_ ?_
            rotate_left
            · intro w' hw'; go_simp; with_reducible rfl
            go_simp
            refine H_take (i := 10) (v := ?_) rfl (by as_aux_lemma => kernel_rfl) (by as_aux_lemma => kernel_rfl) (by as_aux_lemma => kernel_rfl) (fun _ _ _ h => h) (by rfl) hs8 ?_ ?_
            rotate_left
            · intro w' hw'; go_simp; with_reducible rfl
            go_simp
            refine H_take (i := 11) (v := ?_) rfl (by as_aux_lemma => kernel_rfl) (by as_aux_lemma => kernel_rfl) (by as_aux_lemma => kernel_rfl) (fun _ _ _ h => h) (by rfl) hs8 ?_ ?_
            rotate_left
            · intro w' hw'; go_simp; with_reducible rfl
            go_simp
            refine H_take (i := 12) (v := ?_) rfl (by as_aux_lemma => kernel_rfl) (by as_aux_lemma => kernel_rfl) (by as_aux_lemma => kernel_rfl) (fun _ _ _ h => h) (by rfl) hs8 ?_ ?_
            rotate_left
            · intro w' hw'; go_simp; with_reducible rfl
            go_simp
            refine H_take (i := 13) (v := ?_) rfl (by as_aux_lemma => kernel_rfl) (by as_aux_lemma => kernel_rfl) (by as_aux_lemma => kernel_rfl) (fun _ _ _ h => h) (by rfl) hs8 ?_ ?_
            rotate_left
            · intro w' hw'; go_simp; with_reducible rfl
            go_simp
            refine H_take (i := 15) (v := ?_) rfl (by as_aux_lemma => kernel_rfl) (by as_aux_lemma => kernel_rfl) (by as_aux_lemma => kernel_rfl) (fun _ _ _ h => h) (by rfl) hs8 ?_ ?_
            rotate_left
            · intro w' hw'; go_simp; with_reducible rfl
            go_simp
            refine H_one (i := 14) (by as_aux_lemma => kernel_rfl) rfl (by rfl) ?_
            go_simp
            refine (HHAS.out _ hs8).mono ?_
            rintro e w9 ⟨rfl, hb9⟩
            have hs9 : Below W.heap.size W w9 := hs8.trans (hb9.mono hs8.size)
            clear hb9 hs8
            refine ⟨hs9, ?_⟩
            go_simp
            refine H_take (i := 16) (v := ?_) rfl (by as_aux_lemma => kernel_rfl) (by as_aux_lemma => kernel_rfl) (by as_aux_lemma => kernel_rfl) (fun _ _ _ h => h) (by rfl) hs9 ?_ ?_
            rotate_left
            · intro w' hw'; go_simp; with_reducible rfl
            go_simp
            refine H_take (i := 17) (v := ?_) rfl (by as_aux_lemma => kernel_rfl) (by as_aux_lemma => kernel_rfl) (by as_aux_lemma => kernel_rfl) (fun _ _ _ h => h) (by rfl) hs9 ?_ ?_
            rotate_left
            · intro w' hw'; go_simp; with_reducible rfl
            go_simp
            refine H_take (i := 18) (v := ?_) rfl (by as_aux_lemma => kernel_rfl) (by as_aux_lemma => kernel_rfl) (by as_aux_lemma => kernel_rfl) (fun _ _ _ h => h) (by rfl) hs9 ?_ ?_
            rotate_left
            · intro w' hw'; go_simp; with_reducible rfl
            go_simp
            refine H_take (i := 19) (v := ?_) rfl (by as_aux_lemma => kernel_rfl) (by as_aux_lemma => kernel_rfl) (by as_aux_lemma => kernel_rfl) (fun _ _ _ h => h) (by rfl) hs9 ?_ ?_
            rotate_left
            · intro w' hw'; go_simp; with_reducible rfl
            go_simp
            refine H_take (i := 20) (v := ?_) rfl (by as_aux_lemma => kernel_rfl) (by as_aux_lemma => kernel_rfl) (by as_aux_lemma => kernel_rfl) (fun _ _ _ h => h) (by rfl) hs9 ?_ ?_
            rotate_left
            · intro w' hw'; go_simp; with_reducible rfl
            go_simp
            refine wpAnyH_done (by as_aux_lemma => kernel_rfl) ?_ _
            have HS9 := Lib.hid hs9
            clear hs9 r0 r1 r4
            go_wp2_with fail
            go_meet
            case rel => exact ⟨by simp, HS9⟩
        case rest =>
          obtain ⟨rfl, HBC3⟩ := hcut
          go_wp2_with fail
          go_roundg (gk - 1)
          case measure => omega
          case rel => exact ⟨z + 1, by omega, by go_num, HBC3⟩
      · obtain rfl : z = p := by omega
        have hkk : ¬ ((z : Nat) : Int) < (z : Int) := by omega
        obtain ⟨c0, c1, -, -, cz⟩ := block2' (old_below HC4.out HB.out)
        have HALL := Lib.hid (All_any c (fun k => k < W.heap.size) _ _ wr (HLT.out HV0.out wr HB.out) (HLT.out HL0.out wr HB.out) (fun k hk => Nat.lt_of_lt_of_le hk HB.out.size) (by have := HSM.out; omega))
        go_wp2_with fail
        refine HALL.out.mono ?_
        rintro e w7 ⟨v7, rfl, ho7⟩
        obtain ⟨S, hS⟩ : ∃ S, S = sortN (c.v ++ c.l) := ⟨_, rfl⟩
        have HSP : Hid (S.Pairwise (· ≤ ·) ∧ (∀ x, x ∈ S ↔ x ∈ c.v ∨ x ∈ c.l) ∧ S.length = n + m) := Lib.hid (by
          rw [hS]
          exact ⟨sortN_le _, fun x => by rw [sortN_mem, List.mem_append], by rw [sortN_len, List.length_append, HN.out, HM.out]⟩)
        rw [← hS] at ho7
        have HBA : Hid (Below W.heap.size W w7) := Lib.hid (HB.out.trans (ho7.1.mono HB.out.size))
        obtain ⟨sa, sk, hsv⟩ := ho7.2.slice
        obtain ⟨sn, hsn⟩ : ∃ sn, sn = S.length := ⟨_, rfl⟩
        have hsn2 : sn = n + m := by rw [hsn]; exact HSP.out.2.2
        rw [← hsn, hsn2] at hsv
        subst hsv
        have HSR : Hid (∀ w', Below w7.heap.size w7 w' → RepI w' (fun k => k < w7.heap.size) S (.slice sa (n + m) sk)) := Lib.hid fun w' hb' => (ho7.2.rep.same (G := fun k => k < w7.heap.size) (fun k hk => hk.2) fun _ _ => rfl).below (fun k hk => hk) hb'
        clear hS ho7 hsn hsn2 c0 c1 cz
        obtain ⟨c0, c1, -, -, cz⟩ := block2' (old_below HC4.out HBA.out)
        have qn : (((n + m : Nat) : Int) != (n : Int) + (m : Int)) = false := by simp
        go_wp2_with fail
        obtain ⟨wq, hwq⟩ : ∃ wq : World, wq = w7 := ⟨_, rfl⟩
        subst hwq
        clear c0 c1 cz hkk hlt hz qn
        have HBS : Hid (∀ w', Below wq.heap.size wq w' → Below W.heap.size W w') := Lib.hid fun w' hb' => HBA.out.trans (hb'.mono HBA.out.size)
        go_loopg [13] (n + m) (fun gk i wr => ∃ z : Nat, z + gk = n + m ∧ i = .int .i64 (z : Int) ∧ Hid (Below wq.heap.size wq wr))
        case atStart => exact ⟨0, by omega, rfl, Lib.hid (Below.refl _ _)⟩
        case round =>
          obtain ⟨z, hz, rfl, HB⟩ := hrel
          by_cases hlt : z < n + m
          · have hkk : (z : Int) < ((n + m : Nat) : Int) := by omega
            have hl1 : z < S.length := by rw [HSP.out.2.2]; exact hlt
            obtain ⟨ab, ao, hab, hfb, e0, -, -⟩ := (HSR.out wr HB.out).elem z hl1
            subst hab
            have hmem := (HSP.out.2.1 _).1 (List.getElem_mem hl1)
            have hple : ∀ h0 : 0 < z, S[z - 1] ≤ S[z] := fun h0 => List.pairwise_iff_getElem.1 HSP.out.1 (z - 1) z (by omega) hl1 (by omega)
            have he3 : ∀ h0 : 0 < z, wr.cell? ⟨ab, ao + (z - 1), none⟩ = some (.int .i64 S[z - 1]) := fun h0 => by
              obtain ⟨b', o', hh, -, h1, -⟩ := (HSR.out wr HB.out).elem (z - 1) (by omega)
              cases hh
              exact h1
            obtain ⟨x, hx⟩ : ∃ x, x = S[z] := ⟨_, rfl⟩
            rw [← hx] at e0 hmem hple
            obtain ⟨c0, c1, -, -, cz⟩ := block2' (old_below HC4.out (HBS.out _ HB.out))
            have HINV : Hid (∀ s, Calls Try.prog 15 #[.slice va n vk, .int .i64 x] (wr.drewN s) fun e w' => e = .returned (.bool (yes (x ∈ c.v))) ∧ w' = wr.drewN s) := Lib.hid fun s =>
              RefIn_any c.v x (fun k => k < W.heap.size) _ _ ((HLT.out HV0.out wr (HBS.out _ HB.out)).same (fun _ h => h) fun _ _ => rfl)
            have HINL : Hid (∀ s, Calls Try.prog 15 #[.slice la m lk, .int .i64 x] (wr.drewN s) fun e w' => e = .returned (.bool (yes (x ∈ c.l))) ∧ w' = wr.drewN s) := Lib.hid fun s =>
              RefIn_any c.l x (fun k => k < W.heap.size) _ _ ((HLT.out HL0.out wr (HBS.out _ HB.out)).same (fun _ h => h) fun _ _ => rfl)
            by_cases h0 : 0 < z
            · have q0 : decide ((z : Int) > 0) = true := decide_eq_true (by omega)
              have e3 := he3 h0
              have hle := hple h0
              obtain ⟨u, hu⟩ : ∃ u, u = S[z - 1] := ⟨_, rfl⟩
              rw [← hu] at e3 hle
              have q3 : decide (u > x) = false := decide_eq_false (by omega)
              have hk1 : IntKind.i64.wrap ((z : Int) - 1) = ((z - 1 : Nat) : Int) := by rw [IntWalk.i64_in _ (by omega)]; omega
              have hk2 : ((z - 1 : Nat) : Int) < ((n + m : Nat) : Int) := by omega
              clear hx hu hple he3 hle
              by_cases hxv : x ∈ c.v
              · rw [yes_t hxv] at HINV
                clear hxv hmem
                go_wp2_with fail
                go_quiet ((go_at_call 15; first | with_reducible exact Calls.quiet_of_same (HINV.out _) | with_reducible exact Calls.quiet_of_same (HINL.out _)))
                go_wp2_with fail
                go_roundg (gk - 1)
                case measure => omega
                case rel => exact ⟨z + 1, by omega, by go_num, Lib.hid (HB.out.trans (below_dr _ _ _))⟩
              · have hxl : x ∈ c.l := hmem.resolve_left hxv
                rw [yes_f hxv] at HINV
                rw [yes_t hxl] at HINL
                clear hxv hmem hxl
                go_wp2_with fail
                go_quiet ((go_at_call 15; first | with_reducible exact Calls.quiet_of_same (HINV.out _) | with_reducible exact Calls.quiet_of_same (HINL.out _)))
                go_wp2_with fail
                go_roundg (gk - 1)
                case measure => omega
                case rel => exact ⟨z + 1, by omega, by go_num, Lib.hid (HB.out.trans (below_dr _ _ _))⟩
            · have q0 : decide ((z : Int) > 0) = false := decide_eq_false (by omega)
              clear hx hple he3
              by_cases hxv : x ∈ c.v
              · rw [yes_t hxv] at HINV
                clear hxv hmem
                go_wp2_with fail
                go_quiet ((go_at_call 15; first | with_reducible exact Calls.quiet_of_same (HINV.out _) | with_reducible exact Calls.quiet_of_same (HINL.out _)))
                go_wp2_with fail
                go_roundg (gk - 1)
                case measure => omega
                case rel => exact ⟨z + 1, by omega, by go_num, Lib.hid (HB.out.trans (below_dr _ _ _))⟩
              · have hxl : x ∈ c.l := hmem.resolve_left hxv
                rw [yes_f hxv] at HINV
                rw [yes_t hxl] at HINL
                clear hxv hmem hxl
                go_wp2_with fail
                go_quiet ((go_at_call 15; first | with_reducible exact Calls.quiet_of_same (HINV.out _) | with_reducible exact Calls.quiet_of_same (HINL.out _)))
                go_wp2_with fail
                go_roundg (gk - 1)
                case measure => omega
                case rel => exact ⟨z + 1, by omega, by go_num, Lib.hid (HB.out.trans (below_dr _ _ _))⟩
          · obtain rfl : z = n + m := by omega
            have hkk : ¬ ((n + m : Nat) : Int) < ((n + m : Nat) : Int) := by omega
            clear hlt hz
            go_wp2_with fail
            obtain ⟨wp, hwp⟩ : ∃ wp : World, wp = wr := ⟨_, rfl⟩
            subst hwp
            have HBP := HB
            obtain ⟨c0, c1, -, -, cz⟩ := block2' (old_below HC4.out (HBS.out _ HBP.out))
            go_loopg [14] n (fun gk i wr => ∃ z : Nat, z + gk = n ∧ i = .int .i64 (z : Int) ∧ Hid (Below wq.heap.size wq wr))
            case atStart => exact ⟨0, by omega, rfl, HBP⟩
            case round =>
              obtain ⟨z, hz, rfl, HB⟩ := hrel
              clear c0 c1 cz
              obtain ⟨c0, c1, -, -, cz⟩ := block2' (old_below HC4.out (HBS.out _ HB.out))
              by_cases hlt : z < n
              · have hkk : (z : Int) < (n : Int) := by omega
                have hl1 : z < c.v.length := by rw [← HN.out]; exact hlt
                obtain ⟨ab, ao, hab, hfb, e0, -, -⟩ := (HLT.out HV0.out wr (HBS.out _ HB.out)).elem z hl1
                subst hab
                have hbz : ab < wr.heap.size := Nat.lt_of_lt_of_le hfb (HBS.out _ HB.out).size
                have hmem : c.v[z] ∈ S := (HSP.out.2.1 _).2 (.inl (List.getElem_mem hl1))
                obtain ⟨x, hx⟩ : ∃ x, x = c.v[z] := ⟨_, rfl⟩
                rw [← hx] at e0 hmem
                have HINS := Lib.hid (RefIn_any S x (fun k => k < wq.heap.size) _ wr (HSR.out wr HB.out))
                rw [yes_t hmem] at HINS
                clear hx hmem
                go_wp2_with fail
                refine HINS.out.mono ?_
                rintro e w9 ⟨rfl, rfl⟩
                go_wp2_with fail
                go_roundg (gk - 1)
                case measure => omega
                case rel => exact ⟨z + 1, by omega, by go_num, HB⟩
              · obtain rfl : z = n := by omega
                have hkk : ¬ ((z : Nat) : Int) < (z : Int) := by omega
                go_wp2_with fail
                go_ret
                exact ⟨rfl, HBC.out.trans ((HBS.out _ HB.out).mono HBC.out.size)⟩
end Go.Proofs.Ytfdlpmphgojlhaa.M
