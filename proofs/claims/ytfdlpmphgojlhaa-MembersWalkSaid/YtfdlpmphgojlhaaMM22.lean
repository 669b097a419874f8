/- The statement MembersWalk: whatever the input it answers true. -/
import Derived.Test.YtfdlpmphgojlhaaMM18
import Derived.Test.YtfdlpmphgojlhaaMM19
import Derived.Test.YtfdlpmphgojlhaaMM20
import Derived.Test.YtfdlpmphgojlhaaMM21
import Derived.Deep.CutRange
namespace Go.Proofs.Ytfdlpmphgojlhaa.M
open Go.RowKit

/-- The law's own state: what it holds, and that nothing else has turned. -/
def At (WD WX : World) (gw : Nat) (c : Cf) (w : World) : Prop := HeldAt WD gw c w ∧ Only (fun k => k = gw) WX w ∧ c.ok

theorem At.next {WD WX w w' : World} {gw : Nat} {c : Cf} (h : At WD WX gw c w) (hb : Below w.heap.size w w') : At WD WX gw c w' := ⟨h.1.next hb, h.2.1.next hb, h.2.2⟩

theorem At.row {WD WX w : World} {gw : Nat} {c : Cf} (h : At WD WX gw c w) : ∃ va vk la lk, w.heap[gw]? = some (.cells #[.slice va c.v.length vk, .slice la c.l.length lk] 24) ∧
    RepI w (fun k => k < w.heap.size) c.v (.slice va c.v.length vk) ∧ RepI w (fun k => k < w.heap.size) c.l (.slice la c.l.length lk) := by
  obtain ⟨⟨-, v, l, h1, -, h3, h4⟩, -, -⟩ := h
  obtain ⟨va, vk, rfl, -⟩ := h3.slice
  obtain ⟨la, lk, rfl, -⟩ := h4.slice
  exact ⟨va, vk, la, lk, h1, h3.same (fun k hk => hk.1) fun _ _ => rfl, h4.same (fun k hk => hk.1) fun _ _ => rfl⟩

theorem At.step {WD WX w : World} {gw : Nat} {c : Cf} (h : At WD WX gw c w) (d i : Int) (hn : (next1 c d i).2 = 0) :
    Calls Try.prog 26 #[.int .i64 d, .int .i64 i, .pointer (some ⟨gw, 0, none⟩)] w fun e w' => e = .returned (.bool true) ∧ At WD WX gw (next1 c d i).1 w' :=
  (StepW_any WD gw c d i w h.1 h.2.2 hn).mono fun _ _ hh => ⟨hh.1, hh.2.1, h.2.1.then hh.2.2, next1_ok h.2.2 hn⟩

theorem dropN_le (l : List Int) (x : Int) : (dropN l x).length ≤ l.length := List.length_filter_le _ _

theorem walk_less {c : Cf} (hc : c.ok) {x : Int} (hx : In2 c x) : (dropN c.v x).length + (dropN c.l x).length < c.v.length + c.l.length := by
  have h1 := dropN_le c.v x
  have h2 := dropN_le c.l x
  rcases hx with h | h
  · have := dropN_len hc.2.2.1.2 h; omega
  · have := dropN_len hc.2.2.2.1.2 h; omega

theorem rest_start {c a : Cf} {keep : Int} (hc : c.ok) (hk : keep ∈ c.v) (h : ∀ x, In2 c x → x = keep ∨ In2 a x) : Rest keep (a.v ++ a.l) 0 c :=
  ⟨hc, hk, fun x hx => (h x hx).imp id fun h => by rw [List.drop_zero]; exact List.mem_append.2 h⟩

set_option maxRecDepth 100000 in
set_option maxHeartbeats 12800000 in
theorem MembersWalk_any (a b : Cf) (vv lv ww mv : Value) (w : World) (hv : RepI w (fun k => k < w.heap.size) a.v vv) (hl : RepI w (fun k => k < w.heap.size) a.l lv) (hv' : RepI w (fun k => k < w.heap.size) b.v ww) (hl' : RepI w (fun k => k < w.heap.size) b.l mv) :
    Calls Try.prog 7 #[.agg #[vv, lv], .agg #[ww, mv]] w fun e w' => e = .returned (.bool true) ∧ Below w.heap.size w w' := by
  obtain ⟨va, vk, hvv, hx1⟩ := hv.slice
  obtain ⟨la, lk, hlv, hx2⟩ := hl.slice
  obtain ⟨wa, wk, hww, hx3⟩ := hv'.slice
  obtain ⟨ma, mk, hmv, hx4⟩ := hl'.slice
  obtain ⟨n, hn⟩ : ∃ n, n = a.v.length := ⟨_, rfl⟩
  obtain ⟨m, hm⟩ : ∃ m, m = a.l.length := ⟨_, rfl⟩
  obtain ⟨n', hn'⟩ : ∃ n', n' = b.v.length := ⟨_, rfl⟩
  obtain ⟨m', hm'⟩ : ∃ m', m' = b.l.length := ⟨_, rfl⟩
  rw [← hn] at hvv hx1
  rw [← hm] at hlv hx2
  rw [← hn'] at hww hx3
  rw [← hm'] at hmv hx4
  subst hvv hlv hww hmv
  obtain ⟨W0, hW⟩ : ∃ W0, W0 = (w.alloc (.cells #[.slice va n vk, .slice la m lk] 24)).alloc (.cells #[.slice wa n' wk, .slice ma m' mk] 24) := ⟨_, rfl⟩
  have HBC : Hid (Below w.heap.size w W0) := Lib.hid (by rw [hW]; exact ((Below.refl _ w).alloc (Nat.le_refl _) _).alloc (by simp) _)
  obtain ⟨ga, hga⟩ : ∃ ga, ga = w.heap.size := ⟨_, rfl⟩
  obtain ⟨gb, hgb⟩ : ∃ gb, gb = w.heap.size + 1 := ⟨_, rfl⟩
  have HA : Hid (W0.heap[ga]? = some (.cells #[.slice va n vk, .slice la m lk] 24)) := Lib.hid (by rw [hW, hga]; exact old_alloc (heap_alloc_new w _))
  have HBB : Hid (W0.heap[gb]? = some (.cells #[.slice wa n' wk, .slice ma m' mk] 24)) := Lib.hid (by rw [hW, hgb]; exact heap_new _ _ _ (by simp))
  have HV0 := Lib.hid hv
  have HL0 := Lib.hid hl
  have HV1 := Lib.hid hv'
  have HL1 := Lib.hid hl'
  have HN := Lib.hid hn
  have HM := Lib.hid hm
  have HN' := Lib.hid hn'
  have HM' := Lib.hid hm'
  have HGa := Lib.hid hga
  have HGb := Lib.hid hgb
  have HW := Lib.hid hW
  clear hv hl hv' hl' hn hm hn' hm' hga hgb hW
  go_enter Try.func7, Try.ntmps7
  go_wp2_with fail
  rw [← HGb.out, ← HGa.out, ← HW.out]
  refine (awake8_any W0).mono ?_
  rintro e we ⟨rfl, hbe⟩
  have HBC2 : Hid (Below w.heap.size w we) := Lib.hid (HBC.out.trans (hbe.mono HBC.out.size))
  have HA2 := Lib.hid (old_below HA.out hbe)
  have HBB2 := Lib.hid (old_below HBB.out hbe)
  clear hbe HBC HA HBB
  have HBC := HBC2
  have HA := HA2
  have HBB := HBB2
  clear HBC2 HA2 HBB2
  obtain ⟨c0, c1, -, -, cz⟩ := block2' HA.out
  go_wp2_with fail
  have HS := Lib.hid (small_any a (fun k => k < w.heap.size) _ _ we (HV0.out.below (fun k hk => hk) HBC.out) (HL0.out.below (fun k hk => hk) HBC.out))
  rw [← HN.out, ← HM.out] at HS
  refine HS.out.mono ?_
  rintro e we ⟨rfl, hbe⟩
  have HBC2 : Hid (Below w.heap.size w we) := Lib.hid (HBC.out.trans (hbe.mono HBC.out.size))
  have HA2 := Lib.hid (old_below HA.out hbe)
  have HBB2 := Lib.hid (old_below HBB.out hbe)
  clear hbe HBC HA HBB
  have HBC := HBC2
  have HA := HA2
  have HBB := HBB2
  clear HBC2 HA2 HBB2
  clear c0 c1 cz HS
  by_cases hs : n ≤ 60 ∧ m ≤ 60
  rotate_left
  · rw [decide_eq_false hs]
    go_wp2_with fail
    refine (awake8_any _).mono ?_
    rintro e w8 ⟨rfl, hb8⟩
    have HB8 : Hid (Below w.heap.size w w8) := Lib.hid (HBC.out.trans (hb8.mono HBC.out.size))
    clear hb8
    go_wp2_with fail
    go_ret
    exact ⟨rfl, HB8.out⟩
  rw [decide_eq_true hs]
  obtain ⟨d0, d1, -, -, dz⟩ := block2' HBB.out
  go_wp2_with fail
  have HS := Lib.hid (small_any b (fun k => k < w.heap.size) _ _ we (HV1.out.below (fun k hk => hk) HBC.out) (HL1.out.below (fun k hk => hk) HBC.out))
  rw [← HN'.out, ← HM'.out] at HS
  refine HS.out.mono ?_
  rintro e we ⟨rfl, hbe⟩
  have HBC2 : Hid (Below w.heap.size w we) := Lib.hid (HBC.out.trans (hbe.mono HBC.out.size))
  have HA2 := Lib.hid (old_below HA.out hbe)
  have HBB2 := Lib.hid (old_below HBB.out hbe)
  clear hbe HBC HA HBB
  have HBC := HBC2
  have HA := HA2
  have HBB := HBB2
  clear HBC2 HA2 HBB2
  clear d0 d1 dz HS
  by_cases hs' : n' ≤ 60 ∧ m' ≤ 60
  rotate_left
  · rw [decide_eq_false hs']
    go_wp2_with fail
    refine (awake8_any _).mono ?_
    rintro e w8 ⟨rfl, hb8⟩
    have HB8 : Hid (Below w.heap.size w w8) := Lib.hid (HBC.out.trans (hb8.mono HBC.out.size))
    clear hb8
    go_wp2_with fail
    go_ret
    exact ⟨rfl, HB8.out⟩
  rw [decide_eq_true hs']
  obtain ⟨c0, c1, -, -, cz⟩ := block2' HA.out
  go_wp2_with fail
  refine (RefRight_any a (fun k => k < w.heap.size) _ _ we (HV0.out.below (fun k hk => hk) HBC.out) (HL0.out.below (fun k hk => hk) HBC.out) (fun k hk => Nat.lt_of_lt_of_le hk HBC.out.size) (by rw [← HN.out, ← HM.out]; omega)).mono ?_
  rintro e we ⟨rfl, hbe⟩
  have HBC2 : Hid (Below w.heap.size w we) := Lib.hid (HBC.out.trans (hbe.mono HBC.out.size))
  have HA2 := Lib.hid (old_below HA.out hbe)
  have HBB2 := Lib.hid (old_below HBB.out hbe)
  clear hbe HBC HA HBB
  have HBC := HBC2
  have HA := HA2
  have HBB := HBB2
  clear HBC2 HA2 HBB2
  clear c0 c1 cz
  by_cases hoa : a.ok
  rotate_left
  · rw [yes_f hoa]
    go_wp2_with fail
    refine (awake8_any _).mono ?_
    rintro e w8 ⟨rfl, hb8⟩
    have HB8 : Hid (Below w.heap.size w w8) := Lib.hid (HBC.out.trans (hb8.mono HBC.out.size))
    clear hb8
    go_wp2_with fail
    go_ret
    exact ⟨rfl, HB8.out⟩
  rw [yes_t hoa]
  obtain ⟨d0, d1, -, -, dz⟩ := block2' HBB.out
  go_wp2_with fail
  refine (RefRight_any b (fun k => k < w.heap.size) _ _ we (HV1.out.below (fun k hk => hk) HBC.out) (HL1.out.below (fun k hk => hk) HBC.out) (fun k hk => Nat.lt_of_lt_of_le hk HBC.out.size) (by rw [← HN'.out, ← HM'.out]; omega)).mono ?_
  rintro e we ⟨rfl, hbe⟩
  have HBC2 : Hid (Below w.heap.size w we) := Lib.hid (HBC.out.trans (hbe.mono HBC.out.size))
  have HA2 := Lib.hid (old_below HA.out hbe)
  have HBB2 := Lib.hid (old_below HBB.out hbe)
  clear hbe HBC HA HBB
  have HBC := HBC2
  have HA := HA2
  have HBB := HBB2
  clear HBC2 HA2 HBB2
  clear d0 d1 dz
  by_cases hob : b.ok
  rotate_left
  · rw [yes_f hob]
    go_wp2_with fail
    refine (awake8_any _).mono ?_
    rintro e w8 ⟨rfl, hb8⟩
    have HB8 : Hid (Below w.heap.size w w8) := Lib.hid (HBC.out.trans (hb8.mono HBC.out.size))
    clear hb8
    go_wp2_with fail
    go_ret
    exact ⟨rfl, HB8.out⟩
  rw [yes_t hob]
  have HOA := Lib.hid hoa
  have HOB := Lib.hid hob
  clear hoa hob
  obtain ⟨c0, c1, -, -, cz⟩ := block2' HA.out
  obtain ⟨d0, d1, -, -, dz⟩ := block2' HBB.out
  go_upto_region 5 with fail
  obtain ⟨gC, hgC⟩ : ∃ gC, gC = we.heap.size := ⟨_, rfl⟩
  obtain ⟨W5, hW5⟩ : ∃ W5, W5 = we.alloc (.cells #[.slice va n vk, .slice la m lk] 24) := ⟨_, rfl⟩
  have hb5 : Below we.heap.size we W5 := by rw [hW5]; exact below_alloc _ _
  have HB5 : Hid (Below w.heap.size w W5) := Lib.hid (HBC.out.trans (hb5.mono HBC.out.size))
  have HH0 : Hid (HeldAt we gC a W5) := Lib.hid ⟨hb5, _, _, by rw [hW5, hgC]; exact heap_alloc_new _ _, by rw [hgC]; exact Nat.le_refl _,
    (HV0.out.below (fun k hk => hk) HB5.out).same (fun k hk => ⟨Nat.lt_of_lt_of_le hk HB5.out.size, by have := HBC.out.size; omega⟩) fun _ _ => rfl,
    (HL0.out.below (fun k hk => hk) HB5.out).same (fun k hk => ⟨Nat.lt_of_lt_of_le hk HB5.out.size, by have := HBC.out.size; omega⟩) fun _ _ => rfl⟩
  have HA5 := Lib.hid (old_below HA.out hb5)
  have HBB5 := Lib.hid (old_below HBB.out hb5)
  have HGA : Hid (ga < we.heap.size ∧ gb < we.heap.size ∧ w.heap.size ≤ we.heap.size ∧ gC = we.heap.size ∧ W5.heap.size = we.heap.size + 1) := Lib.hid ⟨lt_of_heap HA.out, lt_of_heap HBB.out, HBC.out.size, hgC, by rw [hW5]; simp⟩
  have HSM : Hid (a.v.length ≤ 60 ∧ a.l.length ≤ 60 ∧ b.v.length ≤ 60 ∧ b.l.length ≤ 60) := Lib.hid (by rw [← HN.out, ← HM.out, ← HN'.out, ← HM'.out]; omega)
  rw [← hgC, ← hW5]
  clear hgC hW5 hb5 c0 c1 cz d0 d1 dz
  refine wp_region_held (S := fun w' => Below W5.heap.size W5 w') (by kernel_rfl) ?_
  have hs0 : Below W5.heap.size W5 W5.drew := below_drew1 W5
  have HM0 := Lib.hid (Mk.start W5 W5.drew hs0)
  have r0 : ∀ w', Below W5.heap.size W5 w' → w'.cell? ⟨ga, 0, none⟩ = some (.slice va n vk) := fun w' hw' => (block2' (old_below HA5.out hw')).1
  have r1 : ∀ w', Below W5.heap.size W5 w' → w'.cell? ⟨ga, 1, none⟩ = some (.slice la m lk) := fun w' hw' => (block2' (old_below HA5.out hw')).2.1
  refine H_take (i := 1) (v := ?_) rfl (by as_aux_lemma => kernel_rfl) (by as_aux_lemma => kernel_rfl) (by as_aux_lemma => kernel_rfl) (fun _ _ _ h => h) (by rfl) hs0 ?_ ?_
  rotate_left
  · intro w' hw'; go_simp; with_reducible rfl
  go_simp
  refine H_take (i := 2) (v := ?_) rfl (by as_aux_lemma => kernel_rfl) (by as_aux_lemma => kernel_rfl) (by as_aux_lemma => kernel_rfl) (fun _ _ _ h => h) (by rfl) hs0 ?_ ?_
  rotate_left
  · intro w' hw'; go_simp; with_reducible rfl
  go_simp
  refine H_take (i := 4) (v := ?_) rfl (by as_aux_lemma => kernel_rfl) (by as_aux_lemma => kernel_rfl) (by as_aux_lemma => kernel_rfl) (fun _ _ _ h => h) (by rfl) hs0 ?_ ?_
  rotate_left
  · intro w' hw'; go_simp; with_reducible rfl
  go_simp
  refine H_take (i := 5) (v := ?_) rfl (by as_aux_lemma => kernel_rfl) (by as_aux_lemma => kernel_rfl) (by as_aux_lemma => kernel_rfl) (fun _ _ _ h => h) (by rfl) hs0 ?_ ?_
  rotate_left
  · intro w' hw'; go_simp; with_reducible rfl
  go_simp
  clear r0 r1
  obtain ⟨w0, hw0⟩ : ∃ w0, w0 = W5.drew := ⟨_, rfl⟩
  rw [← hw0] at hs0 HM0 ⊢
  clear hw0
  refine H_one (i := 0) (by as_aux_lemma => kernel_rfl) rfl (by rfl) ?_
  go_simp
  obtain ⟨w1, hw1⟩ : ∃ w1, w1 = w0.alloc (.cells #[] 3) := ⟨_, rfl⟩
  obtain ⟨g1, hg1⟩ : ∃ g1, g1 = w0.heap.size := ⟨_, rfl⟩
  have hm1 := HM0.out.lit hg1
  rw [← hw1] at hm1
  rw [← hw1, ← hg1]
  have hs1 := hm1.below
  have HM1 := Lib.hid hm1
  clear hw1 hg1 hm1
  refine ⟨hs1, ?_⟩
  refine H_one (i := 3) (by as_aux_lemma => kernel_rfl) rfl (by rfl) ?_
  refine wp_ir_append (.tmp 38) (.tmp 40) rfl rfl (base := W5.heap.size) (L := []) (L2 := a.v) rfl (HM1.out.rows _ (List.mem_cons_self ..)) HM1.out.below.size rfl (HV0.out.below (fun k hk => hk) (HB5.out.trans (HM1.out.below.mono HB5.out.size))) (by have := HSM.out; simp; omega) ?_
  intro u2 w2 ht2
  have hm2 := HM1.out.app (l' := a.v) ht2
  obtain ⟨a2, k2, hu2⟩ := ht2.1.slice
  obtain ⟨n2, hn2⟩ : ∃ n2, n2 = a.v.length := ⟨_, rfl⟩
  rw [List.nil_append, ← hn2] at hu2
  subst hu2
  have hs2 := hm2.below
  have HM2 := Lib.hid hm2
  clear ht2 hm2 hn2
  refine ⟨hs2, ?_⟩
  refine H_one (i := 6) (by as_aux_lemma => kernel_rfl) rfl (by rfl) ?_
  refine wp_ir_append (.tmp 41) (.tmp 43) rfl rfl (base := W5.heap.size) (L := a.v) (L2 := a.l) rfl (HM2.out.rows _ (List.mem_cons_self ..)) HM2.out.below.size rfl (HL0.out.below (fun k hk => hk) (HB5.out.trans (HM2.out.below.mono HB5.out.size))) (by have := HSM.out; omega) ?_
  intro u3 WX ht3
  have hm3 := HM2.out.app (l' := a.v ++ a.l) ht3
  obtain ⟨sa, sk, hu3⟩ := ht3.1.slice
  obtain ⟨sz, hsz⟩ : ∃ sz, sz = n + m := ⟨_, rfl⟩
  rw [List.length_append, ← HN.out, ← HM.out, ← hsz] at hu3
  have HSZ := Lib.hid hsz
  clear hsz
  subst hu3
  have hs3 := hm3.below
  have HM3 := Lib.hid hm3
  clear ht3 hm3
  refine ⟨hs3, ?_⟩
  go_simp
  refine H_take (i := 7) (v := ?_) rfl (by as_aux_lemma => kernel_rfl) (by as_aux_lemma => kernel_rfl) (by as_aux_lemma => kernel_rfl) (fun _ _ _ h => h) (by rfl) hs3 ?_ ?_
  rotate_left
  · intro w' hw'; go_simp; with_reducible rfl
  go_simp
  refine wpAnyH_done (by as_aux_lemma => kernel_rfl) ?_ _
  have HBX : Hid (Below w.heap.size w WX) := Lib.hid (HB5.out.trans (hs3.mono HB5.out.size))
  have HOX : Hid (∀ wr, Only (fun k => k = gC) WX wr → (Below w.heap.size w wr ∧ wr.heap[ga]? = some (.cells #[.slice va n vk, .slice la m lk] 24) ∧ wr.heap[gb]? = some (.cells #[.slice wa n' wk, .slice ma m' mk] 24)) ∧
      RepI wr (fun k => k < WX.heap.size ∧ k ≠ gC) (a.v ++ a.l) (.slice sa sz sk) ∧ RepI wr (fun k => k < WX.heap.size ∧ k ≠ gC) b.v (.slice wa n' wk) ∧ RepI wr (fun k => k < WX.heap.size ∧ k ≠ gC) b.l (.slice ma m' mk)) := Lib.hid fun wr ho => by
    have hg := HGA.out
    have hz := HBX.out.size
    have hz5 := hs3.size
    have hrow := HM3.out.rows _ (List.mem_cons_self ..)
    refine ⟨⟨below_only HBX.out ho fun k hk => by omega, (ho.block ga (by omega) (by omega)).trans (old_below HA5.out hs3), (ho.block gb (by omega) (by omega)).trans (old_below HBB5.out hs3)⟩, ?_, ?_, ?_⟩
    · exact (hrow.rep.same (fun k hk => ⟨hk.2, by have := hk.1; omega⟩) fun _ _ => rfl).same (fun _ h => h) fun k hk => ho.block k hk.1 hk.2
    · exact ((HV1.out.below (fun k hk => hk) HBX.out).same (fun k hk => ⟨by omega, by omega⟩) fun _ _ => rfl).same (fun _ h => h) fun k hk => ho.block k hk.1 hk.2
    · exact ((HL1.out.below (fun k hk => hk) HBX.out).same (fun k hk => ⟨by omega, by omega⟩) fun _ _ => rfl).same (fun _ h => h) fun k hk => ho.block k hk.1 hk.2
  have HHX : Hid (HeldAt we gC a WX) := Lib.hid (HH0.out.next hs3)
  clear hs0 hs1 hs2 hs3
  have HAX : Hid (At we WX gC a WX) := Lib.hid ⟨HHX.out, Only.refl _ _, HOA.out⟩
  clear HHX HBX HB5 HH0 HA5 HBB5 HM3 HM2 HM1 HM0
  obtain ⟨⟨-, hca, hcb⟩, hra, hrb, -⟩ := HOX.out WX (Only.refl _ _)
  obtain ⟨d0, d1, -, -, dz⟩ := block2' hcb
  have hn1 : 0 < b.v.length := by
    rcases hbv : b.v with - | ⟨y, r⟩
    · exact absurd hbv HOB.out.1
    · simp
  obtain ⟨kb, ko, hkab, ⟨hkz, -⟩, e0, -, -⟩ := hrb.elem 0 hn1
  obtain ⟨keep, hkeep⟩ : ∃ keep, keep = b.v[0] := ⟨_, rfl⟩
  rw [← hkeep, Nat.add_zero] at e0
  have HKP : Hid (keep = b.v.getD 0 0 ∧ okN keep) := Lib.hid ⟨by rw [hkeep, List.getD_eq_getElem?_getD, List.getElem?_eq_getElem hn1]; rfl, by rw [hkeep]; exact HOB.out.2.2.1.1 _ (List.getElem_mem hn1)⟩
  subst hkab
  have hn0 : 0 < n' := by rw [HN'.out]; exact hn1
  have HIN : Hid (Calls Try.prog 15 #[.slice sa sz sk, .int .i64 keep] WX fun e w' => e = .returned (.bool (yes (keep ∈ a.v ++ a.l))) ∧ w' = WX) := Lib.hid (RefIn_any _ _ _ _ _ hra)
  clear hca hcb hrb hra hkeep hn1
  go_upto_region 7 with fail
  clear d0 d1 dz e0 hkz hn0
  go_cut [57] from 49 to 57 (fun x w' => w' = WX ∧ ∃ bb : Bool, x = .bool bb ∧ Hid ((bb = true → keep ∉ a.v ++ a.l ∧ sz ≥ 9) ∧ (bb = false → keep ∈ a.v ++ a.l ∨ sz < 9)))
  case first =>
    go_wp2_with fail
    refine HIN.out.mono ?_
    rintro e w7 ⟨rfl, hw7⟩
    have hw7 := hw7.symm
    subst hw7
    by_cases hk : keep ∈ a.v ++ a.l
    · rw [yes_t hk]
      go_wp2_with fail
      go_meet
      case rel => exact ⟨rfl, false, rfl, Lib.hid ⟨fun h => by simp at h, fun _ => .inl hk⟩⟩
    rw [yes_f hk]
    by_cases h9 : sz ≥ 9
    · have q9 : decide ((sz : Int) ≥ 9) = true := decide_eq_true (by omega)
      go_wp2_with fail
      go_meet
      case rel => exact ⟨rfl, true, rfl, Lib.hid ⟨fun _ => ⟨hk, h9⟩, fun h => by simp at h⟩⟩
    · have q9 : decide ((sz : Int) ≥ 9) = false := decide_eq_false (by omega)
      go_wp2_with fail
      go_meet
      case rel => exact ⟨rfl, false, rfl, Lib.hid ⟨fun h => by simp at h, fun _ => .inr (by omega)⟩⟩
  case rest =>
  obtain ⟨hwc, bb, rfl, HBB1⟩ := hcut
  have hwc := hwc.symm
  subst hwc
  clear HIN
  go_upto_if 57 with fail
  go_cut [9] from 58 to 79 (fun _ w' => ∃ c : Cf, Hid (At we WX gC c w' ∧ (∀ x, In2 c x → In2 a x) ∧ (In2 c keep ∨ c.v.length + c.l.length < 9)))
  case first =>
    cases bb with
    | false =>
      go_wp2_with fail
      go_meet
      case rel => exact ⟨a, Lib.hid ⟨HAX.out, fun _ h => h, by
        rcases HBB1.out.2 (by simp) with h | h
        · exact .inl (List.mem_append.1 h)
        · exact .inr (by have := HSZ.out; rw [← HN.out, ← HM.out]; omega)⟩⟩
    | true =>
    have h9 := (HBB1.out.1 (by simp)).2
    obtain ⟨lz, hlz⟩ : ∃ lz, lz = sz - 1 := ⟨_, rfl⟩
    have hw9 : IntKind.i64.wrap ((sz : Int) - 1) = (lz : Int) := by
      have := HSM.out
      rw [← HN.out, ← HM.out] at this
      have := HSZ.out
      rw [IntWalk.i64_in _ (by omega)]; omega
    have hlt : lz < sz := by omega
    obtain ⟨⟨-, hca, -⟩, hra, -, -⟩ := HOX.out WX (Only.refl _ _)
    obtain ⟨c0, c1, -, -, cz⟩ := block2' hca
    have hl1 : lz < (a.v ++ a.l).length := by rw [List.length_append, ← HN.out, ← HM.out, ← HSZ.out]; exact hlt
    obtain ⟨sb, so, hsb, ⟨hsz2, -⟩, e9, -, -⟩ := hra.elem lz hl1
    subst hsb
    obtain ⟨x, hx⟩ : ∃ x, x = (a.v ++ a.l)[lz] := ⟨_, rfl⟩
    rw [← hx] at e9
    obtain ⟨hi1, hi2⟩ := walk_last HOA.out (x := x) (by rw [← HN.out, ← HM.out, ← HSZ.out]; exact h9) (by rw [← HN.out, ← HM.out, ← HSZ.out, ← hlz, hx, List.getD_eq_getElem?_getD, List.getElem?_eq_getElem hl1]; rfl)
    obtain ⟨r0, r1, r2, r3⟩ := walk_rem HOA.out hi1 hi2
    have HST := Lib.hid (HAX.out.step 3 x r0)
    have HRR : Hid ((∀ y, In2 (next1 a 3 x).1 y → In2 a y) ∧ (In2 (next1 a 3 x).1 keep ∨ (next1 a 3 x).1.v.length + (next1 a 3 x).1.l.length < 9)) := Lib.hid ⟨fun y hy => ((r1 y).1 hy).1, .inr (by
      rw [r2, r3]
      have := walk_less HOA.out hi1
      have := HOA.out.2.1
      omega)⟩
    clear hx hi1 hi2 r0 r1 r2 r3 hca hra hl1 hlz
    by_cases hm0 : m = 0
    · have qm : ((m : Int) == 0) = true := by rw [hm0]; rfl
      have qn : ((n : Int) == 1) = false := by have := HSZ.out; simp; omega
      clear hm0
      go_wp2_with fail
      refine HST.out.mono ?_
      rintro e w9 ⟨rfl, hat⟩
      have HAT := Lib.hid hat
      clear hat
      go_wp2_with fail
      go_meet
      case rel => exact ⟨_, Lib.hid ⟨HAT.out, HRR.out⟩⟩
    · have qm : ((m : Int) == 0) = false := by simp; omega
      clear hm0
      go_wp2_with fail
      refine HST.out.mono ?_
      rintro e w9 ⟨rfl, hat⟩
      have HAT := Lib.hid hat
      clear hat
      go_wp2_with fail
      go_meet
      case rel => exact ⟨_, Lib.hid ⟨HAT.out, HRR.out⟩⟩
  case rest =>
    obtain ⟨c1, HC1⟩ := hcut
    obtain ⟨va1, vk1, la1, lk1, hrow, hv1, hl1⟩ := (show At we WX gC c1 wc from HC1.out.1).row
    go_upto_region 11 with fail
    go_cut [101] from 80 to 101 (fun x w' => x = .bool false ∧ ∃ c : Cf, Hid (At we WX gC c w' ∧ Rest keep (a.v ++ a.l) 0 c))
    case first =>
      have HHAS := Lib.hid (Has_any c1 keep _ _ _ wc hv1 hl1 fun k hk => hk)
      obtain ⟨nv, hnv⟩ : ∃ nv, nv = c1.v.length := ⟨_, rfl⟩
      obtain ⟨nl, hnl⟩ : ∃ nl, nl = c1.l.length := ⟨_, rfl⟩
      rw [← hnv, ← hnl] at HHAS hrow
      obtain ⟨g0, g1, -, -, gz⟩ := block2' hrow
      clear hv1 hl1 hrow hnv hnl
      go_wp2_with fail
      refine HHAS.out.mono ?_
      rintro e w8 ⟨rfl, hb8⟩
      have HC8 := Lib.hid (HC1.out.1.next hb8)
      clear HHAS hb8 g0 g1 gz
      by_cases hk : In2 c1 keep
      · rw [yes_t (by exact hk)]
        obtain ⟨c3, hc3⟩ : ∃ c3, c3 = c1 := ⟨_, rfl⟩
        have HC3 : Hid (At we WX gC c3 w8) := Lib.hid (by rw [hc3]; exact HC8.out)
        have HK3 : Hid (In2 c3 keep ∧ ∀ x, In2 c3 x → x = keep ∨ In2 a x) := Lib.hid (by rw [hc3]; exact ⟨hk, fun x hx => .inr (HC1.out.2.1 x hx)⟩)
        clear hc3 HC8 hk
        obtain ⟨va3, vk3, la3, lk3, hrow, hv3, hl3⟩ := HC3.out.row
        have HVOT := Lib.hid (Votes_any c3 keep _ _ _ _ hv3 hl3 fun k hk => hk)
        obtain ⟨nv, hnv⟩ : ∃ nv, nv = c3.v.length := ⟨_, rfl⟩
        obtain ⟨nl, hnl⟩ : ∃ nl, nl = c3.l.length := ⟨_, rfl⟩
        rw [← hnv, ← hnl] at HVOT hrow
        obtain ⟨g0, g1, -, -, gz⟩ := block2' hrow
        clear hv3 hl3 hrow hnv hnl
        go_wp2_with fail
        refine HVOT.out.mono ?_
        rintro e w10 ⟨rfl, hb10⟩
        have HC4 := Lib.hid (HC3.out.next hb10)
        clear HVOT hb10 g0 g1 gz HC3
        by_cases hkv : keep ∈ c3.v
        · rw [yes_t hkv]
          go_wp2_with fail
          go_meet
          case rel => exact ⟨rfl, c3, Lib.hid ⟨HC4.out, rest_start HC4.out.2.2 hkv HK3.out.2⟩⟩
        · rw [yes_f hkv]
          have hkl : keep ∈ c3.l := HK3.out.1.resolve_left hkv
          obtain ⟨p3, p4⟩ := walk_pro HKP.out.2 hkl
          have HST2 := Lib.hid (HC4.out.step 2 keep p3)
          rw [p4] at HST2
          have HRS : Hid (∀ x, In2 ⟨putN c3.v keep, dropN c3.l keep⟩ x → x = keep ∨ In2 a x) := Lib.hid (by
            rintro x (hx | hx)
            · rcases putN_mem.1 hx with h | h
              · exact .inl h
              · exact HK3.out.2 x (.inl h)
            · exact HK3.out.2 x (.inr (dropN_mem.1 hx).1))
          clear hkl p3 p4 hkv
          go_wp2_with fail
          refine HST2.out.mono ?_
          rintro e w11 ⟨rfl, hat⟩
          have HC5 := Lib.hid hat
          clear hat HST2
          go_wp2_with fail
          go_meet
          case rel => exact ⟨rfl, _, Lib.hid ⟨HC5.out, rest_start HC5.out.2.2 (putN_mem.2 (.inl rfl)) HRS.out⟩⟩
      · rw [yes_f (by exact hk)]
        have hless : c1.v.length + c1.l.length < 9 := HC1.out.2.2.resolve_left hk
        obtain ⟨p1, p2⟩ := walk_add HKP.out.2 hk hless
        have HST := Lib.hid (HC8.out.step 1 keep p1)
        rw [p2] at HST
        obtain ⟨c3, hc3⟩ : ∃ c3 : Cf, c3 = ⟨c1.v, putN c1.l keep⟩ := ⟨_, rfl⟩
        rw [← hc3] at HST
        have HK3 : Hid (In2 c3 keep ∧ ∀ x, In2 c3 x → x = keep ∨ In2 a x) := Lib.hid (by
          rw [hc3]
          refine ⟨.inr (putN_mem.2 (.inl rfl)), ?_⟩
          rintro x (hx | hx)
          · exact .inr (HC1.out.2.1 x (.inl hx))
          · rcases putN_mem.1 hx with h | h
            · exact .inl h
            · exact .inr (HC1.out.2.1 x (.inr h)))
        clear hc3 HC8 hk hless p1 p2
        go_wp2_with fail
        refine HST.out.mono ?_
        rintro e w9 ⟨rfl, hat⟩
        have HC3 := Lib.hid hat
        clear hat HST
        obtain ⟨va3, vk3, la3, lk3, hrow, hv3, hl3⟩ := HC3.out.row
        have HVOT := Lib.hid (Votes_any c3 keep _ _ _ _ hv3 hl3 fun k hk => hk)
        obtain ⟨nv, hnv⟩ : ∃ nv, nv = c3.v.length := ⟨_, rfl⟩
        obtain ⟨nl, hnl⟩ : ∃ nl, nl = c3.l.length := ⟨_, rfl⟩
        rw [← hnv, ← hnl] at HVOT hrow
        obtain ⟨g0, g1, -, -, gz⟩ := block2' hrow
        clear hv3 hl3 hrow hnv hnl
        go_wp2_with fail
        refine HVOT.out.mono ?_
        rintro e w10 ⟨rfl, hb10⟩
        have HC4 := Lib.hid (HC3.out.next hb10)
        clear HVOT hb10 g0 g1 gz HC3
        by_cases hkv : keep ∈ c3.v
        · rw [yes_t hkv]
          go_wp2_with fail
          go_meet
          case rel => exact ⟨rfl, c3, Lib.hid ⟨HC4.out, rest_start HC4.out.2.2 hkv HK3.out.2⟩⟩
        · rw [yes_f hkv]
          have hkl : keep ∈ c3.l := HK3.out.1.resolve_left hkv
          obtain ⟨p3, p4⟩ := walk_pro HKP.out.2 hkl
          have HST2 := Lib.hid (HC4.out.step 2 keep p3)
          rw [p4] at HST2
          have HRS : Hid (∀ x, In2 ⟨putN c3.v keep, dropN c3.l keep⟩ x → x = keep ∨ In2 a x) := Lib.hid (by
            rintro x (hx | hx)
            · rcases putN_mem.1 hx with h | h
              · exact .inl h
              · exact HK3.out.2 x (.inl h)
            · exact HK3.out.2 x (.inr (dropN_mem.1 hx).1))
          clear hkl p3 p4 hkv
          go_wp2_with fail
          refine HST2.out.mono ?_
          rintro e w11 ⟨rfl, hat⟩
          have HC5 := Lib.hid hat
          clear hat HST2
          go_wp2_with fail
          go_meet
          case rel => exact ⟨rfl, _, Lib.hid ⟨HC5.out, rest_start HC5.out.2.2 (putN_mem.2 (.inl rfl)) HRS.out⟩⟩
    case rest =>
    obtain ⟨rfl, c2, HC2⟩ := hcut
    clear hrow hv1 hl1
    go_wp2_with fail
    clear HC1
    have hszb : sz ≤ 120 ∧ n' ≤ 60 ∧ m' ≤ 60 := by
      have := HSM.out
      rw [← HN.out, ← HM.out, ← HN'.out, ← HM'.out] at this
      have := HSZ.out
      omega
    obtain ⟨w0, hw0⟩ : ∃ w0 : World, w0 = wc := ⟨_, rfl⟩
    subst hw0
    go_loopg [10] sz (fun gk i wr => ∃ (z : Nat) (c : Cf), z + gk = sz ∧ i = .int .i64 (z : Int) ∧ Hid (At we WX gC c wr ∧ Rest keep (a.v ++ a.l) z c))
    case atStart => exact ⟨0, c2, by omega, rfl, HC2⟩
    case round =>
      obtain ⟨z, c4, hz, rfl, HQ⟩ := hrel
      by_cases hlt : z < sz
      · have hkk : (z : Int) < (sz : Int) := by omega
        have hl1 : z < (a.v ++ a.l).length := by rw [List.length_append, ← HN.out, ← HM.out, ← HSZ.out]; exact hlt
        obtain ⟨sb, so, hab, hfb, e0, -, -⟩ := (HOX.out WX (Only.refl _ _)).2.1.elem z hl1
        subst hab
        obtain ⟨x, hx⟩ : ∃ x, x = (a.v ++ a.l)[z] := ⟨_, rfl⟩
        rw [← hx] at e0
        have HSP : Hid ((¬ (In2 c4 x ∧ x ≠ keep) → Rest keep (a.v ++ a.l) (z + 1) c4) ∧ (In2 c4 x → x ≠ keep → (next1 c4 3 x).2 = 0 ∧ Rest keep (a.v ++ a.l) (z + 1) (next1 c4 3 x).1)) := Lib.hid (by rw [hx]; exact ⟨HQ.out.2.skip hl1, HQ.out.2.step hl1⟩)
        have HEL : Hid (∀ w', Only (fun k => k = gC) WX w' → w'.cell? ⟨sb, so + z, none⟩ = some (.int .i64 x)) := Lib.hid fun w' ho => (cell_only ho hfb.1 hfb.2 _).trans e0
        have HQD : Hid (At we WX gC c4 wr.drew) := Lib.hid (HQ.out.1.next (below_drew1 wr))
        obtain ⟨va3, vk3, la3, lk3, hrow, hv3, hl3⟩ := HQD.out.row
        have HHAS := Lib.hid (Has_any c4 x _ _ _ _ hv3 hl3 fun k hk => hk)
        obtain ⟨nv, hnv⟩ : ∃ nv, nv = c4.v.length := ⟨_, rfl⟩
        obtain ⟨nl, hnl⟩ : ∃ nl, nl = c4.l.length := ⟨_, rfl⟩
        rw [← hnv, ← hnl] at HHAS hrow
        obtain ⟨g0, g1, -, -, gz⟩ := block2' hrow
        clear hv3 hl3 hrow hnv hnl hx e0 hfb hl1
        go_wp2_with fail
        refine wp_region_held (S := fun w' => Only (fun k => k = gC) WX w') (by kernel_rfl) ?_
        have hs7 : Only (fun k => k = gC) WX wr.drew := HQ.out.1.2.1.drawn
        have r4 := HEL.out
        refine H_take (i := 1) (v := ?_) rfl (by as_aux_lemma => kernel_rfl) (by as_aux_lemma => kernel_rfl) (by as_aux_lemma => kernel_rfl) (fun _ _ _ h => h) (by rfl) hs7 ?_ ?_
        rotate_left
        · intro w' hw'; go_simp; with_reducible rfl
        go_simp
        refine H_take (i := 2) (v := ?_) rfl (by as_aux_lemma => kernel_rfl) (by as_aux_lemma => kernel_rfl) (by as_aux_lemma => kernel_rfl) (fun _ _ _ h => h) (by rfl) hs7 ?_ ?_
        rotate_left
        · intro w' hw'; go_simp; with_reducible rfl
        go_simp
        refine H_take (i := 3) (v := ?_) rfl (by as_aux_lemma => kernel_rfl) (by as_aux_lemma => kernel_rfl) (by as_aux_lemma => kernel_rfl) (fun _ _ _ h => h) (by rfl) hs7 ?_ ?_
        rotate_left
        · intro w' hw'; go_simp; with_reducible rfl
        go_simp
        refine H_take (i := 4) (v := ?_) rfl (by as_aux_lemma => kernel_rfl) (by as_aux_lemma => kernel_rfl) (by as_aux_lemma => kernel_rfl) (fun _ _ _ h => h) (by rfl) hs7 ?_ ?_
        rotate_left
        · intro w' hw'; go_simp; with_reducible rfl
        go_simp
        refine H_one (i := 0) (by as_aux_lemma => kernel_rfl) rfl (by rfl) ?_
        go_simp
        refine H_one (i := 5) (by as_aux_lemma => kernel_rfl) rfl (by rfl) ?_
        go_simp
        refine HHAS.out.mono ?_
        rintro e w8 ⟨rfl, hb8⟩
        have hs8 : Only (fun k => k = gC) WX w8 := hs7.next hb8
        have HC8 := Lib.hid (HQD.out.next hb8)
        clear hb8 g0 g1 gz hs7 HHAS HQD
        refine ⟨hs8, ?_⟩
        by_cases hin : In2 c4 x
        rotate_left
        · rw [yes_f (by exact hin)]
          have HRR := Lib.hid (HSP.out.1 fun h => hin h.1)
          clear hin
          go_simp
          refine H_take (i := 6) (v := ?_) rfl (by as_aux_lemma => kernel_rfl) (by as_aux_lemma => kernel_rfl) (by as_aux_lemma => kernel_rfl) (fun _ _ _ h => h) (by rfl) hs8 ?_ ?_
          rotate_left
          · intro w' hw'; go_simp; with_reducible rfl
          go_simp
          refine H_skip (i := 7) rfl (by as_aux_lemma => kernel_rfl) (by as_aux_lemma => kernel_rfl) (by as_aux_lemma => kernel_rfl) (fun _ _ _ h => h) (by rfl) hs8 ?_
          go_simp
          refine H_skip (i := 8) rfl (by as_aux_lemma => kernel_rfl) (by as_aux_lemma => kernel_rfl) (by as_aux_lemma => kernel_rfl) (fun _ _ _ h => h) (by rfl) hs8 ?_
          go_simp
          refine H_skip (i := 9) rfl (by as_aux_lemma => kernel_rfl) (by as_aux_lemma => kernel_rfl) (by as_aux_lemma => kernel_rfl) (fun _ _ _ h => h) (by rfl) hs8 ?_
          go_simp
          refine H_skip (i := 10) rfl (by as_aux_lemma => kernel_rfl) (by as_aux_lemma => kernel_rfl) (by as_aux_lemma => kernel_rfl) (fun _ _ _ h => h) (by rfl) hs8 ?_
          go_simp
          refine H_skip (i := 11) rfl (by as_aux_lemma => kernel_rfl) (by as_aux_lemma => kernel_rfl) (by as_aux_lemma => kernel_rfl) (fun _ _ _ h => h) (by rfl) hs8 ?_
          go_simp
          refine H_skip (i := 12) rfl (by as_aux_lemma => kernel_rfl) (by as_aux_lemma => kernel_rfl) (by as_aux_lemma => kernel_rfl) (fun _ _ _ h => h) (by rfl) hs8 ?_
          go_simp
          refine H_take (i := 13) (v := ?_) rfl (by as_aux_lemma => kernel_rfl) (by as_aux_lemma => kernel_rfl) (by as_aux_lemma => kernel_rfl) (fun _ _ _ h => h) (by rfl) hs8 ?_ ?_
          rotate_left
          · intro w' hw'; go_simp; with_reducible rfl
          go_simp
          refine H_take (i := 14) (v := ?_) rfl (by as_aux_lemma => kernel_rfl) (by as_aux_lemma => kernel_rfl) (by as_aux_lemma => kernel_rfl) (fun _ _ _ h => h) (by rfl) hs8 ?_ ?_
          rotate_left
          · intro w' hw'; go_simp; with_reducible rfl
          go_simp
          refine H_skip (i := 15) rfl (by as_aux_lemma => kernel_rfl) (by as_aux_lemma => kernel_rfl) (by as_aux_lemma => kernel_rfl) (fun _ _ _ h => h) (by rfl) hs8 ?_
          go_simp
          refine H_skip (i := 16) rfl (by as_aux_lemma => kernel_rfl) (by as_aux_lemma => kernel_rfl) (by as_aux_lemma => kernel_rfl) (fun _ _ _ h => h) (by rfl) hs8 ?_
          go_simp
          refine H_skip (i := 17) rfl (by as_aux_lemma => kernel_rfl) (by as_aux_lemma => kernel_rfl) (by as_aux_lemma => kernel_rfl) (fun _ _ _ h => h) (by rfl) hs8 ?_
          go_simp
          refine H_skip (i := 18) rfl (by as_aux_lemma => kernel_rfl) (by as_aux_lemma => kernel_rfl) (by as_aux_lemma => kernel_rfl) (fun _ _ _ h => h) (by rfl) hs8 ?_
          go_simp
          refine H_skip (i := 19) rfl (by as_aux_lemma => kernel_rfl) (by as_aux_lemma => kernel_rfl) (by as_aux_lemma => kernel_rfl) (fun _ _ _ h => h) (by rfl) hs8 ?_
          go_simp
          refine H_skip (i := 20) rfl (by as_aux_lemma => kernel_rfl) (by as_aux_lemma => kernel_rfl) (by as_aux_lemma => kernel_rfl) (fun _ _ _ h => h) (by rfl) hs8 ?_
          go_simp
          refine H_skip (i := 21) rfl (by as_aux_lemma => kernel_rfl) (by as_aux_lemma => kernel_rfl) (by as_aux_lemma => kernel_rfl) (fun _ _ _ h => h) (by rfl) hs8 ?_
          go_simp
          refine H_take (i := 22) (v := ?_) rfl (by as_aux_lemma => kernel_rfl) (by as_aux_lemma => kernel_rfl) (by as_aux_lemma => kernel_rfl) (fun _ _ _ h => h) (by rfl) hs8 ?_ ?_
          rotate_left
          · intro w' hw'; go_simp; with_reducible rfl
          go_simp
          refine wpAnyH_done (by as_aux_lemma => kernel_rfl) ?_ _
          clear hs8 r4
          go_wp2_with fail
          go_roundg (gk - 1)
          case measure => omega
          case rel => exact ⟨z + 1, c4, by omega, by go_num, Lib.hid ⟨HC8.out, HRR.out⟩⟩
        rw [yes_t (by exact hin)]
        by_cases hxk : x = keep
        · have HRR := Lib.hid (HSP.out.1 fun h => h.2 hxk)
          have qk : (x != keep) = false := by simp [hxk]
          clear hin hxk
          go_simp
          refine H_take (i := 6) (v := ?_) rfl (by as_aux_lemma => kernel_rfl) (by as_aux_lemma => kernel_rfl) (by as_aux_lemma => kernel_rfl) (fun _ _ _ h => h) (by rfl) hs8 ?_ ?_
          rotate_left
          · intro w' hw'; go_simp; with_reducible rfl
          go_simp
          refine H_take (i := 7) (v := ?_) rfl (by as_aux_lemma => kernel_rfl) (by as_aux_lemma => kernel_rfl) (by as_aux_lemma => kernel_rfl) (fun _ _ _ h => h) (by rfl) hs8 ?_ ?_
          rotate_left
          · intro w' hw'; go_simp; with_reducible rfl
          go_simp
          refine H_take (i := 8) (v := ?_) rfl (by as_aux_lemma => kernel_rfl) (by as_aux_lemma => kernel_rfl) (by as_aux_lemma => kernel_rfl) (fun _ _ _ h => h) (by rfl) hs8 ?_ ?_
          rotate_left
          · intro w' hw'; go_simp; with_reducible rfl
          go_simp
          refine H_take (i := 9) (v := ?_) rfl (by as_aux_lemma => kernel_rfl) (by as_aux_lemma => kernel_rfl) (by as_aux_lemma => kernel_rfl) (fun _ _ _ h => h) (by rfl) hs8 ?_ ?_
          rotate_left
          · intro w' hw'; go_simp; with_reducible rfl
          go_simp
          refine H_take (i := 10) (v := ?_) rfl (by as_aux_lemma => kernel_rfl) (by as_aux_lemma => kernel_rfl) (by as_aux_lemma => kernel_rfl) (fun _ _ _ h => h) (by rfl) hs8 ?_ ?_
          rotate_left
          · intro w' hw'; go_simp; with_reducible rfl
          go_simp
          refine H_take (i := 11) (v := ?_) rfl (by as_aux_lemma => kernel_rfl) (by as_aux_lemma => kernel_rfl) (by as_aux_lemma => kernel_rfl) (fun _ _ _ h => h) (by rfl) hs8 ?_ ?_
          rotate_left
          · intro w' hw'; go_simp; with_reducible rfl
          go_simp
          refine H_take (i := 12) (v := ?_) rfl (by as_aux_lemma => kernel_rfl) (by as_aux_lemma => kernel_rfl) (by as_aux_lemma => kernel_rfl) (fun _ _ _ h => h) (by rfl) hs8 ?_ ?_
          rotate_left
          · intro w' hw'; go_simp; with_reducible rfl
          go_simp
          refine H_take (i := 13) (v := ?_) rfl (by as_aux_lemma => kernel_rfl) (by as_aux_lemma => kernel_rfl) (by as_aux_lemma => kernel_rfl) (fun _ _ _ h => h) (by rfl) hs8 ?_ ?_
          rotate_left
          · intro w' hw'; go_simp; with_reducible rfl
          go_simp
          refine H_take (i := 14) (v := ?_) rfl (by as_aux_lemma => kernel_rfl) (by as_aux_lemma => kernel_rfl) (by as_aux_lemma => kernel_rfl) (fun _ _ _ h => h) (by rfl) hs8 ?_ ?_
          rotate_left
          · intro w' hw'; go_simp; with_reducible rfl
          go_simp
          refine H_skip (i := 15) rfl (by as_aux_lemma => kernel_rfl) (by as_aux_lemma => kernel_rfl) (by as_aux_lemma => kernel_rfl) (fun _ _ _ h => h) (by rfl) hs8 ?_
          go_simp
          refine H_skip (i := 16) rfl (by as_aux_lemma => kernel_rfl) (by as_aux_lemma => kernel_rfl) (by as_aux_lemma => kernel_rfl) (fun _ _ _ h => h) (by rfl) hs8 ?_
          go_simp
          refine H_skip (i := 17) rfl (by as_aux_lemma => kernel_rfl) (by as_aux_lemma => kernel_rfl) (by as_aux_lemma => kernel_rfl) (fun _ _ _ h => h) (by rfl) hs8 ?_
          go_simp
          refine H_skip (i := 18) rfl (by as_aux_lemma => kernel_rfl) (by as_aux_lemma => kernel_rfl) (by as_aux_lemma => kernel_rfl) (fun _ _ _ h => h) (by rfl) hs8 ?_
          go_simp
          refine H_skip (i := 19) rfl (by as_aux_lemma => kernel_rfl) (by as_aux_lemma => kernel_rfl) (by as_aux_lemma => kernel_rfl) (fun _ _ _ h => h) (by rfl) hs8 ?_
          go_simp
          refine H_skip (i := 20) rfl (by as_aux_lemma => kernel_rfl) (by as_aux_lemma => kernel_rfl) (by as_aux_lemma => kernel_rfl) (fun _ _ _ h => h) (by rfl) hs8 ?_
          go_simp
          refine H_skip (i := 21) rfl (by as_aux_lemma => kernel_rfl) (by as_aux_lemma => kernel_rfl) (by as_aux_lemma => kernel_rfl) (fun _ _ _ h => h) (by rfl) hs8 ?_
          go_simp
          refine H_take (i := 22) (v := ?_) rfl (by as_aux_lemma => kernel_rfl) (by as_aux_lemma => kernel_rfl) (by as_aux_lemma => kernel_rfl) (fun _ _ _ h => h) (by rfl) hs8 ?_ ?_
          rotate_left
          · intro w' hw'; go_simp; with_reducible rfl
          go_simp
          refine wpAnyH_done (by as_aux_lemma => kernel_rfl) ?_ _
          clear hs8 r4
          go_wp2_with fail
          go_roundg (gk - 1)
          case measure => omega
          case rel => exact ⟨z + 1, c4, by omega, by go_num, Lib.hid ⟨HC8.out, HRR.out⟩⟩
        · have qk : (x != keep) = true := by simp [hxk]
          obtain ⟨p1, p2⟩ := HSP.out.2 hin hxk
          have HST := Lib.hid (HC8.out.step 3 x p1)
          have HRR := Lib.hid p2
          clear hin hxk p1 p2
          go_simp
          refine H_take (i := 6) (v := ?_) rfl (by as_aux_lemma => kernel_rfl) (by as_aux_lemma => kernel_rfl) (by as_aux_lemma => kernel_rfl) (fun _ _ _ h => h) (by rfl) hs8 ?_ ?_
          rotate_left
          · intro w' hw'; go_simp; with_reducible rfl
          go_simp
          refine H_take (i := 7) (v := ?_) rfl (by as_aux_lemma => kernel_rfl) (by as_aux_lemma => kernel_rfl) (by as_aux_lemma => kernel_rfl) (fun _ _ _ h => h) (by rfl) hs8 ?_ ?_
          rotate_left
          · intro w' hw'; go_simp; with_reducible rfl
          go_simp
          refine H_take (i := 8) (v := ?_) rfl (by as_aux_lemma => kernel_rfl) (by as_aux_lemma => kernel_rfl) (by as_aux_lemma => kernel_rfl) (fun _ _ _ h => h) (by rfl) hs8 ?_ ?_
          rotate_left
          · intro w' hw'; go_simp; with_reducible rfl
          go_simp
          refine H_take (i := 9) (v := ?_) rfl (by as_aux_lemma => kernel_rfl) (by as_aux_lemma => kernel_rfl) (by as_aux_lemma => kernel_rfl) (fun _ _ _ h => h) (by rfl) hs8 ?_ ?_
          rotate_left
          · intro w' hw'; go_simp; with_reducible rfl
          go_simp
          refine H_take (i := 10) (v := ?_) rfl (by as_aux_lemma => kernel_rfl) (by as_aux_lemma => kernel_rfl) (by as_aux_lemma => kernel_rfl) (fun _ _ _ h => h) (by rfl) hs8 ?_ ?_
          rotate_left
          · intro w' hw'; go_simp; with_reducible rfl
          go_simp
          refine H_take (i := 11) (v := ?_) rfl (by as_aux_lemma => kernel_rfl) (by as_aux_lemma => kernel_rfl) (by as_aux_lemma => kernel_rfl) (fun _ _ _ h => h) (by rfl) hs8 ?_ ?_
          rotate_left
          · intro w' hw'; go_simp; with_reducible rfl
          go_simp
          refine H_take (i := 12) (v := ?_) rfl (by as_aux_lemma => kernel_rfl) (by as_aux_lemma => kernel_rfl) (by as_aux_lemma => kernel_rfl) (fun _ _ _ h => h) (by rfl) hs8 ?_ ?_
          rotate_left
          · intro w' hw'; go_simp; with_reducible rfl
          go_simp
          refine H_take (i := 13) (v := ?_) rfl (by as_aux_lemma => kernel_rfl) (by as_aux_lemma => kernel_rfl) (by as_aux_lemma => kernel_rfl) (fun _ _ _ h => h) (by rfl) hs8 ?_ ?_
          rotate_left
          · intro w' hw'; go_simp; with_reducible rfl
          go_simp
          refine H_take (i := 14) (v := ?_) rfl (by as_aux_lemma => kernel_rfl) (by as_aux_lemma => kernel_rfl) (by as_aux_lemma => kernel_rfl) (fun _ _ _ h => h) (by rfl) hs8 ?_ ?_
          rotate_left
          · intro w' hw'; go_simp; with_reducible rfl
          go_simp
          refine H_take (i := 15) (v := ?_) rfl (by as_aux_lemma => kernel_rfl) (by as_aux_lemma => kernel_rfl) (by as_aux_lemma => kernel_rfl) (fun _ _ _ h => h) (by rfl) hs8 ?_ ?_
          rotate_left
          · intro w' hw'; go_simp; with_reducible rfl
          go_simp
          refine H_take (i := 16) (v := ?_) rfl (by as_aux_lemma => kernel_rfl) (by as_aux_lemma => kernel_rfl) (by as_aux_lemma => kernel_rfl) (fun _ _ _ h => h) (by rfl) hs8 ?_ ?_
          rotate_left
          · intro w' hw'; go_simp; with_reducible rfl
          go_simp
          refine H_take (i := 17) (v := ?_) rfl (by as_aux_lemma => kernel_rfl) (by as_aux_lemma => kernel_rfl) (by as_aux_lemma => kernel_rfl) (fun _ _ _ h => h) (by rfl) hs8 ?_ ?_
          rotate_left
          · intro w' hw'; go_simp; with_reducible rfl
          go_simp
          refine H_take (i := 18) (v := ?_) rfl (by as_aux_lemma => kernel_rfl) (by as_aux_lemma => kernel_rfl) (by as_aux_lemma => kernel_rfl) (fun _ _ _ h => h) (by rfl) hs8 ?_ ?_
          rotate_left
          · intro w' hw'; go_simp; with_reducible rfl
          go_simp
          refine H_take (i := 19) (v := ?_) rfl (by as_aux_lemma => kernel_rfl) (by as_aux_lemma => kernel_rfl) (by as_aux_lemma => kernel_rfl) (fun _ _ _ h => h) (by rfl) hs8 ?_ ?_
          rotate_left
          · intro w' hw'; go_simp; with_reducible rfl
          go_simp
          refine H_one (i := 20) (by as_aux_lemma => kernel_rfl) rfl (by rfl) ?_
          go_simp
          refine HST.out.mono ?_
          rintro e w9 ⟨rfl, hat⟩
          have hs9 : Only (fun k => k = gC) WX w9 := hat.2.1
          have HC9 := Lib.hid hat
          clear hat HST hs8
          refine ⟨hs9, ?_⟩
          go_simp
          refine H_take (i := 21) (v := ?_) rfl (by as_aux_lemma => kernel_rfl) (by as_aux_lemma => kernel_rfl) (by as_aux_lemma => kernel_rfl) (fun _ _ _ h => h) (by rfl) hs9 ?_ ?_
          rotate_left
          · intro w' hw'; go_simp; with_reducible rfl
          go_simp
          refine H_take (i := 22) (v := ?_) rfl (by as_aux_lemma => kernel_rfl) (by as_aux_lemma => kernel_rfl) (by as_aux_lemma => kernel_rfl) (fun _ _ _ h => h) (by rfl) hs9 ?_ ?_
          rotate_left
          · intro w' hw'; go_simp; with_reducible rfl
          go_simp
          refine wpAnyH_done (by as_aux_lemma => kernel_rfl) ?_ _
          clear hs9 r4
          go_wp2_with fail
          go_roundg (gk - 1)
          case measure => omega
          case rel => exact ⟨z + 1, _, by omega, by go_num, Lib.hid ⟨HC9.out, HRR.out⟩⟩
      · obtain rfl : z = sz := by omega
        have hkk : ¬ ((z : Nat) : Int) < (z : Int) := by omega
        have hall : z = (a.v ++ a.l).length := by rw [List.length_append, ← HN.out, ← HM.out, ← HSZ.out]
        have hone : c4 = ⟨[keep], []⟩ := Rest.end (all := a.v ++ a.l) (by have := HQ.out.2; rw [hall] at this; exact this)
        have HQ1 : Hid (At we WX gC ⟨b.v.take 1, []⟩ wr) := Lib.hid (by
          have h := HQ.out.1
          rw [hone, HKP.out.1] at h
          rcases hbv : b.v with - | ⟨y, r⟩
          · exact absurd hbv HOB.out.1
          · rw [hbv] at h; exact h)
        clear hall hone HQ
        go_wp2_with fail
        obtain ⟨w1, hw1⟩ : ∃ w1 : World, w1 = wr := ⟨_, rfl⟩
        subst hw1
        clear hkk hlt hz
        go_loopg [11] n' (fun gk i wr => ∃ z : Nat, z + gk = n' ∧ i = .int .i64 (z : Int) ∧ Hid (At we WX gC ⟨b.v.take (max z 1), []⟩ wr))
        case atStart => exact ⟨0, by omega, rfl, HQ1⟩
        case round =>
          obtain ⟨z, hz, rfl, HQ⟩ := hrel
          obtain ⟨⟨-, -, hcb⟩, -, hrb, -⟩ := HOX.out wr HQ.out.2.1
          obtain ⟨d0, d1, -, -, dz⟩ := block2' hcb
          by_cases hlt : z < n'
          · have hkk : (z : Int) < (n' : Int) := by omega
            have hl1 : z < b.v.length := by rw [← HN'.out]; exact hlt
            obtain ⟨sb, so, hab, hfb, e0, -, -⟩ := (HOX.out WX (Only.refl _ _)).2.2.1.elem z hl1
            simp only [Option.some.injEq, Addr.mk.injEq] at hab
            obtain ⟨hab1, hab2, -⟩ := hab
            subst hab1 hab2
            have HGV := Lib.hid fun h1 : 1 ≤ z => grow_v HOB.out hl1 h1
            have HZ0 : Hid (z = 0 → b.v[z] = keep) := Lib.hid fun h => by
              subst h
              rw [HKP.out.1, List.getD_eq_getElem?_getD, List.getElem?_eq_getElem hl1]; rfl
            rw [← HKP.out.1] at HGV
            obtain ⟨x, hx⟩ : ∃ x, x = b.v[z] := ⟨_, rfl⟩
            rw [← hx] at e0 HGV HZ0
            have HEL : Hid (∀ w', Only (fun k => k = gC) WX w' → w'.cell? ⟨kb, ko + z, none⟩ = some (.int .i64 x) ∧ kb < w'.heap.size) := Lib.hid fun w' ho => ⟨(cell_only ho hfb.1 hfb.2 _).trans e0, Nat.lt_of_lt_of_le hfb.1 ho.size⟩
            obtain ⟨e1, kz1⟩ := HEL.out wr HQ.out.2.1
            clear hx e0 hfb hl1 hcb hrb
            by_cases hz0 : z = 0
            · have qk : (x != keep) = false := by rw [HZ0.out hz0]; simp
              have HQ2 : Hid (At we WX gC ⟨b.v.take (max (z + 1) 1), []⟩ wr) := Lib.hid (by
                have h := HQ.out
                rw [hz0] at h ⊢
                exact h)
              clear hz0
              go_wp2_with fail
              go_roundg (gk - 1)
              case measure => omega
              case rel => exact ⟨z + 1, by omega, by go_num, HQ2⟩
            · obtain ⟨-, a2, a3, -, a5, a6⟩ := HGV.out (by omega)
              have qk : (x != keep) = true := by simp [a2]
              have hq : At we WX gC ⟨b.v.take z, []⟩ wr := by
                have h := HQ.out
                rw [Nat.max_eq_left (by omega)] at h
                exact h
              have hmx : max (z + 1) 1 = z + 1 := by omega
              have HST := Lib.hid (hq.step 1 x a3)
              have HA5 := Lib.hid a5
              have HA6 := Lib.hid a6
              clear hz0 a2 a3 a5 a6 hq
              go_wp2_with fail
              refine HST.out.mono ?_
              rintro e w9 ⟨rfl, hat⟩
              have HC9 := Lib.hid hat
              clear hat HST d0 d1 dz e1 kz1
              obtain ⟨⟨-, -, hcb⟩, -, -, -⟩ := HOX.out w9 HC9.out.2.1
              obtain ⟨d0, d1, -, -, dz⟩ := block2' hcb
              obtain ⟨e1, kz1⟩ := HEL.out w9 HC9.out.2.1
              have HST := Lib.hid (HC9.out.step 2 x HA5.out)
              clear hcb
              go_wp2_with fail
              refine HST.out.mono ?_
              rintro e w10 ⟨rfl, hat⟩
              have HC10 := Lib.hid hat
              clear hat HST d0 d1 dz e1 kz1
              rw [HA6.out] at HC10
              go_wp2_with fail
              go_roundg (gk - 1)
              case measure => omega
              case rel => exact ⟨z + 1, by omega, by go_num, by rw [hmx]; exact HC10⟩
          · obtain rfl : z = n' := by omega
            have hkk : ¬ ((z : Nat) : Int) < (z : Int) := by omega
            have HQ2 : Hid (At we WX gC ⟨b.v, b.l.take 0⟩ wr) := Lib.hid (by
              have h := HQ.out
              rw [List.take_of_length_le (by rw [← HN'.out]; omega)] at h
              exact h)
            clear hcb hrb HQ
            go_wp2_with fail
            obtain ⟨w2, hw2⟩ : ∃ w2 : World, w2 = wr := ⟨_, rfl⟩
            subst hw2
            clear hkk hlt hz d0 d1 dz
            go_loopg [12] m' (fun gk i wr => ∃ z : Nat, z + gk = m' ∧ i = .int .i64 (z : Int) ∧ Hid (At we WX gC ⟨b.v, b.l.take z⟩ wr))
            case atStart => exact ⟨0, by omega, rfl, HQ2⟩
            case round =>
              obtain ⟨y, hy, rfl, HQ⟩ := hrel
              obtain ⟨⟨-, -, hcb⟩, -, -, hrl⟩ := HOX.out wr HQ.out.2.1
              obtain ⟨d0, d1, -, -, dz⟩ := block2' hcb
              by_cases hlt : y < m'
              · have hkk : (y : Int) < (m' : Int) := by omega
                have hl1 : y < b.l.length := by rw [← HM'.out]; exact hlt
                obtain ⟨sb, so, hab, hfb, e1, -, -⟩ := hrl.elem y hl1
                have kz1 : sb < wr.heap.size := Nat.lt_of_lt_of_le hfb.1 HQ.out.2.1.size
                obtain ⟨-, a1, a2⟩ := grow_l HOB.out hl1
                obtain ⟨x, hx⟩ : ∃ x, x = b.l[y] := ⟨_, rfl⟩
                rw [← hx] at e1 a1 a2
                have HST := Lib.hid (HQ.out.step 1 x a1)
                rw [a2] at HST
                subst hab
                clear hx hfb hl1 hcb hrl a1 a2
                go_wp2_with fail
                refine HST.out.mono ?_
                rintro e w9 ⟨rfl, hat⟩
                have HC9 := Lib.hid hat
                clear hat HST d0 d1 dz e1 kz1
                go_wp2_with fail
                go_roundg (gk - 1)
                case measure => omega
                case rel => exact ⟨y + 1, by omega, by go_num, HC9⟩
              · obtain rfl : y = m' := by omega
                have hkk : ¬ ((y : Nat) : Int) < (y : Int) := by omega
                have HQ3 : Hid (At we WX gC b wr) := Lib.hid (by
                  have h := HQ.out
                  rw [List.take_of_length_le (by rw [← HM'.out]; exact Nat.le_refl _)] at h
                  exact h)
                obtain ⟨va3, vk3, la3, lk3, hrow, hv3, hl3⟩ := HQ3.out.row
                obtain ⟨⟨hbw, -, -⟩, -, hrv, hrl⟩ := HOX.out wr HQ3.out.2.1
                have HSM2 := Lib.hid (RefSame_any b b _ _ _ _ _ _ wr hv3 hl3 (hrv.same (fun k hk => Nat.lt_of_lt_of_le hk.1 HQ3.out.2.1.size) fun _ _ => rfl) (hrl.same (fun k hk => Nat.lt_of_lt_of_le hk.1 HQ3.out.2.1.size) fun _ _ => rfl) (fun k hk => hk) (fun k hk => hk))
                rw [yes_t rfl, ← HN'.out, ← HM'.out] at HSM2
                rw [← HN'.out, ← HM'.out] at hrow
                obtain ⟨g0, g1, -, -, gz⟩ := block2' hrow
                have HBW := Lib.hid hbw
                clear hcb hrl hrv hrow hv3 hl3 hbw
                go_wp2_with fail
                refine HSM2.out.mono ?_
                rintro e w9 ⟨rfl, hb9⟩
                have HB9 : Hid (Below w.heap.size w w9) := Lib.hid (HBW.out.trans (hb9.mono HBW.out.size))
                clear hb9 g0 g1 gz d0 d1 dz
                go_wp2_with fail
                go_ret
                exact ⟨rfl, HB9.out⟩
end Go.Proofs.Ytfdlpmphgojlhaa.M
