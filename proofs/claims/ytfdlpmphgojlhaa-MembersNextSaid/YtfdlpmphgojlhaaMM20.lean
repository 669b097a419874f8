/- The statement MembersNext: whatever the input it answers true. -/
import Derived.Test.YtfdlpmphgojlhaaMM18
import Derived.Test.YtfdlpmphgojlhaaMM19
import Derived.Deep.CutRange
namespace Go.Proofs.Ytfdlpmphgojlhaa.M
open Go.RowKit

/-- The configuration that is wanted, in its block. -/
def WantAt (WD : World) (gw : Nat) (c : Cf) (w : World) : Prop :=
  Below WD.heap.size WD w ∧ ∃ v l, w.heap[gw]? = some (.cells #[v, l] 24) ∧ WD.heap.size ≤ gw ∧ RepI w (fun k => k < w.heap.size ∧ k ≠ gw) c.v v ∧ RepI w (fun k => k < w.heap.size ∧ k ≠ gw) c.l l

set_option maxRecDepth 100000 in
set_option maxHeartbeats 12800000 in
theorem MembersNext_any (c : Cf) (cs : List (Int × Int)) (vv lv sv : Value) (w : World) (hv : RepI w (fun k => k < w.heap.size) c.v vv) (hl : RepI w (fun k => k < w.heap.size) c.l lv) (hcs : RepPr w (fun k => k < w.heap.size) cs sv) :
    Calls Try.prog 5 #[.agg #[vv, lv], sv] w fun e w' => e = .returned (.bool true) ∧ Below w.heap.size w w' := by
  obtain ⟨va, vk, hvv, hx1⟩ := hv.slice
  obtain ⟨la, lk, hlv, hx2⟩ := hl.slice
  obtain ⟨sa, sk, hsv, hx3⟩ := hcs.slice
  obtain ⟨n, hn⟩ : ∃ n, n = c.v.length := ⟨_, rfl⟩
  obtain ⟨m, hm⟩ : ∃ m, m = c.l.length := ⟨_, rfl⟩
  obtain ⟨p, hp⟩ : ∃ p, p = cs.length := ⟨_, rfl⟩
  rw [← hn] at hvv hx1
  rw [← hm] at hlv hx2
  rw [← hp] at hsv hx3
  subst hvv hlv hsv
  obtain ⟨W0, hW⟩ : ∃ W0, W0 = w.alloc (.cells #[.slice va n vk, .slice la m lk] 24) := ⟨_, rfl⟩
  have HB : Hid (Below w.heap.size w W0) := Lib.hid (by rw [hW]; exact below_alloc _ _)
  obtain ⟨gc, hgc⟩ : ∃ gc, gc = w.heap.size := ⟨_, rfl⟩
  have HBXC : Hid (W0.heap[gc]? = some (.cells #[.slice va n vk, .slice la m lk] 24)) := Lib.hid (by rw [hW, hgc]; exact heap_alloc_new w _)
  have HV0 := Lib.hid hv
  have HL0 := Lib.hid hl
  have HCS0 := Lib.hid hcs
  have HN := Lib.hid hn
  have HM := Lib.hid hm
  have HP := Lib.hid hp
  have HGc := Lib.hid hgc
  have HW := Lib.hid hW
  clear hv hl hcs hn hm hp hgc hW
  go_enter Try.func5, Try.ntmps5
  go_wp2_with fail
  rw [← HGc.out, ← HW.out]
  refine (awake8_any W0).mono ?_
  rintro e w2 ⟨rfl, hb2⟩
  have HB2 : Hid (Below w.heap.size w w2) := Lib.hid (HB.out.trans (hb2.mono HB.out.size))
  have HC2 := Lib.hid (old_below HBXC.out hb2)
  obtain ⟨c0, c1, -, -, cz⟩ := block2' HC2.out
  clear hb2
  go_wp2_with fail
  have HS := Lib.hid (small_any c (fun k => k < w.heap.size) _ _ w2 (HV0.out.below (fun k hk => hk) HB2.out) (HL0.out.below (fun k hk => hk) HB2.out))
  rw [← HN.out, ← HM.out] at HS
  refine HS.out.mono ?_
  rintro e w3 ⟨rfl, hb3⟩
  have HBC : Hid (Below w.heap.size w w3) := Lib.hid (HB2.out.trans (hb3.mono HB2.out.size))
  have HC3 := Lib.hid (old_below HC2.out hb3)
  clear hb3 c0 c1 cz
  by_cases hs : n ≤ 60 ∧ m ≤ 60
  · rw [decide_eq_true hs]
    by_cases hp : p > 60
    · have q1 : decide ((p : Int) > 60) = true := decide_eq_true (by omega)
      go_wp2_with fail
      refine (awake8_any _).mono ?_
      rintro e w8 ⟨rfl, hb8⟩
      have HB8 : Hid (Below w.heap.size w w8) := Lib.hid (HBC.out.trans (hb8.mono HBC.out.size))
      clear hb8
      go_wp2_with fail
      go_ret
      exact ⟨rfl, HB8.out⟩
    have q1 : decide ((p : Int) > 60) = false := decide_eq_false (by omega)
    have HSM : Hid (c.v.length ≤ 60 ∧ c.l.length ≤ 60 ∧ cs.length ≤ 60) := Lib.hid (by rw [← HN.out, ← HM.out, ← HP.out]; omega)
    obtain ⟨W, hWW⟩ : ∃ W, W = w3 := ⟨_, rfl⟩
    subst hWW
    have HV := Lib.hid ((HV0.out.below (fun k hk => hk) HBC.out).same (G := fun k => k < W.heap.size) (fun k hk => Nat.lt_of_lt_of_le hk HBC.out.size) fun _ _ => rfl)
    have HL := Lib.hid ((HL0.out.below (fun k hk => hk) HBC.out).same (G := fun k => k < W.heap.size) (fun k hk => Nat.lt_of_lt_of_le hk HBC.out.size) fun _ _ => rfl)
    have HCS := Lib.hid (HCS0.out.same (G := fun k => k < W.heap.size) (w' := W) (fun k hk => Nat.lt_of_lt_of_le hk HBC.out.size) fun k hk => HBC.out.block k hk)
    obtain ⟨c0, c1, -, -, cz⟩ := block2' HC3.out
    go_upto_region 3 with fail
    go_cut [5] from 25 to 33 (fun x w' => ∃ g v l, x = .pointer (some ⟨g, 0, none⟩) ∧ Hid (NX W.heap.size g v l c v l w' ∧ Below W.heap.size W w'))
    case first =>
      refine wp_region_held (S := fun w' => Below W.heap.size W w') (by kernel_rfl) ?_
      have hs0 : Below W.heap.size W W.drew := below_drew1 W
      have HM0 := Lib.hid (Mk.start W W.drew hs0)
      have r0 : ∀ w', Below W.heap.size W w' → w'.cell? ⟨gc, 0, none⟩ = some (.slice va n vk) := fun w' hw' => (block2' (old_below HC3.out hw')).1
      have r1 : ∀ w', Below W.heap.size W w' → w'.cell? ⟨gc, 1, none⟩ = some (.slice la m lk) := fun w' hw' => (block2' (old_below HC3.out hw')).2.1
      clear c0 c1 cz
      refine H_take (i := 1) (v := ?_) rfl (by as_aux_lemma => kernel_rfl) (by as_aux_lemma => kernel_rfl) (by as_aux_lemma => kernel_rfl) (fun _ _ _ h => h) (by rfl) hs0 ?_ ?_
      rotate_left
      · intro w' hw'; go_simp; with_reducible rfl
      go_simp
      refine H_take (i := 2) (v := ?_) rfl (by as_aux_lemma => kernel_rfl) (by as_aux_lemma => kernel_rfl) (by as_aux_lemma => kernel_rfl) (fun _ _ _ h => h) (by rfl) hs0 ?_ ?_
      rotate_left
      · intro w' hw'; go_simp; with_reducible rfl
      go_simp
      refine H_take (i := 5) (v := ?_) rfl (by as_aux_lemma => kernel_rfl) (by as_aux_lemma => kernel_rfl) (by as_aux_lemma => kernel_rfl) (fun _ _ _ h => h) (by rfl) hs0 ?_ ?_
      rotate_left
      · intro w' hw'; go_simp; with_reducible rfl
      go_simp
      refine H_take (i := 6) (v := ?_) rfl (by as_aux_lemma => kernel_rfl) (by as_aux_lemma => kernel_rfl) (by as_aux_lemma => kernel_rfl) (fun _ _ _ h => h) (by rfl) hs0 ?_ ?_
      rotate_left
      · intro w' hw'; go_simp; with_reducible rfl
      go_simp
      clear r0 r1
      obtain ⟨w0, hw0⟩ : ∃ w0, w0 = W.drew := ⟨_, rfl⟩
      rw [← hw0] at hs0 HM0 ⊢
      clear hw0
      refine H_any3 (i := 0) (j := 4) (k := 9) (by as_aux_lemma => kernel_rfl) rfl rfl rfl (by rfl) (by rfl) (by rfl) ?_ ?_ ?_
      · go_simp
        obtain ⟨w1, hw1⟩ : ∃ w1, w1 = w0.alloc (.cells #[] 3) := ⟨_, rfl⟩
        obtain ⟨g1, hg1⟩ : ∃ g1, g1 = w0.heap.size := ⟨_, rfl⟩
        have hm1 := HM0.out.lit hg1
        rw [← hw1] at hm1
        rw [← hw1, ← hg1]
        have hs1 := hm1.below
        have HM1 := Lib.hid hm1
        clear hw1 hg1 hm1
        refine ⟨hs1, ?_⟩
        refine H_any3 (i := 3) (j := 4) (k := 9) (by as_aux_lemma => kernel_rfl) rfl rfl rfl (by rfl) (by rfl) (by rfl) ?_ ?_ ?_
        · refine wp_ir_append (.tmp 25) (.tmp 27) rfl rfl (base := W.heap.size) (L := []) (L2 := c.v) rfl (HM1.out.rows _ (List.mem_cons_self ..)) HM1.out.below.size rfl (HV.out.below (fun k hk => hk) HM1.out.below) (by have := HSM.out; simp; omega) ?_
          intro u2 w2 ht2
          have hm2 := HM1.out.app (l' := c.v) ht2
          obtain ⟨a2, k2, hu2⟩ := ht2.1.slice
          obtain ⟨n2, hn2⟩ : ∃ n2, n2 = c.v.length := ⟨_, rfl⟩
          rw [List.nil_append, ← hn2] at hu2
          subst hu2
          have hs2 := hm2.below
          have HM2 := Lib.hid hm2
          clear ht2 hm2 hn2
          refine ⟨hs2, ?_⟩
          go_simp
          refine H_both (i := 4) (j := 9) (by as_aux_lemma => kernel_rfl) rfl rfl (by rfl) (by rfl) ?_ ?_
          · go_simp
            obtain ⟨w3, hw3⟩ : ∃ w3, w3 = w2.alloc (.cells #[] 3) := ⟨_, rfl⟩
            obtain ⟨g3, hg3⟩ : ∃ g3, g3 = w2.heap.size := ⟨_, rfl⟩
            have hm3 := HM2.out.lit hg3
            rw [← hw3] at hm3
            rw [← hw3, ← hg3]
            have hs3 := hm3.below
            have HM3 := Lib.hid hm3
            clear hw3 hg3 hm3
            refine ⟨hs3, ?_⟩
            refine H_both (i := 7) (j := 9) (by as_aux_lemma => kernel_rfl) rfl rfl (by rfl) (by rfl) ?_ ?_
            · refine wp_ir_append (.tmp 29) (.tmp 31) rfl rfl (base := W.heap.size) (L := []) (L2 := c.l) rfl (HM3.out.rows _ (List.mem_cons_self ..)) HM3.out.below.size rfl (HL.out.below (fun k hk => hk) HM3.out.below) (by have := HSM.out; simp; omega) ?_
              intro u4 w4 ht4
              have hm4 := HM3.out.app (l' := c.l) ht4
              obtain ⟨a4, k4, hu4⟩ := ht4.1.slice
              obtain ⟨n4, hn4⟩ : ∃ n4, n4 = c.l.length := ⟨_, rfl⟩
              rw [List.nil_append, ← hn4] at hu4
              subst hu4
              have hs4 := hm4.below
              have HM4 := Lib.hid hm4
              clear ht4 hm4 hn4
              refine ⟨hs4, ?_⟩
              go_simp
              refine H_take (i := 8) (v := ?_) rfl (by as_aux_lemma => kernel_rfl) (by as_aux_lemma => kernel_rfl) (by as_aux_lemma => kernel_rfl) (fun _ _ _ h => h) (by rfl) hs4 ?_ ?_
              rotate_left
              · intro w' hw'; go_simp; with_reducible rfl
              go_simp
              refine H_one (i := 9) (by as_aux_lemma => kernel_rfl) rfl (by rfl) ?_
              go_simp
              obtain ⟨w5, hw5⟩ : ∃ w5, w5 = w4.alloc (.cells #[.slice none 0 0, .slice none 0 0] 24) := ⟨_, rfl⟩
              obtain ⟨g5, hg5⟩ : ∃ g5, g5 = w4.heap.size := ⟨_, rfl⟩
              have hm5 := HM4.out.zero hg5
              rw [← hw5] at hm5
              rw [← hw5, ← hg5]
              have hs5 := hm5.below
              have HM5 := Lib.hid hm5
              clear hw5 hg5 hm5
              refine ⟨hs5, ?_⟩
              obtain ⟨x0, x1, y0, y1, xz⟩ := block2' (HM5.out.boxes g5 (by simp)).2.1
              refine H_one (i := 10) (by as_aux_lemma => kernel_rfl) rfl (by rfl) ?_
              go_simp
              have hdone := HM5.out.done
              obtain ⟨hnx, hbd⟩ := hdone
              refine ⟨hbd, ?_⟩
              refine wpAnyH_done (by as_aux_lemma => kernel_rfl) ?_ _
              have HFIN := Lib.hid (And.intro hnx hbd)
              clear hnx hbd x0 x1 y0 y1 xz
              go_wp2_with fail
              go_meet
              case rel => exact ⟨g5, (.slice a2 n2 k2), (.slice a4 n4 k4), rfl, HFIN⟩
            · go_simp
              obtain ⟨w6, hw6⟩ : ∃ w6, w6 = w3.alloc (.cells #[.slice none 0 0, .slice none 0 0] 24) := ⟨_, rfl⟩
              obtain ⟨g6, hg6⟩ : ∃ g6, g6 = w3.heap.size := ⟨_, rfl⟩
              have hm6 := HM3.out.zero hg6
              rw [← hw6] at hm6
              rw [← hw6, ← hg6]
              have hs6 := hm6.below
              have HM6 := Lib.hid hm6
              clear hw6 hg6 hm6
              refine ⟨hs6, ?_⟩
              refine H_one (i := 7) (by as_aux_lemma => kernel_rfl) rfl (by rfl) ?_
              refine wp_ir_append (.tmp 29) (.tmp 31) rfl rfl (base := W.heap.size) (L := []) (L2 := c.l) rfl (HM6.out.rows _ (List.mem_cons_self ..)) HM6.out.below.size rfl (HL.out.below (fun k hk => hk) HM6.out.below) (by have := HSM.out; simp; omega) ?_
              intro u7 w7 ht7
              have hm7 := HM6.out.app (l' := c.l) ht7
              obtain ⟨a7, k7, hu7⟩ := ht7.1.slice
              obtain ⟨n7, hn7⟩ : ∃ n7, n7 = c.l.length := ⟨_, rfl⟩
              rw [List.nil_append, ← hn7] at hu7
              subst hu7
              have hs7 := hm7.below
              have HM7 := Lib.hid hm7
              clear ht7 hm7 hn7
              refine ⟨hs7, ?_⟩
              go_simp
              obtain ⟨x0, x1, y0, y1, xz⟩ := block2' (HM7.out.boxes g6 (by simp)).2.1
              refine H_take (i := 8) (v := ?_) rfl (by as_aux_lemma => kernel_rfl) (by as_aux_lemma => kernel_rfl) (by as_aux_lemma => kernel_rfl) (fun _ _ _ h => h) (by rfl) hs7 ?_ ?_
              rotate_left
              · intro w' hw'; go_simp; with_reducible rfl
              go_simp
              refine H_one (i := 10) (by as_aux_lemma => kernel_rfl) rfl (by rfl) ?_
              go_simp
              have hdone := HM7.out.done
              obtain ⟨hnx, hbd⟩ := hdone
              refine ⟨hbd, ?_⟩
              refine wpAnyH_done (by as_aux_lemma => kernel_rfl) ?_ _
              have HFIN := Lib.hid (And.intro hnx hbd)
              clear hnx hbd x0 x1 y0 y1 xz
              go_wp2_with fail
              go_meet
              case rel => exact ⟨g6, (.slice a2 n2 k2), (.slice a7 n7 k7), rfl, HFIN⟩
          · go_simp
            obtain ⟨w8, hw8⟩ : ∃ w8, w8 = w2.alloc (.cells #[.slice none 0 0, .slice none 0 0] 24) := ⟨_, rfl⟩
            obtain ⟨g8, hg8⟩ : ∃ g8, g8 = w2.heap.size := ⟨_, rfl⟩
            have hm8 := HM2.out.zero hg8
            rw [← hw8] at hm8
            rw [← hw8, ← hg8]
            have hs8 := hm8.below
            have HM8 := Lib.hid hm8
            clear hw8 hg8 hm8
            refine ⟨hs8, ?_⟩
            refine H_one (i := 4) (by as_aux_lemma => kernel_rfl) rfl (by rfl) ?_
            go_simp
            obtain ⟨w9, hw9⟩ : ∃ w9, w9 = w8.alloc (.cells #[] 3) := ⟨_, rfl⟩
            obtain ⟨g9, hg9⟩ : ∃ g9, g9 = w8.heap.size := ⟨_, rfl⟩
            have hm9 := HM8.out.lit hg9
            rw [← hw9] at hm9
            rw [← hw9, ← hg9]
            have hs9 := hm9.below
            have HM9 := Lib.hid hm9
            clear hw9 hg9 hm9
            refine ⟨hs9, ?_⟩
            refine H_one (i := 7) (by as_aux_lemma => kernel_rfl) rfl (by rfl) ?_
            refine wp_ir_append (.tmp 29) (.tmp 31) rfl rfl (base := W.heap.size) (L := []) (L2 := c.l) rfl (HM9.out.rows _ (List.mem_cons_self ..)) HM9.out.below.size rfl (HL.out.below (fun k hk => hk) HM9.out.below) (by have := HSM.out; simp; omega) ?_
            intro u10 w10 ht10
            have hm10 := HM9.out.app (l' := c.l) ht10
            obtain ⟨a10, k10, hu10⟩ := ht10.1.slice
            obtain ⟨n10, hn10⟩ : ∃ n10, n10 = c.l.length := ⟨_, rfl⟩
            rw [List.nil_append, ← hn10] at hu10
            subst hu10
            have hs10 := hm10.below
            have HM10 := Lib.hid hm10
            clear ht10 hm10 hn10
            refine ⟨hs10, ?_⟩
            go_simp
            obtain ⟨x0, x1, y0, y1, xz⟩ := block2' (HM10.out.boxes g8 (by simp)).2.1
            refine H_take (i := 8) (v := ?_) rfl (by as_aux_lemma => kernel_rfl) (by as_aux_lemma => kernel_rfl) (by as_aux_lemma => kernel_rfl) (fun _ _ _ h => h) (by rfl) hs10 ?_ ?_
            rotate_left
            · intro w' hw'; go_simp; with_reducible rfl
            go_simp
            refine H_one (i := 10) (by as_aux_lemma => kernel_rfl) rfl (by rfl) ?_
            go_simp
            have hdone := HM10.out.done
            obtain ⟨hnx, hbd⟩ := hdone
            refine ⟨hbd, ?_⟩
            refine wpAnyH_done (by as_aux_lemma => kernel_rfl) ?_ _
            have HFIN := Lib.hid (And.intro hnx hbd)
            clear hnx hbd x0 x1 y0 y1 xz
            go_wp2_with fail
            go_meet
            case rel => exact ⟨g8, (.slice a2 n2 k2), (.slice a10 n10 k10), rfl, HFIN⟩
        · go_simp
          obtain ⟨w11, hw11⟩ : ∃ w11, w11 = w1.alloc (.cells #[] 3) := ⟨_, rfl⟩
          obtain ⟨g11, hg11⟩ : ∃ g11, g11 = w1.heap.size := ⟨_, rfl⟩
          have hm11 := HM1.out.lit hg11
          rw [← hw11] at hm11
          rw [← hw11, ← hg11]
          have hs11 := hm11.below
          have HM11 := Lib.hid hm11
          clear hw11 hg11 hm11
          refine ⟨hs11, ?_⟩
          refine H_both (i := 3) (j := 9) (by as_aux_lemma => kernel_rfl) rfl rfl (by rfl) (by rfl) ?_ ?_
          · have HM11s := Lib.hid HM11.out.swap
            refine wp_ir_append (.tmp 25) (.tmp 27) rfl rfl (base := W.heap.size) (L := []) (L2 := c.v) rfl (HM11s.out.rows _ (List.mem_cons_self ..)) HM11s.out.below.size rfl (HV.out.below (fun k hk => hk) HM11s.out.below) (by have := HSM.out; simp; omega) ?_
            intro u12 w12 ht12
            have hm12 := HM11s.out.app (l' := c.v) ht12
            obtain ⟨a12, k12, hu12⟩ := ht12.1.slice
            obtain ⟨n12, hn12⟩ : ∃ n12, n12 = c.v.length := ⟨_, rfl⟩
            rw [List.nil_append, ← hn12] at hu12
            subst hu12
            have hs12 := hm12.below
            have HM12 := Lib.hid hm12
            clear ht12 hm12 hn12
            refine ⟨hs12, ?_⟩
            go_simp
            refine H_both (i := 7) (j := 9) (by as_aux_lemma => kernel_rfl) rfl rfl (by rfl) (by rfl) ?_ ?_
            · have HM12s := Lib.hid HM12.out.swap
              refine wp_ir_append (.tmp 29) (.tmp 31) rfl rfl (base := W.heap.size) (L := []) (L2 := c.l) rfl (HM12s.out.rows _ (List.mem_cons_self ..)) HM12s.out.below.size rfl (HL.out.below (fun k hk => hk) HM12s.out.below) (by have := HSM.out; simp; omega) ?_
              intro u13 w13 ht13
              have hm13 := HM12s.out.app (l' := c.l) ht13
              obtain ⟨a13, k13, hu13⟩ := ht13.1.slice
              obtain ⟨n13, hn13⟩ : ∃ n13, n13 = c.l.length := ⟨_, rfl⟩
              rw [List.nil_append, ← hn13] at hu13
              subst hu13
              have hs13 := hm13.below
              have HM13 := Lib.hid hm13
              clear ht13 hm13 hn13
              refine ⟨hs13, ?_⟩
              go_simp
              refine H_take (i := 8) (v := ?_) rfl (by as_aux_lemma => kernel_rfl) (by as_aux_lemma => kernel_rfl) (by as_aux_lemma => kernel_rfl) (fun _ _ _ h => h) (by rfl) hs13 ?_ ?_
              rotate_left
              · intro w' hw'; go_simp; with_reducible rfl
              go_simp
              refine H_one (i := 9) (by as_aux_lemma => kernel_rfl) rfl (by rfl) ?_
              go_simp
              obtain ⟨w14, hw14⟩ : ∃ w14, w14 = w13.alloc (.cells #[.slice none 0 0, .slice none 0 0] 24) := ⟨_, rfl⟩
              obtain ⟨g14, hg14⟩ : ∃ g14, g14 = w13.heap.size := ⟨_, rfl⟩
              have hm14 := HM13.out.zero hg14
              rw [← hw14] at hm14
              rw [← hw14, ← hg14]
              have hs14 := hm14.below
              have HM14 := Lib.hid hm14
              clear hw14 hg14 hm14
              refine ⟨hs14, ?_⟩
              obtain ⟨x0, x1, y0, y1, xz⟩ := block2' (HM14.out.boxes g14 (by simp)).2.1
              refine H_one (i := 10) (by as_aux_lemma => kernel_rfl) rfl (by rfl) ?_
              go_simp
              have hdone := HM14.out.done
              obtain ⟨hnx, hbd⟩ := hdone
              refine ⟨hbd, ?_⟩
              refine wpAnyH_done (by as_aux_lemma => kernel_rfl) ?_ _
              have HFIN := Lib.hid (And.intro hnx hbd)
              clear hnx hbd x0 x1 y0 y1 xz
              go_wp2_with fail
              go_meet
              case rel => exact ⟨g14, (.slice a12 n12 k12), (.slice a13 n13 k13), rfl, HFIN⟩
            · go_simp
              obtain ⟨w15, hw15⟩ : ∃ w15, w15 = w12.alloc (.cells #[.slice none 0 0, .slice none 0 0] 24) := ⟨_, rfl⟩
              obtain ⟨g15, hg15⟩ : ∃ g15, g15 = w12.heap.size := ⟨_, rfl⟩
              have hm15 := HM12.out.zero hg15
              rw [← hw15] at hm15
              rw [← hw15, ← hg15]
              have hs15 := hm15.below
              have HM15 := Lib.hid hm15
              clear hw15 hg15 hm15
              refine ⟨hs15, ?_⟩
              refine H_one (i := 7) (by as_aux_lemma => kernel_rfl) rfl (by rfl) ?_
              have HM15s := Lib.hid HM15.out.swap
              refine wp_ir_append (.tmp 29) (.tmp 31) rfl rfl (base := W.heap.size) (L := []) (L2 := c.l) rfl (HM15s.out.rows _ (List.mem_cons_self ..)) HM15s.out.below.size rfl (HL.out.below (fun k hk => hk) HM15s.out.below) (by have := HSM.out; simp; omega) ?_
              intro u16 w16 ht16
              have hm16 := HM15s.out.app (l' := c.l) ht16
              obtain ⟨a16, k16, hu16⟩ := ht16.1.slice
              obtain ⟨n16, hn16⟩ : ∃ n16, n16 = c.l.length := ⟨_, rfl⟩
              rw [List.nil_append, ← hn16] at hu16
              subst hu16
              have hs16 := hm16.below
              have HM16 := Lib.hid hm16
              clear ht16 hm16 hn16
              refine ⟨hs16, ?_⟩
              go_simp
              obtain ⟨x0, x1, y0, y1, xz⟩ := block2' (HM16.out.boxes g15 (by simp)).2.1
              refine H_take (i := 8) (v := ?_) rfl (by as_aux_lemma => kernel_rfl) (by as_aux_lemma => kernel_rfl) (by as_aux_lemma => kernel_rfl) (fun _ _ _ h => h) (by rfl) hs16 ?_ ?_
              rotate_left
              · intro w' hw'; go_simp; with_reducible rfl
              go_simp
              refine H_one (i := 10) (by as_aux_lemma => kernel_rfl) rfl (by rfl) ?_
              go_simp
              have hdone := HM16.out.done
              obtain ⟨hnx, hbd⟩ := hdone
              refine ⟨hbd, ?_⟩
              refine wpAnyH_done (by as_aux_lemma => kernel_rfl) ?_ _
              have HFIN := Lib.hid (And.intro hnx hbd)
              clear hnx hbd x0 x1 y0 y1 xz
              go_wp2_with fail
              go_meet
              case rel => exact ⟨g15, (.slice a12 n12 k12), (.slice a16 n16 k16), rfl, HFIN⟩
          · go_simp
            obtain ⟨w17, hw17⟩ : ∃ w17, w17 = w11.alloc (.cells #[.slice none 0 0, .slice none 0 0] 24) := ⟨_, rfl⟩
            obtain ⟨g17, hg17⟩ : ∃ g17, g17 = w11.heap.size := ⟨_, rfl⟩
            have hm17 := HM11.out.zero hg17
            rw [← hw17] at hm17
            rw [← hw17, ← hg17]
            have hs17 := hm17.below
            have HM17 := Lib.hid hm17
            clear hw17 hg17 hm17
            refine ⟨hs17, ?_⟩
            refine H_one (i := 3) (by as_aux_lemma => kernel_rfl) rfl (by rfl) ?_
            have HM17s := Lib.hid HM17.out.swap
            refine wp_ir_append (.tmp 25) (.tmp 27) rfl rfl (base := W.heap.size) (L := []) (L2 := c.v) rfl (HM17s.out.rows _ (List.mem_cons_self ..)) HM17s.out.below.size rfl (HV.out.below (fun k hk => hk) HM17s.out.below) (by have := HSM.out; simp; omega) ?_
            intro u18 w18 ht18
            have hm18 := HM17s.out.app (l' := c.v) ht18
            obtain ⟨a18, k18, hu18⟩ := ht18.1.slice
            obtain ⟨n18, hn18⟩ : ∃ n18, n18 = c.v.length := ⟨_, rfl⟩
            rw [List.nil_append, ← hn18] at hu18
            subst hu18
            have hs18 := hm18.below
            have HM18 := Lib.hid hm18
            clear ht18 hm18 hn18
            refine ⟨hs18, ?_⟩
            go_simp
            refine H_one (i := 7) (by as_aux_lemma => kernel_rfl) rfl (by rfl) ?_
            have HM18s := Lib.hid HM18.out.swap
            refine wp_ir_append (.tmp 29) (.tmp 31) rfl rfl (base := W.heap.size) (L := []) (L2 := c.l) rfl (HM18s.out.rows _ (List.mem_cons_self ..)) HM18s.out.below.size rfl (HL.out.below (fun k hk => hk) HM18s.out.below) (by have := HSM.out; simp; omega) ?_
            intro u19 w19 ht19
            have hm19 := HM18s.out.app (l' := c.l) ht19
            obtain ⟨a19, k19, hu19⟩ := ht19.1.slice
            obtain ⟨n19, hn19⟩ : ∃ n19, n19 = c.l.length := ⟨_, rfl⟩
            rw [List.nil_append, ← hn19] at hu19
            subst hu19
            have hs19 := hm19.below
            have HM19 := Lib.hid hm19
            clear ht19 hm19 hn19
            refine ⟨hs19, ?_⟩
            go_simp
            obtain ⟨x0, x1, y0, y1, xz⟩ := block2' (HM19.out.boxes g17 (by simp)).2.1
            refine H_take (i := 8) (v := ?_) rfl (by as_aux_lemma => kernel_rfl) (by as_aux_lemma => kernel_rfl) (by as_aux_lemma => kernel_rfl) (fun _ _ _ h => h) (by rfl) hs19 ?_ ?_
            rotate_left
            · intro w' hw'; go_simp; with_reducible rfl
            go_simp
            refine H_one (i := 10) (by as_aux_lemma => kernel_rfl) rfl (by rfl) ?_
            go_simp
            have hdone := HM19.out.done
            obtain ⟨hnx, hbd⟩ := hdone
            refine ⟨hbd, ?_⟩
            refine wpAnyH_done (by as_aux_lemma => kernel_rfl) ?_ _
            have HFIN := Lib.hid (And.intro hnx hbd)
            clear hnx hbd x0 x1 y0 y1 xz
            go_wp2_with fail
            go_meet
            case rel => exact ⟨g17, (.slice a18 n18 k18), (.slice a19 n19 k19), rfl, HFIN⟩
        · go_simp
          obtain ⟨w20, hw20⟩ : ∃ w20, w20 = w1.alloc (.cells #[.slice none 0 0, .slice none 0 0] 24) := ⟨_, rfl⟩
          obtain ⟨g20, hg20⟩ : ∃ g20, g20 = w1.heap.size := ⟨_, rfl⟩
          have hm20 := HM1.out.zero hg20
          rw [← hw20] at hm20
          rw [← hw20, ← hg20]
          have hs20 := hm20.below
          have HM20 := Lib.hid hm20
          clear hw20 hg20 hm20
          refine ⟨hs20, ?_⟩
          refine H_both (i := 3) (j := 4) (by as_aux_lemma => kernel_rfl) rfl rfl (by rfl) (by rfl) ?_ ?_
          · refine wp_ir_append (.tmp 25) (.tmp 27) rfl rfl (base := W.heap.size) (L := []) (L2 := c.v) rfl (HM20.out.rows _ (List.mem_cons_self ..)) HM20.out.below.size rfl (HV.out.below (fun k hk => hk) HM20.out.below) (by have := HSM.out; simp; omega) ?_
            intro u21 w21 ht21
            have hm21 := HM20.out.app (l' := c.v) ht21
            obtain ⟨a21, k21, hu21⟩ := ht21.1.slice
            obtain ⟨n21, hn21⟩ : ∃ n21, n21 = c.v.length := ⟨_, rfl⟩
            rw [List.nil_append, ← hn21] at hu21
            subst hu21
            have hs21 := hm21.below
            have HM21 := Lib.hid hm21
            clear ht21 hm21 hn21
            refine ⟨hs21, ?_⟩
            go_simp
            refine H_one (i := 4) (by as_aux_lemma => kernel_rfl) rfl (by rfl) ?_
            go_simp
            obtain ⟨w22, hw22⟩ : ∃ w22, w22 = w21.alloc (.cells #[] 3) := ⟨_, rfl⟩
            obtain ⟨g22, hg22⟩ : ∃ g22, g22 = w21.heap.size := ⟨_, rfl⟩
            have hm22 := HM21.out.lit hg22
            rw [← hw22] at hm22
            rw [← hw22, ← hg22]
            have hs22 := hm22.below
            have HM22 := Lib.hid hm22
            clear hw22 hg22 hm22
            refine ⟨hs22, ?_⟩
            refine H_one (i := 7) (by as_aux_lemma => kernel_rfl) rfl (by rfl) ?_
            refine wp_ir_append (.tmp 29) (.tmp 31) rfl rfl (base := W.heap.size) (L := []) (L2 := c.l) rfl (HM22.out.rows _ (List.mem_cons_self ..)) HM22.out.below.size rfl (HL.out.below (fun k hk => hk) HM22.out.below) (by have := HSM.out; simp; omega) ?_
            intro u23 w23 ht23
            have hm23 := HM22.out.app (l' := c.l) ht23
            obtain ⟨a23, k23, hu23⟩ := ht23.1.slice
            obtain ⟨n23, hn23⟩ : ∃ n23, n23 = c.l.length := ⟨_, rfl⟩
            rw [List.nil_append, ← hn23] at hu23
            subst hu23
            have hs23 := hm23.below
            have HM23 := Lib.hid hm23
            clear ht23 hm23 hn23
            refine ⟨hs23, ?_⟩
            go_simp
            obtain ⟨x0, x1, y0, y1, xz⟩ := block2' (HM23.out.boxes g20 (by simp)).2.1
            refine H_take (i := 8) (v := ?_) rfl (by as_aux_lemma => kernel_rfl) (by as_aux_lemma => kernel_rfl) (by as_aux_lemma => kernel_rfl) (fun _ _ _ h => h) (by rfl) hs23 ?_ ?_
            rotate_left
            · intro w' hw'; go_simp; with_reducible rfl
            go_simp
            refine H_one (i := 10) (by as_aux_lemma => kernel_rfl) rfl (by rfl) ?_
            go_simp
            have hdone := HM23.out.done
            obtain ⟨hnx, hbd⟩ := hdone
            refine ⟨hbd, ?_⟩
            refine wpAnyH_done (by as_aux_lemma => kernel_rfl) ?_ _
            have HFIN := Lib.hid (And.intro hnx hbd)
            clear hnx hbd x0 x1 y0 y1 xz
            go_wp2_with fail
            go_meet
            case rel => exact ⟨g20, (.slice a21 n21 k21), (.slice a23 n23 k23), rfl, HFIN⟩
          · go_simp
            obtain ⟨w24, hw24⟩ : ∃ w24, w24 = w20.alloc (.cells #[] 3) := ⟨_, rfl⟩
            obtain ⟨g24, hg24⟩ : ∃ g24, g24 = w20.heap.size := ⟨_, rfl⟩
            have hm24 := HM20.out.lit hg24
            rw [← hw24] at hm24
            rw [← hw24, ← hg24]
            have hs24 := hm24.below
            have HM24 := Lib.hid hm24
            clear hw24 hg24 hm24
            refine ⟨hs24, ?_⟩
            refine H_one (i := 3) (by as_aux_lemma => kernel_rfl) rfl (by rfl) ?_
            have HM24s := Lib.hid HM24.out.swap
            refine wp_ir_append (.tmp 25) (.tmp 27) rfl rfl (base := W.heap.size) (L := []) (L2 := c.v) rfl (HM24s.out.rows _ (List.mem_cons_self ..)) HM24s.out.below.size rfl (HV.out.below (fun k hk => hk) HM24s.out.below) (by have := HSM.out; simp; omega) ?_
            intro u25 w25 ht25
            have hm25 := HM24s.out.app (l' := c.v) ht25
            obtain ⟨a25, k25, hu25⟩ := ht25.1.slice
            obtain ⟨n25, hn25⟩ : ∃ n25, n25 = c.v.length := ⟨_, rfl⟩
            rw [List.nil_append, ← hn25] at hu25
            subst hu25
            have hs25 := hm25.below
            have HM25 := Lib.hid hm25
            clear ht25 hm25 hn25
            refine ⟨hs25, ?_⟩
            go_simp
            refine H_one (i := 7) (by as_aux_lemma => kernel_rfl) rfl (by rfl) ?_
            have HM25s := Lib.hid HM25.out.swap
            refine wp_ir_append (.tmp 29) (.tmp 31) rfl rfl (base := W.heap.size) (L := []) (L2 := c.l) rfl (HM25s.out.rows _ (List.mem_cons_self ..)) HM25s.out.below.size rfl (HL.out.below (fun k hk => hk) HM25s.out.below) (by have := HSM.out; simp; omega) ?_
            intro u26 w26 ht26
            have hm26 := HM25s.out.app (l' := c.l) ht26
            obtain ⟨a26, k26, hu26⟩ := ht26.1.slice
            obtain ⟨n26, hn26⟩ : ∃ n26, n26 = c.l.length := ⟨_, rfl⟩
            rw [List.nil_append, ← hn26] at hu26
            subst hu26
            have hs26 := hm26.below
            have HM26 := Lib.hid hm26
            clear ht26 hm26 hn26
            refine ⟨hs26, ?_⟩
            go_simp
            obtain ⟨x0, x1, y0, y1, xz⟩ := block2' (HM26.out.boxes g20 (by simp)).2.1
            refine H_take (i := 8) (v := ?_) rfl (by as_aux_lemma => kernel_rfl) (by as_aux_lemma => kernel_rfl) (by as_aux_lemma => kernel_rfl) (fun _ _ _ h => h) (by rfl) hs26 ?_ ?_
            rotate_left
            · intro w' hw'; go_simp; with_reducible rfl
            go_simp
            refine H_one (i := 10) (by as_aux_lemma => kernel_rfl) rfl (by rfl) ?_
            go_simp
            have hdone := HM26.out.done
            obtain ⟨hnx, hbd⟩ := hdone
            refine ⟨hbd, ?_⟩
            refine wpAnyH_done (by as_aux_lemma => kernel_rfl) ?_ _
            have HFIN := Lib.hid (And.intro hnx hbd)
            clear hnx hbd x0 x1 y0 y1 xz
            go_wp2_with fail
            go_meet
            case rel => exact ⟨g20, (.slice a25 n25 k25), (.slice a26 n26 k26), rfl, HFIN⟩
      · go_simp
        obtain ⟨w27, hw27⟩ : ∃ w27, w27 = w0.alloc (.cells #[] 3) := ⟨_, rfl⟩
        obtain ⟨g27, hg27⟩ : ∃ g27, g27 = w0.heap.size := ⟨_, rfl⟩
        have hm27 := HM0.out.lit hg27
        rw [← hw27] at hm27
        rw [← hw27, ← hg27]
        have hs27 := hm27.below
        have HM27 := Lib.hid hm27
        clear hw27 hg27 hm27
        refine ⟨hs27, ?_⟩
        refine H_both (i := 0) (j := 9) (by as_aux_lemma => kernel_rfl) rfl rfl (by rfl) (by rfl) ?_ ?_
        · go_simp
          obtain ⟨w28, hw28⟩ : ∃ w28, w28 = w27.alloc (.cells #[] 3) := ⟨_, rfl⟩
          obtain ⟨g28, hg28⟩ : ∃ g28, g28 = w27.heap.size := ⟨_, rfl⟩
          have hm28 := HM27.out.lit hg28
          rw [← hw28] at hm28
          rw [← hw28, ← hg28]
          have hs28 := hm28.below
          have HM28 := Lib.hid hm28
          clear hw28 hg28 hm28
          refine ⟨hs28, ?_⟩
          refine H_both (i := 3) (j := 9) (by as_aux_lemma => kernel_rfl) rfl rfl (by rfl) (by rfl) ?_ ?_
          · refine wp_ir_append (.tmp 25) (.tmp 27) rfl rfl (base := W.heap.size) (L := []) (L2 := c.v) rfl (HM28.out.rows _ (List.mem_cons_self ..)) HM28.out.below.size rfl (HV.out.below (fun k hk => hk) HM28.out.below) (by have := HSM.out; simp; omega) ?_
            intro u29 w29 ht29
            have hm29 := HM28.out.app (l' := c.v) ht29
            obtain ⟨a29, k29, hu29⟩ := ht29.1.slice
            obtain ⟨n29, hn29⟩ : ∃ n29, n29 = c.v.length := ⟨_, rfl⟩
            rw [List.nil_append, ← hn29] at hu29
            subst hu29
            have hs29 := hm29.below
            have HM29 := Lib.hid hm29
            clear ht29 hm29 hn29
            refine ⟨hs29, ?_⟩
            go_simp
            refine H_both (i := 7) (j := 9) (by as_aux_lemma => kernel_rfl) rfl rfl (by rfl) (by rfl) ?_ ?_
            · have HM29s := Lib.hid HM29.out.swap
              refine wp_ir_append (.tmp 29) (.tmp 31) rfl rfl (base := W.heap.size) (L := []) (L2 := c.l) rfl (HM29s.out.rows _ (List.mem_cons_self ..)) HM29s.out.below.size rfl (HL.out.below (fun k hk => hk) HM29s.out.below) (by have := HSM.out; simp; omega) ?_
              intro u30 w30 ht30
              have hm30 := HM29s.out.app (l' := c.l) ht30
              obtain ⟨a30, k30, hu30⟩ := ht30.1.slice
              obtain ⟨n30, hn30⟩ : ∃ n30, n30 = c.l.length := ⟨_, rfl⟩
              rw [List.nil_append, ← hn30] at hu30
              subst hu30
              have hs30 := hm30.below
              have HM30 := Lib.hid hm30
              clear ht30 hm30 hn30
              refine ⟨hs30, ?_⟩
              go_simp
              refine H_take (i := 8) (v := ?_) rfl (by as_aux_lemma => kernel_rfl) (by as_aux_lemma => kernel_rfl) (by as_aux_lemma => kernel_rfl) (fun _ _ _ h => h) (by rfl) hs30 ?_ ?_
              rotate_left
              · intro w' hw'; go_simp; with_reducible rfl
              go_simp
              refine H_one (i := 9) (by as_aux_lemma => kernel_rfl) rfl (by rfl) ?_
              go_simp
              obtain ⟨w31, hw31⟩ : ∃ w31, w31 = w30.alloc (.cells #[.slice none 0 0, .slice none 0 0] 24) := ⟨_, rfl⟩
              obtain ⟨g31, hg31⟩ : ∃ g31, g31 = w30.heap.size := ⟨_, rfl⟩
              have hm31 := HM30.out.zero hg31
              rw [← hw31] at hm31
              rw [← hw31, ← hg31]
              have hs31 := hm31.below
              have HM31 := Lib.hid hm31
              clear hw31 hg31 hm31
              refine ⟨hs31, ?_⟩
              obtain ⟨x0, x1, y0, y1, xz⟩ := block2' (HM31.out.boxes g31 (by simp)).2.1
              refine H_one (i := 10) (by as_aux_lemma => kernel_rfl) rfl (by rfl) ?_
              go_simp
              have hdone := HM31.out.done
              obtain ⟨hnx, hbd⟩ := hdone
              refine ⟨hbd, ?_⟩
              refine wpAnyH_done (by as_aux_lemma => kernel_rfl) ?_ _
              have HFIN := Lib.hid (And.intro hnx hbd)
              clear hnx hbd x0 x1 y0 y1 xz
              go_wp2_with fail
              go_meet
              case rel => exact ⟨g31, (.slice a29 n29 k29), (.slice a30 n30 k30), rfl, HFIN⟩
            · go_simp
              obtain ⟨w32, hw32⟩ : ∃ w32, w32 = w29.alloc (.cells #[.slice none 0 0, .slice none 0 0] 24) := ⟨_, rfl⟩
              obtain ⟨g32, hg32⟩ : ∃ g32, g32 = w29.heap.size := ⟨_, rfl⟩
              have hm32 := HM29.out.zero hg32
              rw [← hw32] at hm32
              rw [← hw32, ← hg32]
              have hs32 := hm32.below
              have HM32 := Lib.hid hm32
              clear hw32 hg32 hm32
              refine ⟨hs32, ?_⟩
              refine H_one (i := 7) (by as_aux_lemma => kernel_rfl) rfl (by rfl) ?_
              have HM32s := Lib.hid HM32.out.swap
              refine wp_ir_append (.tmp 29) (.tmp 31) rfl rfl (base := W.heap.size) (L := []) (L2 := c.l) rfl (HM32s.out.rows _ (List.mem_cons_self ..)) HM32s.out.below.size rfl (HL.out.below (fun k hk => hk) HM32s.out.below) (by have := HSM.out; simp; omega) ?_
              intro u33 w33 ht33
              have hm33 := HM32s.out.app (l' := c.l) ht33
              obtain ⟨a33, k33, hu33⟩ := ht33.1.slice
              obtain ⟨n33, hn33⟩ : ∃ n33, n33 = c.l.length := ⟨_, rfl⟩
              rw [List.nil_append, ← hn33] at hu33
              subst hu33
              have hs33 := hm33.below
              have HM33 := Lib.hid hm33
              clear ht33 hm33 hn33
              refine ⟨hs33, ?_⟩
              go_simp
              obtain ⟨x0, x1, y0, y1, xz⟩ := block2' (HM33.out.boxes g32 (by simp)).2.1
              refine H_take (i := 8) (v := ?_) rfl (by as_aux_lemma => kernel_rfl) (by as_aux_lemma => kernel_rfl) (by as_aux_lemma => kernel_rfl) (fun _ _ _ h => h) (by rfl) hs33 ?_ ?_
              rotate_left
              · intro w' hw'; go_simp; with_reducible rfl
              go_simp
              refine H_one (i := 10) (by as_aux_lemma => kernel_rfl) rfl (by rfl) ?_
              go_simp
              have hdone := HM33.out.done
              obtain ⟨hnx, hbd⟩ := hdone
              refine ⟨hbd, ?_⟩
              refine wpAnyH_done (by as_aux_lemma => kernel_rfl) ?_ _
              have HFIN := Lib.hid (And.intro hnx hbd)
              clear hnx hbd x0 x1 y0 y1 xz
              go_wp2_with fail
              go_meet
              case rel => exact ⟨g32, (.slice a29 n29 k29), (.slice a33 n33 k33), rfl, HFIN⟩
          · go_simp
            obtain ⟨w34, hw34⟩ : ∃ w34, w34 = w28.alloc (.cells #[.slice none 0 0, .slice none 0 0] 24) := ⟨_, rfl⟩
            obtain ⟨g34, hg34⟩ : ∃ g34, g34 = w28.heap.size := ⟨_, rfl⟩
            have hm34 := HM28.out.zero hg34
            rw [← hw34] at hm34
            rw [← hw34, ← hg34]
            have hs34 := hm34.below
            have HM34 := Lib.hid hm34
            clear hw34 hg34 hm34
            refine ⟨hs34, ?_⟩
            refine H_one (i := 3) (by as_aux_lemma => kernel_rfl) rfl (by rfl) ?_
            refine wp_ir_append (.tmp 25) (.tmp 27) rfl rfl (base := W.heap.size) (L := []) (L2 := c.v) rfl (HM34.out.rows _ (List.mem_cons_self ..)) HM34.out.below.size rfl (HV.out.below (fun k hk => hk) HM34.out.below) (by have := HSM.out; simp; omega) ?_
            intro u35 w35 ht35
            have hm35 := HM34.out.app (l' := c.v) ht35
            obtain ⟨a35, k35, hu35⟩ := ht35.1.slice
            obtain ⟨n35, hn35⟩ : ∃ n35, n35 = c.v.length := ⟨_, rfl⟩
            rw [List.nil_append, ← hn35] at hu35
            subst hu35
            have hs35 := hm35.below
            have HM35 := Lib.hid hm35
            clear ht35 hm35 hn35
            refine ⟨hs35, ?_⟩
            go_simp
            refine H_one (i := 7) (by as_aux_lemma => kernel_rfl) rfl (by rfl) ?_
            have HM35s := Lib.hid HM35.out.swap
            refine wp_ir_append (.tmp 29) (.tmp 31) rfl rfl (base := W.heap.size) (L := []) (L2 := c.l) rfl (HM35s.out.rows _ (List.mem_cons_self ..)) HM35s.out.below.size rfl (HL.out.below (fun k hk => hk) HM35s.out.below) (by have := HSM.out; simp; omega) ?_
            intro u36 w36 ht36
            have hm36 := HM35s.out.app (l' := c.l) ht36
            obtain ⟨a36, k36, hu36⟩ := ht36.1.slice
            obtain ⟨n36, hn36⟩ : ∃ n36, n36 = c.l.length := ⟨_, rfl⟩
            rw [List.nil_append, ← hn36] at hu36
            subst hu36
            have hs36 := hm36.below
            have HM36 := Lib.hid hm36
            clear ht36 hm36 hn36
            refine ⟨hs36, ?_⟩
            go_simp
            obtain ⟨x0, x1, y0, y1, xz⟩ := block2' (HM36.out.boxes g34 (by simp)).2.1
            refine H_take (i := 8) (v := ?_) rfl (by as_aux_lemma => kernel_rfl) (by as_aux_lemma => kernel_rfl) (by as_aux_lemma => kernel_rfl) (fun _ _ _ h => h) (by rfl) hs36 ?_ ?_
            rotate_left
            · intro w' hw'; go_simp; with_reducible rfl
            go_simp
            refine H_one (i := 10) (by as_aux_lemma => kernel_rfl) rfl (by rfl) ?_
            go_simp
            have hdone := HM36.out.done
            obtain ⟨hnx, hbd⟩ := hdone
            refine ⟨hbd, ?_⟩
            refine wpAnyH_done (by as_aux_lemma => kernel_rfl) ?_ _
            have HFIN := Lib.hid (And.intro hnx hbd)
            clear hnx hbd x0 x1 y0 y1 xz
            go_wp2_with fail
            go_meet
            case rel => exact ⟨g34, (.slice a35 n35 k35), (.slice a36 n36 k36), rfl, HFIN⟩
        · go_simp
          obtain ⟨w37, hw37⟩ : ∃ w37, w37 = w27.alloc (.cells #[.slice none 0 0, .slice none 0 0] 24) := ⟨_, rfl⟩
          obtain ⟨g37, hg37⟩ : ∃ g37, g37 = w27.heap.size := ⟨_, rfl⟩
          have hm37 := HM27.out.zero hg37
          rw [← hw37] at hm37
          rw [← hw37, ← hg37]
          have hs37 := hm37.below
          have HM37 := Lib.hid hm37
          clear hw37 hg37 hm37
          refine ⟨hs37, ?_⟩
          refine H_one (i := 0) (by as_aux_lemma => kernel_rfl) rfl (by rfl) ?_
          go_simp
          obtain ⟨w38, hw38⟩ : ∃ w38, w38 = w37.alloc (.cells #[] 3) := ⟨_, rfl⟩
          obtain ⟨g38, hg38⟩ : ∃ g38, g38 = w37.heap.size := ⟨_, rfl⟩
          have hm38 := HM37.out.lit hg38
          rw [← hw38] at hm38
          rw [← hw38, ← hg38]
          have hs38 := hm38.below
          have HM38 := Lib.hid hm38
          clear hw38 hg38 hm38
          refine ⟨hs38, ?_⟩
          refine H_one (i := 3) (by as_aux_lemma => kernel_rfl) rfl (by rfl) ?_
          refine wp_ir_append (.tmp 25) (.tmp 27) rfl rfl (base := W.heap.size) (L := []) (L2 := c.v) rfl (HM38.out.rows _ (List.mem_cons_self ..)) HM38.out.below.size rfl (HV.out.below (fun k hk => hk) HM38.out.below) (by have := HSM.out; simp; omega) ?_
          intro u39 w39 ht39
          have hm39 := HM38.out.app (l' := c.v) ht39
          obtain ⟨a39, k39, hu39⟩ := ht39.1.slice
          obtain ⟨n39, hn39⟩ : ∃ n39, n39 = c.v.length := ⟨_, rfl⟩
          rw [List.nil_append, ← hn39] at hu39
          subst hu39
          have hs39 := hm39.below
          have HM39 := Lib.hid hm39
          clear ht39 hm39 hn39
          refine ⟨hs39, ?_⟩
          go_simp
          refine H_one (i := 7) (by as_aux_lemma => kernel_rfl) rfl (by rfl) ?_
          have HM39s := Lib.hid HM39.out.swap
          refine wp_ir_append (.tmp 29) (.tmp 31) rfl rfl (base := W.heap.size) (L := []) (L2 := c.l) rfl (HM39s.out.rows _ (List.mem_cons_self ..)) HM39s.out.below.size rfl (HL.out.below (fun k hk => hk) HM39s.out.below) (by have := HSM.out; simp; omega) ?_
          intro u40 w40 ht40
          have hm40 := HM39s.out.app (l' := c.l) ht40
          obtain ⟨a40, k40, hu40⟩ := ht40.1.slice
          obtain ⟨n40, hn40⟩ : ∃ n40, n40 = c.l.length := ⟨_, rfl⟩
          rw [List.nil_append, ← hn40] at hu40
          subst hu40
          have hs40 := hm40.below
          have HM40 := Lib.hid hm40
          clear ht40 hm40 hn40
          refine ⟨hs40, ?_⟩
          go_simp
          obtain ⟨x0, x1, y0, y1, xz⟩ := block2' (HM40.out.boxes g37 (by simp)).2.1
          refine H_take (i := 8) (v := ?_) rfl (by as_aux_lemma => kernel_rfl) (by as_aux_lemma => kernel_rfl) (by as_aux_lemma => kernel_rfl) (fun _ _ _ h => h) (by rfl) hs40 ?_ ?_
          rotate_left
          · intro w' hw'; go_simp; with_reducible rfl
          go_simp
          refine H_one (i := 10) (by as_aux_lemma => kernel_rfl) rfl (by rfl) ?_
          go_simp
          have hdone := HM40.out.done
          obtain ⟨hnx, hbd⟩ := hdone
          refine ⟨hbd, ?_⟩
          refine wpAnyH_done (by as_aux_lemma => kernel_rfl) ?_ _
          have HFIN := Lib.hid (And.intro hnx hbd)
          clear hnx hbd x0 x1 y0 y1 xz
          go_wp2_with fail
          go_meet
          case rel => exact ⟨g37, (.slice a39 n39 k39), (.slice a40 n40 k40), rfl, HFIN⟩
      · go_simp
        obtain ⟨w41, hw41⟩ : ∃ w41, w41 = w0.alloc (.cells #[.slice none 0 0, .slice none 0 0] 24) := ⟨_, rfl⟩
        obtain ⟨g41, hg41⟩ : ∃ g41, g41 = w0.heap.size := ⟨_, rfl⟩
        have hm41 := HM0.out.zero hg41
        rw [← hw41] at hm41
        rw [← hw41, ← hg41]
        have hs41 := hm41.below
        have HM41 := Lib.hid hm41
        clear hw41 hg41 hm41
        refine ⟨hs41, ?_⟩
        refine H_both (i := 0) (j := 4) (by as_aux_lemma => kernel_rfl) rfl rfl (by rfl) (by rfl) ?_ ?_
        · go_simp
          obtain ⟨w42, hw42⟩ : ∃ w42, w42 = w41.alloc (.cells #[] 3) := ⟨_, rfl⟩
          obtain ⟨g42, hg42⟩ : ∃ g42, g42 = w41.heap.size := ⟨_, rfl⟩
          have hm42 := HM41.out.lit hg42
          rw [← hw42] at hm42
          rw [← hw42, ← hg42]
          have hs42 := hm42.below
          have HM42 := Lib.hid hm42
          clear hw42 hg42 hm42
          refine ⟨hs42, ?_⟩
          refine H_both (i := 3) (j := 4) (by as_aux_lemma => kernel_rfl) rfl rfl (by rfl) (by rfl) ?_ ?_
          · refine wp_ir_append (.tmp 25) (.tmp 27) rfl rfl (base := W.heap.size) (L := []) (L2 := c.v) rfl (HM42.out.rows _ (List.mem_cons_self ..)) HM42.out.below.size rfl (HV.out.below (fun k hk => hk) HM42.out.below) (by have := HSM.out; simp; omega) ?_
            intro u43 w43 ht43
            have hm43 := HM42.out.app (l' := c.v) ht43
            obtain ⟨a43, k43, hu43⟩ := ht43.1.slice
            obtain ⟨n43, hn43⟩ : ∃ n43, n43 = c.v.length := ⟨_, rfl⟩
            rw [List.nil_append, ← hn43] at hu43
            subst hu43
            have hs43 := hm43.below
            have HM43 := Lib.hid hm43
            clear ht43 hm43 hn43
            refine ⟨hs43, ?_⟩
            go_simp
            refine H_one (i := 4) (by as_aux_lemma => kernel_rfl) rfl (by rfl) ?_
            go_simp
            obtain ⟨w44, hw44⟩ : ∃ w44, w44 = w43.alloc (.cells #[] 3) := ⟨_, rfl⟩
            obtain ⟨g44, hg44⟩ : ∃ g44, g44 = w43.heap.size := ⟨_, rfl⟩
            have hm44 := HM43.out.lit hg44
            rw [← hw44] at hm44
            rw [← hw44, ← hg44]
            have hs44 := hm44.below
            have HM44 := Lib.hid hm44
            clear hw44 hg44 hm44
            refine ⟨hs44, ?_⟩
            refine H_one (i := 7) (by as_aux_lemma => kernel_rfl) rfl (by rfl) ?_
            refine wp_ir_append (.tmp 29) (.tmp 31) rfl rfl (base := W.heap.size) (L := []) (L2 := c.l) rfl (HM44.out.rows _ (List.mem_cons_self ..)) HM44.out.below.size rfl (HL.out.below (fun k hk => hk) HM44.out.below) (by have := HSM.out; simp; omega) ?_
            intro u45 w45 ht45
            have hm45 := HM44.out.app (l' := c.l) ht45
            obtain ⟨a45, k45, hu45⟩ := ht45.1.slice
            obtain ⟨n45, hn45⟩ : ∃ n45, n45 = c.l.length := ⟨_, rfl⟩
            rw [List.nil_append, ← hn45] at hu45
            subst hu45
            have hs45 := hm45.below
            have HM45 := Lib.hid hm45
            clear ht45 hm45 hn45
            refine ⟨hs45, ?_⟩
            go_simp
            obtain ⟨x0, x1, y0, y1, xz⟩ := block2' (HM45.out.boxes g41 (by simp)).2.1
            refine H_take (i := 8) (v := ?_) rfl (by as_aux_lemma => kernel_rfl) (by as_aux_lemma => kernel_rfl) (by as_aux_lemma => kernel_rfl) (fun _ _ _ h => h) (by rfl) hs45 ?_ ?_
            rotate_left
            · intro w' hw'; go_simp; with_reducible rfl
            go_simp
            refine H_one (i := 10) (by as_aux_lemma => kernel_rfl) rfl (by rfl) ?_
            go_simp
            have hdone := HM45.out.done
            obtain ⟨hnx, hbd⟩ := hdone
            refine ⟨hbd, ?_⟩
            refine wpAnyH_done (by as_aux_lemma => kernel_rfl) ?_ _
            have HFIN := Lib.hid (And.intro hnx hbd)
            clear hnx hbd x0 x1 y0 y1 xz
            go_wp2_with fail
            go_meet
            case rel => exact ⟨g41, (.slice a43 n43 k43), (.slice a45 n45 k45), rfl, HFIN⟩
          · go_simp
            obtain ⟨w46, hw46⟩ : ∃ w46, w46 = w42.alloc (.cells #[] 3) := ⟨_, rfl⟩
            obtain ⟨g46, hg46⟩ : ∃ g46, g46 = w42.heap.size := ⟨_, rfl⟩
            have hm46 := HM42.out.lit hg46
            rw [← hw46] at hm46
            rw [← hw46, ← hg46]
            have hs46 := hm46.below
            have HM46 := Lib.hid hm46
            clear hw46 hg46 hm46
            refine ⟨hs46, ?_⟩
            refine H_one (i := 3) (by as_aux_lemma => kernel_rfl) rfl (by rfl) ?_
            have HM46s := Lib.hid HM46.out.swap
            refine wp_ir_append (.tmp 25) (.tmp 27) rfl rfl (base := W.heap.size) (L := []) (L2 := c.v) rfl (HM46s.out.rows _ (List.mem_cons_self ..)) HM46s.out.below.size rfl (HV.out.below (fun k hk => hk) HM46s.out.below) (by have := HSM.out; simp; omega) ?_
            intro u47 w47 ht47
            have hm47 := HM46s.out.app (l' := c.v) ht47
            obtain ⟨a47, k47, hu47⟩ := ht47.1.slice
            obtain ⟨n47, hn47⟩ : ∃ n47, n47 = c.v.length := ⟨_, rfl⟩
            rw [List.nil_append, ← hn47] at hu47
            subst hu47
            have hs47 := hm47.below
            have HM47 := Lib.hid hm47
            clear ht47 hm47 hn47
            refine ⟨hs47, ?_⟩
            go_simp
            refine H_one (i := 7) (by as_aux_lemma => kernel_rfl) rfl (by rfl) ?_
            have HM47s := Lib.hid HM47.out.swap
            refine wp_ir_append (.tmp 29) (.tmp 31) rfl rfl (base := W.heap.size) (L := []) (L2 := c.l) rfl (HM47s.out.rows _ (List.mem_cons_self ..)) HM47s.out.below.size rfl (HL.out.below (fun k hk => hk) HM47s.out.below) (by have := HSM.out; simp; omega) ?_
            intro u48 w48 ht48
            have hm48 := HM47s.out.app (l' := c.l) ht48
            obtain ⟨a48, k48, hu48⟩ := ht48.1.slice
            obtain ⟨n48, hn48⟩ : ∃ n48, n48 = c.l.length := ⟨_, rfl⟩
            rw [List.nil_append, ← hn48] at hu48
            subst hu48
            have hs48 := hm48.below
            have HM48 := Lib.hid hm48
            clear ht48 hm48 hn48
            refine ⟨hs48, ?_⟩
            go_simp
            obtain ⟨x0, x1, y0, y1, xz⟩ := block2' (HM48.out.boxes g41 (by simp)).2.1
            refine H_take (i := 8) (v := ?_) rfl (by as_aux_lemma => kernel_rfl) (by as_aux_lemma => kernel_rfl) (by as_aux_lemma => kernel_rfl) (fun _ _ _ h => h) (by rfl) hs48 ?_ ?_
            rotate_left
            · intro w' hw'; go_simp; with_reducible rfl
            go_simp
            refine H_one (i := 10) (by as_aux_lemma => kernel_rfl) rfl (by rfl) ?_
            go_simp
            have hdone := HM48.out.done
            obtain ⟨hnx, hbd⟩ := hdone
            refine ⟨hbd, ?_⟩
            refine wpAnyH_done (by as_aux_lemma => kernel_rfl) ?_ _
            have HFIN := Lib.hid (And.intro hnx hbd)
            clear hnx hbd x0 x1 y0 y1 xz
            go_wp2_with fail
            go_meet
            case rel => exact ⟨g41, (.slice a47 n47 k47), (.slice a48 n48 k48), rfl, HFIN⟩
        · go_simp
          obtain ⟨w49, hw49⟩ : ∃ w49, w49 = w41.alloc (.cells #[] 3) := ⟨_, rfl⟩
          obtain ⟨g49, hg49⟩ : ∃ g49, g49 = w41.heap.size := ⟨_, rfl⟩
          have hm49 := HM41.out.lit hg49
          rw [← hw49] at hm49
          rw [← hw49, ← hg49]
          have hs49 := hm49.below
          have HM49 := Lib.hid hm49
          clear hw49 hg49 hm49
          refine ⟨hs49, ?_⟩
          refine H_one (i := 0) (by as_aux_lemma => kernel_rfl) rfl (by rfl) ?_
          go_simp
          obtain ⟨w50, hw50⟩ : ∃ w50, w50 = w49.alloc (.cells #[] 3) := ⟨_, rfl⟩
          obtain ⟨g50, hg50⟩ : ∃ g50, g50 = w49.heap.size := ⟨_, rfl⟩
          have hm50 := HM49.out.lit hg50
          rw [← hw50] at hm50
          rw [← hw50, ← hg50]
          have hs50 := hm50.below
          have HM50 := Lib.hid hm50
          clear hw50 hg50 hm50
          refine ⟨hs50, ?_⟩
          refine H_one (i := 3) (by as_aux_lemma => kernel_rfl) rfl (by rfl) ?_
          refine wp_ir_append (.tmp 25) (.tmp 27) rfl rfl (base := W.heap.size) (L := []) (L2 := c.v) rfl (HM50.out.rows _ (List.mem_cons_self ..)) HM50.out.below.size rfl (HV.out.below (fun k hk => hk) HM50.out.below) (by have := HSM.out; simp; omega) ?_
          intro u51 w51 ht51
          have hm51 := HM50.out.app (l' := c.v) ht51
          obtain ⟨a51, k51, hu51⟩ := ht51.1.slice
          obtain ⟨n51, hn51⟩ : ∃ n51, n51 = c.v.length := ⟨_, rfl⟩
          rw [List.nil_append, ← hn51] at hu51
          subst hu51
          have hs51 := hm51.below
          have HM51 := Lib.hid hm51
          clear ht51 hm51 hn51
          refine ⟨hs51, ?_⟩
          go_simp
          refine H_one (i := 7) (by as_aux_lemma => kernel_rfl) rfl (by rfl) ?_
          have HM51s := Lib.hid HM51.out.swap
          refine wp_ir_append (.tmp 29) (.tmp 31) rfl rfl (base := W.heap.size) (L := []) (L2 := c.l) rfl (HM51s.out.rows _ (List.mem_cons_self ..)) HM51s.out.below.size rfl (HL.out.below (fun k hk => hk) HM51s.out.below) (by have := HSM.out; simp; omega) ?_
          intro u52 w52 ht52
          have hm52 := HM51s.out.app (l' := c.l) ht52
          obtain ⟨a52, k52, hu52⟩ := ht52.1.slice
          obtain ⟨n52, hn52⟩ : ∃ n52, n52 = c.l.length := ⟨_, rfl⟩
          rw [List.nil_append, ← hn52] at hu52
          subst hu52
          have hs52 := hm52.below
          have HM52 := Lib.hid hm52
          clear ht52 hm52 hn52
          refine ⟨hs52, ?_⟩
          go_simp
          obtain ⟨x0, x1, y0, y1, xz⟩ := block2' (HM52.out.boxes g41 (by simp)).2.1
          refine H_take (i := 8) (v := ?_) rfl (by as_aux_lemma => kernel_rfl) (by as_aux_lemma => kernel_rfl) (by as_aux_lemma => kernel_rfl) (fun _ _ _ h => h) (by rfl) hs52 ?_ ?_
          rotate_left
          · intro w' hw'; go_simp; with_reducible rfl
          go_simp
          refine H_one (i := 10) (by as_aux_lemma => kernel_rfl) rfl (by rfl) ?_
          go_simp
          have hdone := HM52.out.done
          obtain ⟨hnx, hbd⟩ := hdone
          refine ⟨hbd, ?_⟩
          refine wpAnyH_done (by as_aux_lemma => kernel_rfl) ?_ _
          have HFIN := Lib.hid (And.intro hnx hbd)
          clear hnx hbd x0 x1 y0 y1 xz
          go_wp2_with fail
          go_meet
          case rel => exact ⟨g41, (.slice a51 n51 k51), (.slice a52 n52 k52), rfl, HFIN⟩
    case rest =>
      obtain ⟨gi, vi, li, rfl, HNX⟩ := hcut
      obtain ⟨via, vik, hvi⟩ := HNX.out.1.two.rv.slice
      obtain ⟨lia, lik, hli⟩ := HNX.out.1.two.rl.slice
      rw [← HN.out] at hvi
      rw [← HM.out] at hli
      subst hvi hli
      obtain ⟨i0, i1, -, -, iz⟩ := block2' HNX.out.1.box
      have HCN := Next_any c cs (fun k => k < wc.heap.size) (fun k => k < wc.heap.size) _ _ (.slice sa p sk) wc HNX.out.1.repv HNX.out.1.repl (fun k hk => hk) (by have := HSM.out; omega) (HCS.out.same (fun k hk => Nat.lt_of_lt_of_le hk HNX.out.2.size) fun k hk => HNX.out.2.block k hk) (fun k hk => hk)
      obtain ⟨R, hR⟩ : ∃ R, R = nextAll c cs := ⟨_, rfl⟩
      rw [← hR] at HCN
      have HR := Lib.hid hR
      have HCALL := Lib.hid HCN
      clear HCN hR c0 c1 cz
      go_wp2_with fail
      refine HCALL.out.mono ?_
      rintro e w5 ⟨hb5, v5, l5, rfl, hv5, hl5⟩
      obtain ⟨a5, k5, hva⟩ := hv5.slice
      obtain ⟨a6, k6, hla⟩ := hl5.slice
      obtain ⟨n5, hn5⟩ : ∃ n5, n5 = R.1.v.length := ⟨_, rfl⟩
      obtain ⟨m5, hm5⟩ : ∃ m5, m5 = R.1.l.length := ⟨_, rfl⟩
      rw [← hn5] at hva
      rw [← hm5] at hla
      obtain ⟨hva, -⟩ := hva
      obtain ⟨hla, -⟩ := hla
      subst hva hla
      obtain ⟨er, her⟩ : ∃ er, er = R.2 := ⟨_, rfl⟩
      rw [← her]
      obtain ⟨WD, hWD⟩ : ∃ WD, WD = w5.alloc (.cells #[.slice a5 n5 k5, .slice a6 m5 k6] 24) := ⟨_, rfl⟩
      obtain ⟨gd, hgd⟩ : ∃ gd, gd = w5.heap.size := ⟨_, rfl⟩
      have hbD : Below w5.heap.size w5 WD := by rw [hWD]; exact below_alloc _ _
      have hb5D : Below wc.heap.size wc WD := hb5.trans (hbD.mono hb5.size)
      have hbW : Below W.heap.size W WD := HNX.out.2.trans (hb5D.mono HNX.out.2.size)
      have HBD : Hid (Below w.heap.size w WD) := Lib.hid (HBC.out.trans (hbW.mono HBC.out.size))
      have HGD : Hid (WD.heap[gd]? = some (.cells #[.slice a5 n5 k5, .slice a6 m5 k6] 24)) := Lib.hid (by rw [hWD, hgd]; exact heap_alloc_new _ _)
      have HGC : Hid (WD.heap[gc]? = some (.cells #[.slice va n vk, .slice la m lk] 24)) := Lib.hid (old_below HC3.out hbW)
      have HGI : Hid (WD.heap[gi]? = some (.cells #[.slice via n vik, .slice lia m lik] 24)) := Lib.hid (old_below HNX.out.1.box hb5D)
      have hlt : ∀ {z : List Int} {u : Value} {G : Nat → Prop}, RepI WD G z u → (∀ k, G k → k < WD.heap.size) → ∀ w', Below WD.heap.size WD w' → RepI w' (fun k => k < WD.heap.size) z u := fun h hG w' hb' => (h.below hG hb').same hG fun _ _ => rfl
      have HRD : Hid (∀ w', Below WD.heap.size WD w' → RepI w' (fun k => k < WD.heap.size) R.1.v (.slice a5 n5 k5) ∧ RepI w' (fun k => k < WD.heap.size) R.1.l (.slice a6 m5 k6)) := Lib.hid fun w' hb' =>
        ⟨hlt (hv5.below (fun k hk => hk.2) hbD) (fun k hk => Nat.lt_of_lt_of_le hk.2 hbD.size) w' hb', hlt (hl5.below (fun k hk => hk.2) hbD) (fun k hk => Nat.lt_of_lt_of_le hk.2 hbD.size) w' hb'⟩
      have HCD : Hid (∀ w', Below WD.heap.size WD w' → RepI w' (fun k => k < WD.heap.size) c.v (.slice va n vk) ∧ RepI w' (fun k => k < WD.heap.size) c.l (.slice la m lk)) := Lib.hid fun w' hb' =>
        ⟨hlt (HV.out.below (fun k hk => hk) hbW) (fun k hk => Nat.lt_of_lt_of_le hk hbW.size) w' hb', hlt (HL.out.below (fun k hk => hk) hbW) (fun k hk => Nat.lt_of_lt_of_le hk hbW.size) w' hb'⟩
      have HID : Hid (∀ w', Below WD.heap.size WD w' → RepI w' (fun k => k < WD.heap.size) c.v (.slice via n vik) ∧ RepI w' (fun k => k < WD.heap.size) c.l (.slice lia m lik)) := Lib.hid fun w' hb' =>
        ⟨hlt (HNX.out.1.repv.below (fun k hk => hk) hb5D) (fun k hk => Nat.lt_of_lt_of_le hk hb5D.size) w' hb', hlt (HNX.out.1.repl.below (fun k hk => hk) hb5D) (fun k hk => Nat.lt_of_lt_of_le hk hb5D.size) w' hb'⟩
      have HCSD : Hid (∀ w', Below WD.heap.size WD w' → RepPr w' (fun k => k < WD.heap.size) cs (.slice sa p sk)) := Lib.hid fun w' hb' =>
        HCS.out.same (fun k hk => Nat.lt_of_lt_of_le hk hbW.size) fun k hk => (hb'.block k (Nat.lt_of_lt_of_le hk hbW.size)).trans (hbW.block k hk)
      have HER := Lib.hid her
      have HWD := Lib.hid hWD
      have HGDE := Lib.hid hgd
      obtain ⟨i0, i1, -, -, iz⟩ := block2' (show (w5.alloc (.cells #[.slice a5 n5 k5, .slice a6 m5 k6] 24)).heap[gi]? = _ from hWD ▸ HGI.out)
      obtain ⟨c0, c1, -, -, cz⟩ := block2' (show (w5.alloc (.cells #[.slice a5 n5 k5, .slice a6 m5 k6] 24)).heap[gc]? = _ from hWD ▸ HGC.out)
      clear hb5 hv5 hl5 hn5 hm5 hbD hb5D hbW hWD hgd her hlt
      go_wp2_with fail
      rw [← HGDE.out, ← HWD.out]
      clear i0 i1 iz c0 c1 cz
      refine (RefSame_any c c (fun k => k < WD.heap.size) (fun k => k < WD.heap.size) _ _ _ _ WD (HID.out _ (Below.refl _ _)).1 (HID.out _ (Below.refl _ _)).2 (HCD.out _ (Below.refl _ _)).1 (HCD.out _ (Below.refl _ _)).2 (fun k hk => hk) (fun k hk => hk)).mono ?_
      rintro e w6 ⟨rfl, hb6⟩
      rw [yes_t rfl]
      have HB6 := Lib.hid hb6
      obtain ⟨c0, c1, -, -, cz⟩ := block2' (old_below HGC.out HB6.out)
      clear hb6
      go_wp2_with fail
      refine (RefRight_any c (fun k => k < WD.heap.size) _ _ w6 (HCD.out _ HB6.out).1 (HCD.out _ HB6.out).2 (fun k hk => Nat.lt_of_lt_of_le hk HB6.out.size) (by have := HSM.out; omega)).mono ?_
      rintro e w7 ⟨rfl, hb7⟩
      have HB7 : Hid (Below WD.heap.size WD w7) := Lib.hid (HB6.out.trans (hb7.mono HB6.out.size))
      clear hb7 c0 c1 cz
      obtain ⟨d0, d1, -, -, dz⟩ := block2' (old_below HGD.out HB7.out)
      obtain ⟨c0, c1, -, -, cz⟩ := block2' (old_below HGC.out HB7.out)
      by_cases hok : c.ok
      · rw [yes_t hok]
        have HRV : Hid (R = nextN c cs) := Lib.hid (by rw [HR.out]; unfold nextAll; rw [if_pos hok])
        have HWE : Hid (Went c cs 0 c) := Lib.hid (Went.start hok)
        clear hok
        go_wp2_with fail
        obtain ⟨gw, hgw⟩ : ∃ gw, gw = w7.heap.size := ⟨_, rfl⟩
        obtain ⟨WE, hWE⟩ : ∃ WE, WE = w7.alloc (.cells #[.slice va n vk, .slice la m lk] 24) := ⟨_, rfl⟩
        have hbE : Below w7.heap.size w7 WE := by rw [hWE]; exact below_alloc _ _
        have HBE : Hid (Below WD.heap.size WD WE) := Lib.hid (HB7.out.trans (hbE.mono HB7.out.size))
        have HW0 : Hid (WantAt WD gw c WE) := Lib.hid ⟨HBE.out, .slice va n vk, .slice la m lk, by rw [hWE, hgw]; exact heap_alloc_new _ _, by rw [hgw]; exact HB7.out.size,
          (HCD.out _ HBE.out).1.same (fun k hk => ⟨Nat.lt_of_lt_of_le hk HBE.out.size, by have := HB7.out.size; omega⟩) fun _ _ => rfl, (HCD.out _ HBE.out).2.same (fun k hk => ⟨Nat.lt_of_lt_of_le hk HBE.out.size, by have := HB7.out.size; omega⟩) fun _ _ => rfl⟩
        rw [← hgw, ← hWE]
        clear hgw hWE hbE c0 c1 cz d0 d1 dz
        go_loopg [9] p (fun gk i wr => ∃ (z : Nat) (c' : Cf), z + gk = p ∧ i = .int .i64 (z : Int) ∧ Hid (WantAt WD gw c' wr) ∧ Hid (Went c cs z c'))
        case atStart => exact ⟨0, c, by omega, rfl, HW0, HWE⟩
        case round =>
          obtain ⟨z, c', hz, rfl, HWA, HGO⟩ := hrel
          have HWD2 := Lib.hid HWA.out.1
          obtain ⟨d0, d1, -, -, dz⟩ := block2' (old_below HGD.out HWA.out.1)
          obtain ⟨-, vw, lw, hbx, hgw, hrv, hrl⟩ := HWA.out
          obtain ⟨aw, kw, hvw⟩ := hrv.slice
          obtain ⟨bw, jw, hlw⟩ := hrl.slice
          obtain ⟨nw, hnw⟩ : ∃ nw, nw = c'.v.length := ⟨_, rfl⟩
          obtain ⟨mw, hmw⟩ : ∃ mw, mw = c'.l.length := ⟨_, rfl⟩
          rw [← hnw] at hvw
          rw [← hmw] at hlw
          obtain ⟨hvw, -⟩ := hvw
          obtain ⟨hlw, -⟩ := hlw
          subst hvw hlw
          have HBXW := Lib.hid hbx
          have HGW := Lib.hid hgw
          have HRV1 := Lib.hid hrv
          have HRL1 := Lib.hid hrl
          clear hbx hgw hrv hrl hnw hmw
          by_cases hlt : z < p
          · have hkk : (z : Int) < (p : Int) := by omega
            have hlt2 : z < cs.length := by rw [← HP.out]; exact hlt
            obtain ⟨b, off, hsa, hb, e0, e1⟩ := (HCSD.out wr HWD2.out).elem z hlt2
            subst hsa
            have hbz : b < wr.heap.size := Nat.lt_of_lt_of_le hb HWD2.out.size
            have HFAIL : Hid (∀ q, next1 c' cs[z].1 cs[z].2 = q → q.2 ≠ 0 → R = (cf0, q.2)) := Lib.hid fun q hq h0 => by
              have h1 := HGO.out.fail hlt2
              rw [hq] at h1
              rw [HRV.out]
              exact h1 h0
            have HGOES : Hid (∀ q, next1 c' cs[z].1 cs[z].2 = q → q.2 = 0 → Went c cs (z + 1) q.1) := Lib.hid fun q hq h0 => by
              have h1 := HGO.out.step hlt2
              rw [hq] at h1
              exact h1 h0
            obtain ⟨⟨d, i⟩, hdi⟩ : ∃ e, e = cs[z] := ⟨_, rfl⟩
            rw [← hdi] at e0 e1 HFAIL HGOES
            simp only at e0 e1 HFAIL HGOES
            obtain ⟨Q, hQ⟩ : ∃ Q, Q = next1 c' d i := ⟨_, rfl⟩
            have HREF : Hid (∀ w', Below wr.heap.size wr w' → Calls Try.prog 25 #[.agg #[.slice aw nw kw, .slice bw mw jw], .agg #[.int .i64 d, .int .i64 i]] w' fun e w'' => NextPost Q w' e w'') := Lib.hid fun w' hb' => by
              rw [hQ]
              exact RefNext_any c' d i (fun k => k < wr.heap.size ∧ k ≠ gw) _ _ w' (HRV1.out.below (fun k hk => hk.1) hb') (HRL1.out.below (fun k hk => hk.1) hb') (fun k hk => Nat.lt_of_lt_of_le hk.1 hb'.size) HGO.out.2
            have HQQ := Lib.hid hQ
            obtain ⟨x0, x1, -, -, xz⟩ := block2' HBXW.out
            clear hdi hb hQ d0 d1 dz
            go_upto_region 13 with fail
            go_cut [10, 11] from 55 to 80 (fun x y w' => ∃ g v l, x = .pointer (some ⟨g, 0, none⟩) ∧ y = .int .i64 Q.2 ∧ Hid (Below wr.heap.size wr w' ∧ w'.heap[g]? = some (.cells #[v, l] 24) ∧ wr.heap.size ≤ g ∧ RepI w' (fun k => wr.heap.size ≤ k ∧ k < w'.heap.size ∧ k ≠ g) Q.1.v v ∧ RepI w' (fun k => wr.heap.size ≤ k ∧ k < w'.heap.size ∧ k ≠ g) Q.1.l l))
            case first =>
              refine wp_region_held (S := fun w' => Below wr.heap.size wr w') (by kernel_rfl) ?_
              have hs0 : Below wr.heap.size wr wr.drew := below_drew1 wr
              have r0 : ∀ w', Below wr.heap.size wr w' → w'.cell? ⟨gw, 0, none⟩ = some (.slice aw nw kw) := fun w' hw' => (block2' (old_below HBXW.out hw')).1
              have r1 : ∀ w', Below wr.heap.size wr w' → w'.cell? ⟨gw, 1, none⟩ = some (.slice bw mw jw) := fun w' hw' => (block2' (old_below HBXW.out hw')).2.1
              have r2 : ∀ w', Below wr.heap.size wr w' → w'.cell? ⟨b, off + z * 2, none⟩ = some (.int .i64 d) := fun w' hw' => (hw'.cell (p := ⟨b, off + z * 2, none⟩) hbz).trans e0
              have r3 : ∀ w', Below wr.heap.size wr w' → w'.cell? ⟨b, off + z * 2 + 1, none⟩ = some (.int .i64 i) := fun w' hw' => (hw'.cell (p := ⟨b, off + z * 2 + 1, none⟩) hbz).trans e1
              clear x0 x1 xz
              refine H_take (i := 0) (v := ?_) rfl (by as_aux_lemma => kernel_rfl) (by as_aux_lemma => kernel_rfl) (by as_aux_lemma => kernel_rfl) (fun _ _ _ h => h) (by rfl) hs0 ?_ ?_
              rotate_left
              · intro w' hw'; go_simp; with_reducible rfl
              go_simp
              refine H_take (i := 1) (v := ?_) rfl (by as_aux_lemma => kernel_rfl) (by as_aux_lemma => kernel_rfl) (by as_aux_lemma => kernel_rfl) (fun _ _ _ h => h) (by rfl) hs0 ?_ ?_
              rotate_left
              · intro w' hw'; go_simp; with_reducible rfl
              go_simp
              refine H_take (i := 2) (v := ?_) rfl (by as_aux_lemma => kernel_rfl) (by as_aux_lemma => kernel_rfl) (by as_aux_lemma => kernel_rfl) (fun _ _ _ h => h) (by rfl) hs0 ?_ ?_
              rotate_left
              · intro w' hw'; go_simp; with_reducible rfl
              go_simp
              refine H_take (i := 3) (v := ?_) rfl (by as_aux_lemma => kernel_rfl) (by as_aux_lemma => kernel_rfl) (by as_aux_lemma => kernel_rfl) (fun _ _ _ h => h) (by rfl) hs0 ?_ ?_
              rotate_left
              · intro w' hw'; go_simp; with_reducible rfl
              go_simp
              refine H_take (i := 4) (v := ?_) rfl (by as_aux_lemma => kernel_rfl) (by as_aux_lemma => kernel_rfl) (by as_aux_lemma => kernel_rfl) (fun _ _ _ h => h) (by rfl) hs0 ?_ ?_
              rotate_left
              · intro w' hw'; go_simp; with_reducible rfl
              go_simp
              clear r0 r1 r2 r3 e0 e1
              refine H_both (i := 5) (j := 9) (by as_aux_lemma => kernel_rfl) rfl rfl (by rfl) (by rfl) ?_ ?_
              · go_simp
                refine (HREF.out _ hs0).mono ?_
                rintro e w6 ⟨hb6, v', l', rfl, hv', hl'⟩
                obtain ⟨a', k', hva⟩ := hv'.slice
                obtain ⟨b', j', hla⟩ := hl'.slice
                obtain ⟨nq, hnq⟩ : ∃ nq, nq = Q.1.v.length := ⟨_, rfl⟩
                obtain ⟨mq, hmq⟩ : ∃ mq, mq = Q.1.l.length := ⟨_, rfl⟩
                rw [← hnq] at hva
                rw [← hmq] at hla
                obtain ⟨hva, -⟩ := hva
                obtain ⟨hla, -⟩ := hla
                subst hva hla
                clear hnq hmq
                have hs6 : Below wr.heap.size wr w6 := hs0.trans (hb6.mono hs0.size)
                refine ⟨hs6, ?_⟩
                go_simp
                refine H_take (i := 6) (v := ?_) rfl (by as_aux_lemma => kernel_rfl) (by as_aux_lemma => kernel_rfl) (by as_aux_lemma => kernel_rfl) (fun _ _ _ h => h) (by rfl) hs6 ?_ ?_
                rotate_left
                · intro w' hw'; go_simp; with_reducible rfl
                go_simp
                refine H_take (i := 7) (v := ?_) rfl (by as_aux_lemma => kernel_rfl) (by as_aux_lemma => kernel_rfl) (by as_aux_lemma => kernel_rfl) (fun _ _ _ h => h) (by rfl) hs6 ?_ ?_
                rotate_left
                · intro w' hw'; go_simp; with_reducible rfl
                go_simp
                refine H_take (i := 8) (v := ?_) rfl (by as_aux_lemma => kernel_rfl) (by as_aux_lemma => kernel_rfl) (by as_aux_lemma => kernel_rfl) (fun _ _ _ h => h) (by rfl) hs6 ?_ ?_
                rotate_left
                · intro w' hw'; go_simp; with_reducible rfl
                go_simp
                refine H_one (i := 9) (by as_aux_lemma => kernel_rfl) rfl (by rfl) ?_
                go_simp
                obtain ⟨w7', hw7'⟩ : ∃ w7', w7' = w6.alloc (.cells #[.slice none 0 0, .slice none 0 0] 24) := ⟨_, rfl⟩
                obtain ⟨g7, hg7⟩ : ∃ g7, g7 = w6.heap.size := ⟨_, rfl⟩
                have hb7 : Below w6.heap.size w6 w7' := by rw [hw7']; exact below_alloc _ _
                have hx7 : w7'.heap[g7]? = some (.cells #[.slice none 0 0, .slice none 0 0] 24) := by rw [hw7', hg7]; exact heap_alloc_new _ _
                have hs7 : Below wr.heap.size wr w7' := hs6.trans (hb7.mono hs6.size)
                have hr7 : RepI w7' (fun k => wr.heap.size ≤ k ∧ k < w7'.heap.size ∧ k ≠ g7) Q.1.v (.slice a' nq k') ∧ RepI w7' (fun k => wr.heap.size ≤ k ∧ k < w7'.heap.size ∧ k ≠ g7) Q.1.l (.slice b' mq j') :=
                  ⟨(hv'.below (fun k hk => hk.2) hb7).same (fun k hk => ⟨hk.1, Nat.lt_of_lt_of_le hk.2 hb7.size, by have := hk.2; omega⟩) fun _ _ => rfl, (hl'.below (fun k hk => hk.2) hb7).same (fun k hk => ⟨hk.1, Nat.lt_of_lt_of_le hk.2 hb7.size, by have := hk.2; omega⟩) fun _ _ => rfl⟩
                have hgl : wr.heap.size ≤ g7 := by rw [hg7]; exact hs6.size
                rw [← hw7', ← hg7]
                clear hw7' hg7 hb7 hv' hl' hb6
                refine ⟨hs7, ?_⟩
                obtain ⟨x0, x1, y0, y1, xz⟩ := block2' hx7
                have HR7 := Lib.hid hr7
                have HX7 := Lib.hid hx7
                have HGL := Lib.hid hgl
                clear hr7 hx7 hgl
                refine H_one (i := 10) (by as_aux_lemma => kernel_rfl) rfl (by rfl) ?_
                go_simp
                have hs8 : Below wr.heap.size wr ((w7'.setCell ⟨g7, 0, none⟩ (.slice a' nq k')).setCell ⟨g7, 1, none⟩ (.slice b' mq j')) := (hs7.setCell HGL.out _).setCell HGL.out _
                refine ⟨hs8, ?_⟩
                refine H_take (i := 11) (v := ?_) rfl (by as_aux_lemma => kernel_rfl) (by as_aux_lemma => kernel_rfl) (by as_aux_lemma => kernel_rfl) (fun _ _ _ h => h) (by rfl) hs8 ?_ ?_
                rotate_left
                · intro w' hw'; go_simp; with_reducible rfl
                go_simp
                refine wpAnyH_done (by as_aux_lemma => kernel_rfl) ?_ _
                have HS8 := Lib.hid hs8
                clear hs7 hs8 x0 x1 y0 y1 xz
                go_wp2_with fail
                go_meet
                case rel =>
                  exact ⟨g7, _, _, rfl, rfl, Lib.hid ⟨HS8.out, heap_set22 HX7.out, HGL.out, HR7.out.1.same (fun k hk => by simpa using hk) (fun k hk => by
                    rw [Below.heap_setCell _ _ _ _ (by show k ≠ g7; exact hk.2.2), Below.heap_setCell _ _ _ _ (by show k ≠ g7; exact hk.2.2)]), HR7.out.2.same (fun k hk => by simpa using hk) (fun k hk => by
                    rw [Below.heap_setCell _ _ _ _ (by show k ≠ g7; exact hk.2.2), Below.heap_setCell _ _ _ _ (by show k ≠ g7; exact hk.2.2)])⟩⟩
              · go_simp
                obtain ⟨w7', hw7'⟩ : ∃ w7', w7' = (wr.alloc (.cells #[.slice none 0 0, .slice none 0 0] 24)).drew := ⟨_, rfl⟩
                have hx6 : w7'.heap[wr.heap.size]? = some (.cells #[.slice none 0 0, .slice none 0 0] 24) := by rw [hw7']; exact heap_alloc_new wr _
                have hs6 : Below wr.heap.size wr w7' := by rw [hw7']; exact (below_alloc wr _).drew
                have hgl : wr.heap.size ≤ wr.heap.size := Nat.le_refl _
                rw [← hw7']
                clear hw7'
                refine ⟨hs6, ?_⟩
                refine H_one (i := 5) (by as_aux_lemma => kernel_rfl) rfl (by rfl) ?_
                go_simp
                refine (HREF.out _ hs6).mono ?_
                rintro e w6 ⟨hb6, v', l', rfl, hv', hl'⟩
                obtain ⟨a', k', hva⟩ := hv'.slice
                obtain ⟨b', j', hla⟩ := hl'.slice
                obtain ⟨nq, hnq⟩ : ∃ nq, nq = Q.1.v.length := ⟨_, rfl⟩
                obtain ⟨mq, hmq⟩ : ∃ mq, mq = Q.1.l.length := ⟨_, rfl⟩
                rw [← hnq] at hva
                rw [← hmq] at hla
                obtain ⟨hva, -⟩ := hva
                obtain ⟨hla, -⟩ := hla
                subst hva hla
                clear hnq hmq
                have hx7 := old_below hx6 hb6
                have hgz := lt_of_heap hx6
                have hs7 : Below wr.heap.size wr w6 := hs6.trans (hb6.mono hs6.size)
                have hr7 : RepI w6 (fun k => wr.heap.size ≤ k ∧ k < w6.heap.size ∧ k ≠ wr.heap.size) Q.1.v (.slice a' nq k') ∧ RepI w6 (fun k => wr.heap.size ≤ k ∧ k < w6.heap.size ∧ k ≠ wr.heap.size) Q.1.l (.slice b' mq j') :=
                  ⟨hv'.same (fun k hk => ⟨Nat.le_trans hs6.size hk.1, hk.2, by have := hk.1; omega⟩) fun _ _ => rfl, hl'.same (fun k hk => ⟨Nat.le_trans hs6.size hk.1, hk.2, by have := hk.1; omega⟩) fun _ _ => rfl⟩
                obtain ⟨w7', hw7'⟩ : ∃ w7', w7' = w6 := ⟨_, rfl⟩
                subst hw7'
                clear hx6 hgz hs6 hb6 hv' hl'
                refine ⟨hs7, ?_⟩
                go_simp
                refine H_take (i := 6) (v := ?_) rfl (by as_aux_lemma => kernel_rfl) (by as_aux_lemma => kernel_rfl) (by as_aux_lemma => kernel_rfl) (fun _ _ _ h => h) (by rfl) hs7 ?_ ?_
                rotate_left
                · intro w' hw'; go_simp; with_reducible rfl
                go_simp
                refine H_take (i := 7) (v := ?_) rfl (by as_aux_lemma => kernel_rfl) (by as_aux_lemma => kernel_rfl) (by as_aux_lemma => kernel_rfl) (fun _ _ _ h => h) (by rfl) hs7 ?_ ?_
                rotate_left
                · intro w' hw'; go_simp; with_reducible rfl
                go_simp
                refine H_take (i := 8) (v := ?_) rfl (by as_aux_lemma => kernel_rfl) (by as_aux_lemma => kernel_rfl) (by as_aux_lemma => kernel_rfl) (fun _ _ _ h => h) (by rfl) hs7 ?_ ?_
                rotate_left
                · intro w' hw'; go_simp; with_reducible rfl
                go_simp
                obtain ⟨x0, x1, y0, y1, xz⟩ := block2' hx7
                have HR7 := Lib.hid hr7
                have HX7 := Lib.hid hx7
                have HGL := Lib.hid hgl
                clear hr7 hx7 hgl
                refine H_one (i := 10) (by as_aux_lemma => kernel_rfl) rfl (by rfl) ?_
                go_simp
                have hs8 : Below wr.heap.size wr ((w7'.setCell ⟨wr.heap.size, 0, none⟩ (.slice a' nq k')).setCell ⟨wr.heap.size, 1, none⟩ (.slice b' mq j')) := (hs7.setCell HGL.out _).setCell HGL.out _
                refine ⟨hs8, ?_⟩
                refine H_take (i := 11) (v := ?_) rfl (by as_aux_lemma => kernel_rfl) (by as_aux_lemma => kernel_rfl) (by as_aux_lemma => kernel_rfl) (fun _ _ _ h => h) (by rfl) hs8 ?_ ?_
                rotate_left
                · intro w' hw'; go_simp; with_reducible rfl
                go_simp
                refine wpAnyH_done (by as_aux_lemma => kernel_rfl) ?_ _
                have HS8 := Lib.hid hs8
                clear hs7 hs8 x0 x1 y0 y1 xz
                go_wp2_with fail
                go_meet
                case rel =>
                  exact ⟨wr.heap.size, _, _, rfl, rfl, Lib.hid ⟨HS8.out, heap_set22 HX7.out, HGL.out, HR7.out.1.same (fun k hk => by simpa using hk) (fun k hk => by
                    rw [Below.heap_setCell _ _ _ _ (by show k ≠ wr.heap.size; exact hk.2.2), Below.heap_setCell _ _ _ _ (by show k ≠ wr.heap.size; exact hk.2.2)]), HR7.out.2.same (fun k hk => by simpa using hk) (fun k hk => by
                    rw [Below.heap_setCell _ _ _ _ (by show k ≠ wr.heap.size; exact hk.2.2), Below.heap_setCell _ _ _ _ (by show k ≠ wr.heap.size; exact hk.2.2)])⟩⟩
            case rest =>
              obtain ⟨g10, v10, l10, rfl, rfl, HCUT⟩ := hcut
              obtain ⟨hbc, hx10, hg10, hq1, hq2⟩ := HCUT.out
              obtain ⟨a', k', hva⟩ := hq1.slice
              obtain ⟨b', j', hla⟩ := hq2.slice
              obtain ⟨nq, hnq⟩ : ∃ nq, nq = Q.1.v.length := ⟨_, rfl⟩
              obtain ⟨mq, hmq⟩ : ∃ mq, mq = Q.1.l.length := ⟨_, rfl⟩
              rw [← hnq] at hva
              rw [← hmq] at hla
              obtain ⟨hva, -⟩ := hva
              obtain ⟨hla, -⟩ := hla
              subst hva hla
              have HB10 : Hid (Below WD.heap.size WD wc) := Lib.hid (HWD2.out.trans (hbc.mono HWD2.out.size))
              obtain ⟨d0, d1, -, -, dz⟩ := block2' (old_below HGD.out HB10.out)
              obtain ⟨x0, x1, -, -, xz⟩ := block2' hx10
              have hbw := old_below HBXW.out hbc
              obtain ⟨y0, y1, z0, z1, yz⟩ := block2' hbw
              have HBW10 := Lib.hid hbw
              clear hbc hx10 hg10 hq1 hq2 hnq hmq hbw e0 e1
              by_cases he : Q.2 = 0
              · have q3 : (Q.2 != 0) = false := by simpa using he
                have HWN2 : Hid (Went c cs (z + 1) Q.1) := Lib.hid (HGOES.out _ HQQ.out.symm he)
                go_wp2_with fail
                go_roundg (gk - 1)
                case measure => omega
                case rel =>
                  obtain ⟨hbc, hx10, hg10, hq1, hq2⟩ := HCUT.out
                  have hgg := HGW.out
                  have hgz := lt_of_heap HBXW.out
                  have hrep : ∀ {z : List Int} {u : Value}, RepI wc (fun k => wr.heap.size ≤ k ∧ k < wc.heap.size ∧ k ≠ g10) z u → RepI ((wc.setCell ⟨gw, 0, none⟩ (.slice a' nq k')).setCell ⟨gw, 1, none⟩ (.slice b' mq j')) (fun k => k < ((wc.setCell ⟨gw, 0, none⟩ (.slice a' nq k')).setCell ⟨gw, 1, none⟩ (.slice b' mq j')).heap.size ∧ k ≠ gw) z u := fun h =>
                    h.same (fun k hk => ⟨by simpa using hk.2.1, by have := hk.1; omega⟩) fun k hk => by
                      rw [Below.heap_setCell _ _ _ _ (by show k ≠ gw; have := hk.1; omega), Below.heap_setCell _ _ _ _ (by show k ≠ gw; have := hk.1; omega)]
                  exact ⟨z + 1, Q.1, by omega, by go_num, Lib.hid ⟨(HB10.out.setCell hgg _).setCell hgg _, _, _, heap_set22 HBW10.out, hgg, hrep hq1, hrep hq2⟩, HWN2⟩
              · have q3 : (Q.2 != 0) = true := by simpa using he
                have HRX : Hid (R = (cf0, Q.2)) := Lib.hid (HFAIL.out _ HQQ.out.symm he)
                have hee : er = Q.2 := by rw [HER.out, HRX.out]
                subst hee
                have q4 : (Q.2 == Q.2) = true := by simp
                have HSX := Lib.hid (RefSame_any R.1 cf0 (fun k => k < WD.heap.size) (fun k => k < WD.heap.size) _ _ (.slice none 0 0) (.slice none 0 0) wc (HRD.out _ HB10.out).1 (HRD.out _ HB10.out).2 (.inl ⟨rfl, Bare.nil⟩) (.inl ⟨rfl, Bare.nil⟩) (fun k hk => Nat.lt_of_lt_of_le hk HB10.out.size) (fun k hk => Nat.lt_of_lt_of_le hk HB10.out.size))
                rw [yes_t (by rw [HRX.out])] at HSX
                go_wp2_with fail
                refine HSX.out.mono ?_
                rintro e w8 ⟨rfl, hb8⟩
                have HB8 : Hid (Below w.heap.size w w8) := Lib.hid (HBD.out.trans ((HB10.out.trans (hb8.mono HB10.out.size)).mono HBD.out.size))
                clear hb8 d0 d1 dz x0 x1 xz y0 y1 yz
                go_wp2_with fail
                go_ret
                exact ⟨rfl, HB8.out⟩
          · obtain rfl : z = p := by omega
            have hkk : ¬ ((z : Nat) : Int) < (z : Int) := by omega
            have HFIN : Hid (R = (c', 0)) := Lib.hid (by rw [HRV.out]; exact HGO.out.done (by rw [← HP.out]; exact Nat.le_refl _))
            have he : er = 0 := by rw [HER.out, HFIN.out]
            subst he
            obtain ⟨x0, x1, -, -, xz⟩ := block2' HBXW.out
            go_wp2_with fail
            have HSX := Lib.hid (RefSame_any R.1 c' (fun k => k < WD.heap.size) (fun k => k < wr.heap.size ∧ k ≠ gw) _ _ _ _ wr (HRD.out _ HWD2.out).1 (HRD.out _ HWD2.out).2 HRV1.out HRL1.out (fun k hk => Nat.lt_of_lt_of_le hk HWD2.out.size) (fun k hk => hk.1))
            rw [yes_t (by rw [HFIN.out])] at HSX
            refine HSX.out.mono ?_
            rintro e w8 ⟨rfl, hb8⟩
            have HB8 : Hid (Below WD.heap.size WD w8) := Lib.hid (HWD2.out.trans (hb8.mono HWD2.out.size))
            clear hb8 d0 d1 dz x0 x1 xz
            obtain ⟨d0, d1, -, -, dz⟩ := block2' (old_below HGD.out HB8.out)
            go_wp2_with fail
            have hbA := below_alloc w8 (.cells #[.slice a5 n5 k5, .slice a6 m5 k6] 24)
            have HBA : Hid (Below WD.heap.size WD (w8.alloc (.cells #[.slice a5 n5 k5, .slice a6 m5 k6] 24))) := Lib.hid (HB8.out.trans (hbA.mono HB8.out.size))
            have HRX := Lib.hid (Right_any [⟨R.1, .slice a5 n5 k5, .slice a6 m5 k6⟩] (fun b => b < w8.heap.size + 1) (.slice (some ⟨w8.heap.size, 0, none⟩) 1 1) (w8.alloc (.cells #[.slice a5 n5 k5, .slice a6 m5 k6] 24))
              ⟨fun q hq => by
                rw [List.mem_singleton.1 hq]
                have h9 : R.1.ok := by rw [HFIN.out]; exact HGO.out.2
                exact ⟨(HRD.out _ HBA.out).1.same (fun k hk => by have := HB8.out.size; omega) fun _ _ => rfl, (HRD.out _ HBA.out).2.same (fun k hk => by have := HB8.out.size; omega) fun _ _ => rfl, by have := h9.2.1; show R.1.v.length + R.1.l.length ≤ 1000000; omega⟩, .inr ⟨_, 0, 1, rfl, by omega, by simp, by omega, fun j hj => by
                obtain rfl : j = 0 := by simpa using hj
                have h0 := fun j => cell_of_row _ _ j _ _ _ (heap_alloc_new w8 (.cells #[.slice a5 n5 k5, .slice a6 m5 k6] 24))
                exact ⟨h0 0, h0 1⟩⟩⟩ (fun k hk => by simpa using hk))
            rw [yes_t (by intro q hq; rw [List.mem_singleton.1 hq, HFIN.out]; exact HGO.out.2)] at HRX
            clear hbA
            refine HRX.out.mono ?_
            rintro e w9 ⟨rfl, hb9⟩
            have HB9 : Hid (Below w.heap.size w w9) := Lib.hid (HBD.out.trans ((HBA.out.trans (hb9.mono HBA.out.size)).mono HBD.out.size))
            clear hb9 d0 d1 dz
            go_wp2_with fail
            go_ret
            exact ⟨rfl, HB9.out⟩
      · rw [yes_f hok]
        have HRV : Hid (R = (cf0, 80)) := Lib.hid (by rw [HR.out]; unfold nextAll; rw [if_neg hok])
        have he : er = 80 := by rw [HER.out, HRV.out]
        subst he
        go_wp2_with fail
        have HSX := Lib.hid (RefSame_any R.1 cf0 (fun k => k < WD.heap.size) (fun k => k < WD.heap.size) _ _ (.slice none 0 0) (.slice none 0 0) w7 (HRD.out _ HB7.out).1 (HRD.out _ HB7.out).2 (.inl ⟨rfl, Bare.nil⟩) (.inl ⟨rfl, Bare.nil⟩) (fun k hk => Nat.lt_of_lt_of_le hk HB7.out.size) (fun k hk => Nat.lt_of_lt_of_le hk HB7.out.size))
        rw [yes_t (by rw [HRV.out])] at HSX
        refine HSX.out.mono ?_
        rintro e w8 ⟨rfl, hb8⟩
        have HB8 : Hid (Below w.heap.size w w8) := Lib.hid (HBD.out.trans ((HB7.out.trans (hb8.mono HB7.out.size)).mono HBD.out.size))
        clear hb8 d0 d1 dz c0 c1 cz
        go_wp2_with fail
        go_ret
        exact ⟨rfl, HB8.out⟩
  · rw [decide_eq_false hs]
    go_wp2_with fail
    refine (awake8_any _).mono ?_
    rintro e w8 ⟨rfl, hb8⟩
    have HB8 : Hid (Below w.heap.size w w8) := Lib.hid (HBC.out.trans (hb8.mono HBC.out.size))
    clear hb8
    go_wp2_with fail
    go_ret
    exact ⟨rfl, HB8.out⟩
end Go.Proofs.Ytfdlpmphgojlhaa.M
