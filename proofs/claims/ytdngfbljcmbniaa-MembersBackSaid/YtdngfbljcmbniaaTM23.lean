/- Package members: a change's step: a learner votes. Package members: the step of a change. Package members: a change's step: one goes. Package members: what changes make. -/
import Derived.Test.YtdngfbljcmbniaaTM16
import Derived.Test.YtdngfbljcmbniaaTM22
import Derived.Test.YtdngfbljcmbniaaTM21
import Derived.Laws.ResultCell
/- Part: MmI. -/
namespace Go.Proofs.Ytdngfbljcmbniaa.M
open Go.RowKit

theorem below_drew1 (w : World) : Below w.heap.size w w.drew := ⟨rfl, rfl, rfl, Nat.le_refl _, fun _ _ => rfl⟩

theorem only_drew (X : Nat → Prop) (w : World) : Only X w w.drew := ⟨rfl, rfl, rfl, Nat.le_refl _, fun _ _ _ => rfl⟩

set_option maxRecDepth 20000 in
set_option maxHeartbeats 3200000 in
theorem promote_any (base gB gi : Nat) (c : Cf) (v l : Value) (i : Int) (w : World) (h : NX base gB v l c v l w) (hc : c.ok) (hi : okN i) (hg : w.heap[gi]? = some (.cells #[.int .i64 i] 3)) (hv : v.ownBlock ≠ some gi) (hl : l.ownBlock ≠ some gi) (hne : gi ≠ gB) :
    Calls Try.prog 60 #[.pointer (some ⟨gB, 0, none⟩), .pointer (some ⟨gi, 0, none⟩)] w fun e w' => StepPost base gB (next1 c 2 i) w e w' := by
  obtain ⟨va, vk, hvv⟩ := h.two.rv.slice
  obtain ⟨la, lk, hlv⟩ := h.two.rl.slice
  obtain ⟨n, hn⟩ : ∃ n, n = c.v.length := ⟨_, rfl⟩
  obtain ⟨m, hm⟩ : ∃ m, m = c.l.length := ⟨_, rfl⟩
  have CON := Lib.hid fun w' (hb : Below w.heap.size w w') => Contains_any c.l i _ l w' (h.next hb).repl
  rw [← hn] at hvv
  rw [← hm] at hlv
  subst hvv hlv
  have H := Lib.hid h
  have HC := Lib.hid hc
  have hS : Below w.heap.size w w.drew := below_drew1 w
  have r1 : ∀ w', Below w.heap.size w w' → w'.cell? ⟨gB, 1, none⟩ = some (.slice la m lk) := fun w' hw' => (block2' (old_below h.box hw')).2.1
  have r2 : ∀ w', Below w.heap.size w w' → w'.cell? ⟨gi, 0, none⟩ = some (.int .i64 i) := fun w' hw' => cell_of_row w' gi 0 _ _ _ (old_below hg hw')
  have HG := Lib.hid hg
  have HV := Lib.hid hv
  have HL := Lib.hid hl
  have HI := Lib.hid hi
  have HLO : Hid (base ≤ w.heap.size) := Lib.hid h.size
  clear h hc hn hm hg hv hl hi
  go_enter Try.func60, Try.ntmps60
  go_wp2_with fail
  refine wp_region_held (S := fun w' => Below w.heap.size w w') (by kernel_rfl) ?_
  refine H_take (i := 0) (v := ?_) rfl (by as_aux_lemma => kernel_rfl) (by as_aux_lemma => kernel_rfl) (by as_aux_lemma => kernel_rfl) (fun _ _ _ h => h) (by rfl) hS ?_ ?_
  rotate_left
  · intro w' hw'; go_simp; with_reducible rfl
  go_simp
  refine H_take (i := 1) (v := ?_) rfl (by as_aux_lemma => kernel_rfl) (by as_aux_lemma => kernel_rfl) (by as_aux_lemma => kernel_rfl) (fun _ _ _ h => h) (by rfl) hS ?_ ?_
  rotate_left
  · intro w' hw'; go_simp; with_reducible rfl
  go_simp
  refine H_take (i := 2) (v := ?_) rfl (by as_aux_lemma => kernel_rfl) (by as_aux_lemma => kernel_rfl) (by as_aux_lemma => kernel_rfl) (fun _ _ _ h => h) (by rfl) hS ?_ ?_
  rotate_left
  · intro w' hw'; go_simp; with_reducible rfl
  go_simp
  refine H_take (i := 3) (v := ?_) rfl (by as_aux_lemma => kernel_rfl) (by as_aux_lemma => kernel_rfl) (by as_aux_lemma => kernel_rfl) (fun _ _ _ h => h) (by rfl) hS ?_ ?_
  rotate_left
  · intro w' hw'; go_simp; with_reducible rfl
  go_simp
  refine H_take (i := 4) (v := ?_) rfl (by as_aux_lemma => kernel_rfl) (by as_aux_lemma => kernel_rfl) (by as_aux_lemma => kernel_rfl) (fun _ _ _ h => h) (by rfl) hS ?_ ?_
  rotate_left
  · intro w' hw'; go_simp; with_reducible rfl
  go_simp
  refine H_one (i := 5) (by as_aux_lemma => kernel_rfl) rfl (by rfl) ?_
  go_simp
  refine (CON.out _ hS).mono ?_
  rintro e w1 ⟨rfl, rfl⟩
  refine ⟨hS, ?_⟩
  by_cases hx : i ∈ c.l
  · rw [yes_t hx]
    go_simp
    refine H_take (i := 6) (v := ?_) rfl (by as_aux_lemma => kernel_rfl) (by as_aux_lemma => kernel_rfl) (by as_aux_lemma => kernel_rfl) (fun _ _ _ h => h) (by rfl) hS ?_ ?_
    rotate_left
    · intro w' hw'; go_simp; with_reducible rfl
    go_simp
    refine wpAnyH_done (by as_aux_lemma => kernel_rfl) ?_ _
    have HE : Hid (next1 c 2 i = (⟨putN c.v i, dropN c.l i⟩, 0)) := Lib.hid (next1_pro rfl HI.out hx)
    have HNI : Hid (i ∉ c.v) := Lib.hid (HC.out.2.2.2.2 i hx)
    obtain ⟨W, hW⟩ : ∃ W, W = w.drew := ⟨_, rfl⟩
    rw [← hW] at hS ⊢
    have H1 := Lib.hid (H.out.next hS)
    have HG1 := Lib.hid (old_below HG.out hS)
    have HB1 : Hid (Below base w W) := Lib.hid (below_low HLO.out hS)
    have HLO1 : Hid (base ≤ W.heap.size) := Lib.hid (Nat.le_trans HLO.out hS.size)
    clear hW hx r1 r2 hS
    obtain ⟨c0, c1, z0, z1, -⟩ := block2' H1.out.box
    have c2 : W.cell? ⟨gi, 0, none⟩ = some (.int .i64 i) := cell_of_row W gi 0 _ _ _ HG1.out
    go_wp2_with fail
    obtain ⟨X, hX⟩ : ∃ X : Nat → Prop, X = fun q => q = gB ∨ (Value.slice la m lk).ownBlock = some q ∨ (Value.slice va n vk).ownBlock = some q := ⟨_, rfl⟩
    have HX : Hid (∀ q, X q ↔ q = gB ∨ (Value.slice la m lk).ownBlock = some q ∨ (Value.slice va n vk).ownBlock = some q) := Lib.hid (by rw [hX]; exact fun q => Iff.rfl)
    clear hX
    have HZ1 := Lib.hid (lt_of_heap HG1.out)
    refine wp_region_held (S := fun w' => Only X W w') (by kernel_rfl) ?_
    have hS3 : Only X W W.drew := only_drew X W
    have r2 : ∀ w', Only X W w' → w'.cell? ⟨gi, 0, none⟩ = some (.int .i64 i) := fun w' hw' => (cell_only hw' HZ1.out (fun hx => by
      rcases (HX.out gi).1 hx with h | h | h
      · exact hne h
      · exact HL.out h
      · exact HV.out h) 0).trans c2
    have c0' : W.drew.cell? ⟨gB, 0, none⟩ = some (.slice va n vk) := c0
    have c1' : W.drew.cell? ⟨gB, 1, none⟩ = some (.slice la m lk) := c1
    have HD := Lib.hid (H1.out.next (below_drew1 W))
    have HBD : Hid (Below base w W.drew) := Lib.hid (HB1.out.trans (below_low HLO1.out (below_drew1 W)))
    clear c0 c1 c2 z0 z1
    refine H_take (i := 0) (v := ?_) rfl (by as_aux_lemma => kernel_rfl) (by as_aux_lemma => kernel_rfl) (by as_aux_lemma => kernel_rfl) (fun _ _ _ h => h) (by rfl) hS3 ?_ ?_
    rotate_left
    · intro w' hw'; go_simp; with_reducible rfl
    go_simp
    refine H_take (i := 1) (v := ?_) rfl (by as_aux_lemma => kernel_rfl) (by as_aux_lemma => kernel_rfl) (by as_aux_lemma => kernel_rfl) (fun _ _ _ h => h) (by rfl) hS3 ?_ ?_
    rotate_left
    · intro w' hw'; go_simp; with_reducible rfl
    go_simp
    refine H_take (i := 2) (v := ?_) rfl (by as_aux_lemma => kernel_rfl) (by as_aux_lemma => kernel_rfl) (by as_aux_lemma => kernel_rfl) (fun _ _ _ h => h) (by rfl) hS3 ?_ ?_
    rotate_left
    · intro w' hw'; go_simp; with_reducible rfl
    go_simp
    refine H_take (i := 3) (v := ?_) rfl (by as_aux_lemma => kernel_rfl) (by as_aux_lemma => kernel_rfl) (by as_aux_lemma => kernel_rfl) (fun _ _ _ h => h) (by rfl) hS3 ?_ ?_
    rotate_left
    · intro w' hw'; go_simp; with_reducible rfl
    go_simp
    refine H_take (i := 4) (v := ?_) rfl (by as_aux_lemma => kernel_rfl) (by as_aux_lemma => kernel_rfl) (by as_aux_lemma => kernel_rfl) (fun _ _ _ h => h) (by rfl) hS3 ?_ ?_
    rotate_left
    · intro w' hw'; go_simp; with_reducible rfl
    go_simp
    refine H_take (i := 6) (v := ?_) rfl (by as_aux_lemma => kernel_rfl) (by as_aux_lemma => kernel_rfl) (by as_aux_lemma => kernel_rfl) (fun _ _ _ h => h) (by rfl) hS3 ?_ ?_
    rotate_left
    · intro w' hw'; go_simp; with_reducible rfl
    go_simp
    refine H_take (i := 8) (v := ?_) rfl (by as_aux_lemma => kernel_rfl) (by as_aux_lemma => kernel_rfl) (by as_aux_lemma => kernel_rfl) (fun _ _ _ h => h) (by rfl) hS3 ?_ ?_
    rotate_left
    · intro w' hw'; go_simp; with_reducible rfl
    go_simp
    refine H_take (i := 9) (v := ?_) rfl (by as_aux_lemma => kernel_rfl) (by as_aux_lemma => kernel_rfl) (by as_aux_lemma => kernel_rfl) (fun _ _ _ h => h) (by rfl) hS3 ?_ ?_
    rotate_left
    · intro w' hw'; go_simp; with_reducible rfl
    go_simp
    refine H_take (i := 10) (v := ?_) rfl (by as_aux_lemma => kernel_rfl) (by as_aux_lemma => kernel_rfl) (by as_aux_lemma => kernel_rfl) (fun _ _ _ h => h) (by rfl) hS3 ?_ ?_
    rotate_left
    · intro w' hw'; go_simp; with_reducible rfl
    go_simp
    refine H_take (i := 12) (v := ?_) rfl (by as_aux_lemma => kernel_rfl) (by as_aux_lemma => kernel_rfl) (by as_aux_lemma => kernel_rfl) (fun _ _ _ h => h) (by rfl) hS3 ?_ ?_
    rotate_left
    · intro w' hw'; go_simp; with_reducible rfl
    go_simp
    refine H_both (i := 5) (j := 11) (by as_aux_lemma => kernel_rfl) rfl rfl (by rfl) (by rfl) ?_ ?_
    · go_simp
      refine H_both (i := 7) (j := 11) (by as_aux_lemma => kernel_rfl) rfl rfl (by rfl) (by rfl) ?_ ?_
      · go_simp
        refine (without_any base c.l i _ W.drew HD.out.two.rl HC.out.2.2.2.1.2 (by have := HC.out.2.1; omega)).mono ?_
        rintro e w4 ⟨l', rfl, ht⟩
        obtain ⟨a4, k4, hv4⟩ := ht.1.slice
        subst hv4
        have hS4 : Only X W w4 := Only.thn hS3 (fun k hk => .inl hk) (only_of_grown ht.2.1 fun k hk => (HX.out k).2 (.inr (.inl hk)))
        have HN4 := Lib.hid (HD.out.turnL ht)
        have HB4 : Hid (Below base w w4) := Lib.hid (HBD.out.trans (ht.below HD.out.two.rl HD.out.size))
        obtain ⟨n4, hn4⟩ : ∃ n4, n4 = (dropN c.l i).length := ⟨_, rfl⟩
        rw [← hn4] at HN4 ⊢
        obtain ⟨d0, d1, y0, y1, dz⟩ := block2' HN4.out.box
        clear ht hn4 c1'
        refine ⟨hS4, ?_⟩
        go_simp
        refine H_one (i := 11) (by as_aux_lemma => kernel_rfl) rfl (by rfl) ?_
        go_simp
        refine H_one (i := 13) (by as_aux_lemma => kernel_rfl) rfl (by rfl) ?_
        go_simp
        refine (with_any base c.v i _ w4 HN4.out.two.rv HN4.out.size HC.out.2.2.1.2 HNI.out HI.out (by have := HC.out.2.1; omega)).mono ?_
        rintro e w5 ⟨v', rfl, ht⟩
        obtain ⟨a5, k5, hv5⟩ := ht.1.slice
        subst hv5
        have hS5 : Only X W w5 := Only.thn hS4 (fun k hk => .inl hk) (only_of_grown ht.2.1 fun k hk => (HX.out k).2 (.inr (.inr hk)))
        have HN5 := Lib.hid (HN4.out.turnV ht)
        have HB5 : Hid (Below base w w5) := Lib.hid (HB4.out.trans (ht.below HN4.out.two.rv HN4.out.size))
        obtain ⟨n5, hn5⟩ : ∃ n5, n5 = (putN c.v i).length := ⟨_, rfl⟩
        rw [← hn5] at HN5 ⊢
        clear d0 d1 y0 y1 dz
        obtain ⟨d0, d1, y0, y1, dz⟩ := block2' HN5.out.box
        clear ht hn5 c0'
        refine ⟨hS5, ?_⟩
        go_simp
        refine H_take (i := 14) (v := ?_) rfl (by as_aux_lemma => kernel_rfl) (by as_aux_lemma => kernel_rfl) (by as_aux_lemma => kernel_rfl) (fun _ _ _ h => h) (by rfl) hS5 ?_ ?_
        rotate_left
        · intro w' hw'; go_simp; with_reducible rfl
        go_simp
        refine H_take (i := 15) (v := ?_) rfl (by as_aux_lemma => kernel_rfl) (by as_aux_lemma => kernel_rfl) (by as_aux_lemma => kernel_rfl) (fun _ _ _ h => h) (by rfl) hS5 ?_ ?_
        rotate_left
        · intro w' hw'; go_simp; with_reducible rfl
        go_simp
        refine H_one (i := 16) (by as_aux_lemma => kernel_rfl) rfl (by rfl) ?_
        go_simp
        have hS6 : Only X W (w5.setCell ⟨gB, 1, none⟩ (.slice a4 n4 k4)) := hS5.set (.inl ((HX.out gB).2 (.inl rfl))) _
        refine ⟨hS6, ?_⟩
        refine H_take (i := 17) (v := ?_) rfl (by as_aux_lemma => kernel_rfl) (by as_aux_lemma => kernel_rfl) (by as_aux_lemma => kernel_rfl) (fun _ _ _ h => h) (by rfl) hS6 ?_ ?_
        rotate_left
        · intro w' hw'; go_simp; with_reducible rfl
        go_simp
        refine H_take (i := 18) (v := ?_) rfl (by as_aux_lemma => kernel_rfl) (by as_aux_lemma => kernel_rfl) (by as_aux_lemma => kernel_rfl) (fun _ _ _ h => h) (by rfl) hS6 ?_ ?_
        rotate_left
        · intro w' hw'; go_simp; with_reducible rfl
        go_simp
        refine H_one (i := 19) (by as_aux_lemma => kernel_rfl) rfl (by rfl) ?_
        go_simp
        have hS7 : Only X W ((w5.setCell ⟨gB, 1, none⟩ (.slice a4 n4 k4)).setCell ⟨gB, 0, none⟩ (.slice a5 n5 k5)) := hS6.set (.inl ((HX.out gB).2 (.inl rfl))) _
        refine ⟨hS7, ?_⟩
        refine wpAnyH_done (by as_aux_lemma => kernel_rfl) ?_ _
        clear hS3 hS4 hS5 hS6 hS7 r2
        go_wp2_with fail
        go_ret
        rw [HE.out]
        exact ⟨rfl, (HB5.out.setCell HN5.out.low _).setCell HN5.out.low _, fun _ => ⟨_, _, HN5.out.set1.set0⟩⟩
      · go_simp
        refine H_one (i := 7) (by as_aux_lemma => kernel_rfl) rfl (by rfl) ?_
        go_simp
        refine (without_any base c.l i _ W.drew HD.out.two.rl HC.out.2.2.2.1.2 (by have := HC.out.2.1; omega)).mono ?_
        rintro e w4 ⟨l', rfl, ht⟩
        obtain ⟨a4, k4, hv4⟩ := ht.1.slice
        subst hv4
        have hS4 : Only X W w4 := Only.thn hS3 (fun k hk => .inl hk) (only_of_grown ht.2.1 fun k hk => (HX.out k).2 (.inr (.inl hk)))
        have HN4 := Lib.hid (HD.out.turnL ht)
        have HB4 : Hid (Below base w w4) := Lib.hid (HBD.out.trans (ht.below HD.out.two.rl HD.out.size))
        obtain ⟨n4, hn4⟩ : ∃ n4, n4 = (dropN c.l i).length := ⟨_, rfl⟩
        rw [← hn4] at HN4 ⊢
        obtain ⟨d0, d1, y0, y1, dz⟩ := block2' HN4.out.box
        clear ht hn4 c1'
        refine ⟨hS4, ?_⟩
        go_simp
        refine H_one (i := 13) (by as_aux_lemma => kernel_rfl) rfl (by rfl) ?_
        go_simp
        refine (with_any base c.v i _ w4 HN4.out.two.rv HN4.out.size HC.out.2.2.1.2 HNI.out HI.out (by have := HC.out.2.1; omega)).mono ?_
        rintro e w5 ⟨v', rfl, ht⟩
        obtain ⟨a5, k5, hv5⟩ := ht.1.slice
        subst hv5
        have hS5 : Only X W w5 := Only.thn hS4 (fun k hk => .inl hk) (only_of_grown ht.2.1 fun k hk => (HX.out k).2 (.inr (.inr hk)))
        have HN5 := Lib.hid (HN4.out.turnV ht)
        have HB5 : Hid (Below base w w5) := Lib.hid (HB4.out.trans (ht.below HN4.out.two.rv HN4.out.size))
        obtain ⟨n5, hn5⟩ : ∃ n5, n5 = (putN c.v i).length := ⟨_, rfl⟩
        rw [← hn5] at HN5 ⊢
        clear d0 d1 y0 y1 dz
        obtain ⟨d0, d1, y0, y1, dz⟩ := block2' HN5.out.box
        clear ht hn5 c0'
        refine ⟨hS5, ?_⟩
        go_simp
        refine H_take (i := 14) (v := ?_) rfl (by as_aux_lemma => kernel_rfl) (by as_aux_lemma => kernel_rfl) (by as_aux_lemma => kernel_rfl) (fun _ _ _ h => h) (by rfl) hS5 ?_ ?_
        rotate_left
        · intro w' hw'; go_simp; with_reducible rfl
        go_simp
        refine H_take (i := 15) (v := ?_) rfl (by as_aux_lemma => kernel_rfl) (by as_aux_lemma => kernel_rfl) (by as_aux_lemma => kernel_rfl) (fun _ _ _ h => h) (by rfl) hS5 ?_ ?_
        rotate_left
        · intro w' hw'; go_simp; with_reducible rfl
        go_simp
        refine H_one (i := 16) (by as_aux_lemma => kernel_rfl) rfl (by rfl) ?_
        go_simp
        have hS6 : Only X W (w5.setCell ⟨gB, 1, none⟩ (.slice a4 n4 k4)) := hS5.set (.inl ((HX.out gB).2 (.inl rfl))) _
        refine ⟨hS6, ?_⟩
        refine H_take (i := 17) (v := ?_) rfl (by as_aux_lemma => kernel_rfl) (by as_aux_lemma => kernel_rfl) (by as_aux_lemma => kernel_rfl) (fun _ _ _ h => h) (by rfl) hS6 ?_ ?_
        rotate_left
        · intro w' hw'; go_simp; with_reducible rfl
        go_simp
        refine H_take (i := 18) (v := ?_) rfl (by as_aux_lemma => kernel_rfl) (by as_aux_lemma => kernel_rfl) (by as_aux_lemma => kernel_rfl) (fun _ _ _ h => h) (by rfl) hS6 ?_ ?_
        rotate_left
        · intro w' hw'; go_simp; with_reducible rfl
        go_simp
        refine H_one (i := 19) (by as_aux_lemma => kernel_rfl) rfl (by rfl) ?_
        go_simp
        have hS7 : Only X W ((w5.setCell ⟨gB, 1, none⟩ (.slice a4 n4 k4)).setCell ⟨gB, 0, none⟩ (.slice a5 n5 k5)) := hS6.set (.inl ((HX.out gB).2 (.inl rfl))) _
        refine ⟨hS7, ?_⟩
        refine wpAnyH_done (by as_aux_lemma => kernel_rfl) ?_ _
        clear hS3 hS4 hS5 hS6 hS7 r2
        go_wp2_with fail
        go_ret
        rw [HE.out]
        exact ⟨rfl, (HB5.out.setCell HN5.out.low _).setCell HN5.out.low _, fun _ => ⟨_, _, HN5.out.set1.set0⟩⟩
    · go_simp
      refine H_one (i := 5) (by as_aux_lemma => kernel_rfl) rfl (by rfl) ?_
      go_simp
      refine H_one (i := 7) (by as_aux_lemma => kernel_rfl) rfl (by rfl) ?_
      go_simp
      refine (without_any base c.l i _ W.drew HD.out.two.rl HC.out.2.2.2.1.2 (by have := HC.out.2.1; omega)).mono ?_
      rintro e w4 ⟨l', rfl, ht⟩
      obtain ⟨a4, k4, hv4⟩ := ht.1.slice
      subst hv4
      have hS4 : Only X W w4 := Only.thn hS3 (fun k hk => .inl hk) (only_of_grown ht.2.1 fun k hk => (HX.out k).2 (.inr (.inl hk)))
      have HN4 := Lib.hid (HD.out.turnL ht)
      have HB4 : Hid (Below base w w4) := Lib.hid (HBD.out.trans (ht.below HD.out.two.rl HD.out.size))
      obtain ⟨n4, hn4⟩ : ∃ n4, n4 = (dropN c.l i).length := ⟨_, rfl⟩
      rw [← hn4] at HN4 ⊢
      obtain ⟨d0, d1, y0, y1, dz⟩ := block2' HN4.out.box
      clear ht hn4 c1'
      refine ⟨hS4, ?_⟩
      go_simp
      refine H_one (i := 13) (by as_aux_lemma => kernel_rfl) rfl (by rfl) ?_
      go_simp
      refine (with_any base c.v i _ w4 HN4.out.two.rv HN4.out.size HC.out.2.2.1.2 HNI.out HI.out (by have := HC.out.2.1; omega)).mono ?_
      rintro e w5 ⟨v', rfl, ht⟩
      obtain ⟨a5, k5, hv5⟩ := ht.1.slice
      subst hv5
      have hS5 : Only X W w5 := Only.thn hS4 (fun k hk => .inl hk) (only_of_grown ht.2.1 fun k hk => (HX.out k).2 (.inr (.inr hk)))
      have HN5 := Lib.hid (HN4.out.turnV ht)
      have HB5 : Hid (Below base w w5) := Lib.hid (HB4.out.trans (ht.below HN4.out.two.rv HN4.out.size))
      obtain ⟨n5, hn5⟩ : ∃ n5, n5 = (putN c.v i).length := ⟨_, rfl⟩
      rw [← hn5] at HN5 ⊢
      clear d0 d1 y0 y1 dz
      obtain ⟨d0, d1, y0, y1, dz⟩ := block2' HN5.out.box
      clear ht hn5 c0'
      refine ⟨hS5, ?_⟩
      go_simp
      refine H_take (i := 14) (v := ?_) rfl (by as_aux_lemma => kernel_rfl) (by as_aux_lemma => kernel_rfl) (by as_aux_lemma => kernel_rfl) (fun _ _ _ h => h) (by rfl) hS5 ?_ ?_
      rotate_left
      · intro w' hw'; go_simp; with_reducible rfl
      go_simp
      refine H_take (i := 15) (v := ?_) rfl (by as_aux_lemma => kernel_rfl) (by as_aux_lemma => kernel_rfl) (by as_aux_lemma => kernel_rfl) (fun _ _ _ h => h) (by rfl) hS5 ?_ ?_
      rotate_left
      · intro w' hw'; go_simp; with_reducible rfl
      go_simp
      refine H_one (i := 16) (by as_aux_lemma => kernel_rfl) rfl (by rfl) ?_
      go_simp
      have hS6 : Only X W (w5.setCell ⟨gB, 1, none⟩ (.slice a4 n4 k4)) := hS5.set (.inl ((HX.out gB).2 (.inl rfl))) _
      refine ⟨hS6, ?_⟩
      refine H_take (i := 17) (v := ?_) rfl (by as_aux_lemma => kernel_rfl) (by as_aux_lemma => kernel_rfl) (by as_aux_lemma => kernel_rfl) (fun _ _ _ h => h) (by rfl) hS6 ?_ ?_
      rotate_left
      · intro w' hw'; go_simp; with_reducible rfl
      go_simp
      refine H_take (i := 18) (v := ?_) rfl (by as_aux_lemma => kernel_rfl) (by as_aux_lemma => kernel_rfl) (by as_aux_lemma => kernel_rfl) (fun _ _ _ h => h) (by rfl) hS6 ?_ ?_
      rotate_left
      · intro w' hw'; go_simp; with_reducible rfl
      go_simp
      refine H_one (i := 19) (by as_aux_lemma => kernel_rfl) rfl (by rfl) ?_
      go_simp
      have hS7 : Only X W ((w5.setCell ⟨gB, 1, none⟩ (.slice a4 n4 k4)).setCell ⟨gB, 0, none⟩ (.slice a5 n5 k5)) := hS6.set (.inl ((HX.out gB).2 (.inl rfl))) _
      refine ⟨hS7, ?_⟩
      refine wpAnyH_done (by as_aux_lemma => kernel_rfl) ?_ _
      clear hS3 hS4 hS5 hS6 hS7 r2
      go_wp2_with fail
      go_ret
      rw [HE.out]
      exact ⟨rfl, (HB5.out.setCell HN5.out.low _).setCell HN5.out.low _, fun _ => ⟨_, _, HN5.out.set1.set0⟩⟩
  · rw [yes_f hx]
    go_simp
    refine H_take (i := 6) (v := ?_) rfl (by as_aux_lemma => kernel_rfl) (by as_aux_lemma => kernel_rfl) (by as_aux_lemma => kernel_rfl) (fun _ _ _ h => h) (by rfl) hS ?_ ?_
    rotate_left
    · intro w' hw'; go_simp; with_reducible rfl
    go_simp
    refine wpAnyH_done (by as_aux_lemma => kernel_rfl) ?_ _
    have HE : Hid (next1 c 2 i = (cf0, 80)) := Lib.hid (next1_pro_no rfl HI.out hx)
    have HB : Hid (Below base w w.drew) := Lib.hid (below_low HLO.out hS)
    clear r1 r2 hx
    go_wp2_with fail
    go_ret
    rw [HE.out]
    exact ⟨rfl, HB.out, fun h => by cases h⟩
end Go.Proofs.Ytdngfbljcmbniaa.M

/- Part: MmK. -/
namespace Go.Proofs.Ytdngfbljcmbniaa.M
open Go.RowKit

/-- A step's value: which step, and the block of its number. -/
def stepV (f gi : Nat) : Value := .func (.func f) #[] #[.pointer (some ⟨gi, 0, none⟩)]

/-- What stepOf answers: no step; or one whose number lies in a new block. -/
def StepIs (d i : Int) (w : World) (e : Ending) (w' : World) : Prop :=
  Below w.heap.size w w' ∧
  ((¬ (1 ≤ d ∧ d ≤ 3 ∧ okN i) ∧ e = .returned (.tuple #[Value.nilFunc, .bool false])) ∨
    ((1 ≤ d ∧ d ≤ 3 ∧ okN i) ∧ ∃ gi, w.heap.size ≤ gi ∧ w'.heap[gi]? = some (.cells #[.int .i64 i] 3) ∧
      e = .returned (.tuple #[stepV (if d = 1 then 57 else if d = 2 then 60 else 62) gi, .bool true])))

set_option maxRecDepth 20000 in
set_option maxHeartbeats 1600000 in
theorem stepOf_any (d i : Int) (w : World) : Calls Try.prog 25 #[.agg #[.int .i64 d, .int .i64 i]] w fun e w' => StepIs d i w e w' := by
  by_cases hi : okN i
  · have HI := Lib.hid hi
    have HY := Lib.hid (yes_t hi)
    clear hi
    by_cases h1 : d = 1
    · subst h1
      have HOK : Hid ((1 : Int) ≤ 1 ∧ (1 : Int) ≤ 3 ∧ okN i) := Lib.hid ⟨by omega, by omega, HI.out⟩
      go_enter Try.func25, Try.ntmps25
      go_wp2_with fail
      refine (isID_any i _).mono ?_
      rintro e w' ⟨rfl, rfl⟩
      rw [HY.out]
      go_wp2_with (go_in)
      go_ret2
      refine ⟨((Below.refl _ w).alloc (Nat.le_refl _) _).alloc (by simp) _, .inr ⟨HOK.out, w.heap.size + 1, by omega, heap_new _ _ _ (by simp), ?_⟩⟩
      rfl
    by_cases h2 : d = 2
    · subst h2
      have HOK : Hid ((1 : Int) ≤ 2 ∧ (2 : Int) ≤ 3 ∧ okN i) := Lib.hid ⟨by omega, by omega, HI.out⟩
      go_enter Try.func25, Try.ntmps25
      go_wp2_with fail
      refine (isID_any i _).mono ?_
      rintro e w' ⟨rfl, rfl⟩
      rw [HY.out]
      go_wp2_with (go_in)
      go_ret2
      refine ⟨((Below.refl _ w).alloc (Nat.le_refl _) _).alloc (by simp) _, .inr ⟨HOK.out, w.heap.size + 1, by omega, heap_new _ _ _ (by simp), ?_⟩⟩
      rfl
    by_cases h3 : d = 3
    · subst h3
      have HOK : Hid ((1 : Int) ≤ 3 ∧ (3 : Int) ≤ 3 ∧ okN i) := Lib.hid ⟨by omega, by omega, HI.out⟩
      go_enter Try.func25, Try.ntmps25
      go_wp2_with fail
      refine (isID_any i _).mono ?_
      rintro e w' ⟨rfl, rfl⟩
      rw [HY.out]
      go_wp2_with (go_in)
      go_ret2
      refine ⟨((Below.refl _ w).alloc (Nat.le_refl _) _).alloc (by simp) _, .inr ⟨HOK.out, w.heap.size + 1, by omega, heap_new _ _ _ (by simp), ?_⟩⟩
      rfl
    · have HOK : Hid (¬ (1 ≤ d ∧ d ≤ 3 ∧ okN i)) := Lib.hid (by omega)
      have q1 : (d == 1) = false := by simpa using h1
      have q2 : (d == 2) = false := by simpa using h2
      have q3 : (d == 3) = false := by simpa using h3
      go_enter Try.func25, Try.ntmps25
      go_wp2_with fail
      refine (isID_any i _).mono ?_
      rintro e w' ⟨rfl, rfl⟩
      rw [HY.out]
      go_wp2_with (go_in)
      go_ret2
      refine ⟨(Below.refl _ w).alloc (Nat.le_refl _) _, .inl ⟨HOK.out, rfl⟩⟩
  · have HY := Lib.hid (yes_f hi)
    have HOK : Hid (¬ (1 ≤ d ∧ d ≤ 3 ∧ okN i)) := Lib.hid fun h => hi h.2.2
    clear hi
    go_enter Try.func25, Try.ntmps25
    go_wp2_with fail
    refine (isID_any i _).mono ?_
    rintro e w' ⟨rfl, rfl⟩
    rw [HY.out]
    go_wp2_with (go_in)
    go_ret2
    refine ⟨(Below.refl _ w).alloc (Nat.le_refl _) _, .inl ⟨HOK.out, rfl⟩⟩
end Go.Proofs.Ytdngfbljcmbniaa.M

/- Part: MmJ. -/
namespace Go.Proofs.Ytdngfbljcmbniaa.M
open Go.RowKit


set_option maxRecDepth 20000 in
set_option maxHeartbeats 6400000 in
theorem remove_any (base gB gi : Nat) (c : Cf) (v l : Value) (i : Int) (w : World) (h : NX base gB v l c v l w) (hc : c.ok) (hi : okN i) (hg : w.heap[gi]? = some (.cells #[.int .i64 i] 3)) (hv : v.ownBlock ≠ some gi) (hl : l.ownBlock ≠ some gi) (hne : gi ≠ gB) :
    Calls Try.prog 62 #[.pointer (some ⟨gB, 0, none⟩), .pointer (some ⟨gi, 0, none⟩)] w fun e w' => StepPost base gB (next1 c 3 i) w e w' := by
  obtain ⟨va, vk, hvv⟩ := h.two.rv.slice
  obtain ⟨la, lk, hlv⟩ := h.two.rl.slice
  obtain ⟨n, hn⟩ : ∃ n, n = c.v.length := ⟨_, rfl⟩
  obtain ⟨m, hm⟩ : ∃ m, m = c.l.length := ⟨_, rfl⟩
  have HAS := Lib.hid fun w' (hb : Below w.heap.size w w') => Has_any c i _ v l w' (h.next hb).repv (h.next hb).repl (fun k hk => hk)
  have VOT := Lib.hid fun w' (hb : Below w.heap.size w w') => Votes_any c i _ v l w' (h.next hb).repv (h.next hb).repl (fun k hk => hk)
  rw [← hn] at hvv
  rw [← hm] at hlv
  subst hvv hlv
  have H := Lib.hid h
  have HC := Lib.hid hc
  have hS : Below w.heap.size w w.drew := below_drew1 w
  have r0 : ∀ w', Below w.heap.size w w' → w'.cell? ⟨gB, 0, none⟩ = some (.slice va n vk) := fun w' hw' => (block2' (old_below h.box hw')).1
  have r1 : ∀ w', Below w.heap.size w w' → w'.cell? ⟨gB, 1, none⟩ = some (.slice la m lk) := fun w' hw' => (block2' (old_below h.box hw')).2.1
  have r2 : ∀ w', Below w.heap.size w w' → w'.cell? ⟨gi, 0, none⟩ = some (.int .i64 i) := fun w' hw' => cell_of_row w' gi 0 _ _ _ (old_below hg hw')
  have HG := Lib.hid hg
  have HV := Lib.hid hv
  have HL := Lib.hid hl
  have HI := Lib.hid hi
  have HN := Lib.hid hn
  have HLO : Hid (base ≤ w.heap.size) := Lib.hid h.size
  clear h hc hn hm hg hv hl hi
  go_enter Try.func62, Try.ntmps62
  go_wp2_with fail
  refine wp_region_held (S := fun w' => Below w.heap.size w w') (by kernel_rfl) ?_
  refine H_take (i := 0) (v := ?_) rfl (by as_aux_lemma => kernel_rfl) (by as_aux_lemma => kernel_rfl) (by as_aux_lemma => kernel_rfl) (fun _ _ _ h => h) (by rfl) hS ?_ ?_
  rotate_left
  · intro w' hw'; go_simp; with_reducible rfl
  go_simp
  refine H_take (i := 1) (v := ?_) rfl (by as_aux_lemma => kernel_rfl) (by as_aux_lemma => kernel_rfl) (by as_aux_lemma => kernel_rfl) (fun _ _ _ h => h) (by rfl) hS ?_ ?_
  rotate_left
  · intro w' hw'; go_simp; with_reducible rfl
  go_simp
  refine H_take (i := 2) (v := ?_) rfl (by as_aux_lemma => kernel_rfl) (by as_aux_lemma => kernel_rfl) (by as_aux_lemma => kernel_rfl) (fun _ _ _ h => h) (by rfl) hS ?_ ?_
  rotate_left
  · intro w' hw'; go_simp; with_reducible rfl
  go_simp
  refine H_take (i := 3) (v := ?_) rfl (by as_aux_lemma => kernel_rfl) (by as_aux_lemma => kernel_rfl) (by as_aux_lemma => kernel_rfl) (fun _ _ _ h => h) (by rfl) hS ?_ ?_
  rotate_left
  · intro w' hw'; go_simp; with_reducible rfl
  go_simp
  refine H_one (i := 4) (by as_aux_lemma => kernel_rfl) rfl (by rfl) ?_
  go_simp
  refine (HAS.out _ hS).mono ?_
  rintro e w1 ⟨rfl, hb1⟩
  have hS1 : Below w.heap.size w w1 := hS.trans hb1
  clear hb1
  refine ⟨hS1, ?_⟩
  by_cases hx : i ∈ c.v ∨ i ∈ c.l
  · rw [yes_t hx]
    go_simp
    refine H_take (i := 5) (v := ?_) rfl (by as_aux_lemma => kernel_rfl) (by as_aux_lemma => kernel_rfl) (by as_aux_lemma => kernel_rfl) (fun _ _ _ h => h) (by rfl) hS1 ?_ ?_
    rotate_left
    · intro w' hw'; go_simp; with_reducible rfl
    go_simp
    refine wpAnyH_done (by as_aux_lemma => kernel_rfl) ?_ _
    clear hS
    go_wp2_with fail
    refine wp_region_held (S := fun w' => Below w.heap.size w w') (by kernel_rfl) ?_
    have hS0 : Below w.heap.size w w1.drew := hS1.drew
    clear hS1
    refine H_take (i := 0) (v := ?_) rfl (by as_aux_lemma => kernel_rfl) (by as_aux_lemma => kernel_rfl) (by as_aux_lemma => kernel_rfl) (fun _ _ _ h => h) (by rfl) hS0 ?_ ?_
    rotate_left
    · intro w' hw'; go_simp; with_reducible rfl
    go_simp
    refine H_take (i := 1) (v := ?_) rfl (by as_aux_lemma => kernel_rfl) (by as_aux_lemma => kernel_rfl) (by as_aux_lemma => kernel_rfl) (fun _ _ _ h => h) (by rfl) hS0 ?_ ?_
    rotate_left
    · intro w' hw'; go_simp; with_reducible rfl
    go_simp
    refine H_take (i := 2) (v := ?_) rfl (by as_aux_lemma => kernel_rfl) (by as_aux_lemma => kernel_rfl) (by as_aux_lemma => kernel_rfl) (fun _ _ _ h => h) (by rfl) hS0 ?_ ?_
    rotate_left
    · intro w' hw'; go_simp; with_reducible rfl
    go_simp
    refine H_take (i := 3) (v := ?_) rfl (by as_aux_lemma => kernel_rfl) (by as_aux_lemma => kernel_rfl) (by as_aux_lemma => kernel_rfl) (fun _ _ _ h => h) (by rfl) hS0 ?_ ?_
    rotate_left
    · intro w' hw'; go_simp; with_reducible rfl
    go_simp
    refine H_one (i := 4) (by as_aux_lemma => kernel_rfl) rfl (by rfl) ?_
    go_simp
    refine (VOT.out _ hS0).mono ?_
    rintro e w2 ⟨rfl, hb2⟩
    have hS2 : Below w.heap.size w w2 := hS0.trans (hb2.mono hS0.size)
    clear hb2 hS0
    refine ⟨hS2, ?_⟩
    by_cases hv : i ∈ c.v
    · rw [yes_t hv]
      by_cases h1 : n = 1
      · have hn1 : (n : Int) = 1 := by omega
        have q1 : ((n : Int) == 1) = true := by simp [h1]
        go_simp
        refine H_take (i := 5) (v := ?_) rfl (by as_aux_lemma => kernel_rfl) (by as_aux_lemma => kernel_rfl) (by as_aux_lemma => kernel_rfl) (fun _ _ _ h => h) (by rfl) hS2 ?_ ?_
        rotate_left
        · intro w' hw'; go_simp; with_reducible rfl
        go_simp
        refine H_take (i := 6) (v := ?_) rfl (by as_aux_lemma => kernel_rfl) (by as_aux_lemma => kernel_rfl) (by as_aux_lemma => kernel_rfl) (fun _ _ _ h => h) (by rfl) hS2 ?_ ?_
        rotate_left
        · intro w' hw'; go_simp; with_reducible rfl
        go_simp
        refine H_take (i := 7) (v := ?_) rfl (by as_aux_lemma => kernel_rfl) (by as_aux_lemma => kernel_rfl) (by as_aux_lemma => kernel_rfl) (fun _ _ _ h => h) (by rfl) hS2 ?_ ?_
        rotate_left
        · intro w' hw'; go_simp; with_reducible rfl
        go_simp
        refine H_take (i := 8) (v := ?_) rfl (by as_aux_lemma => kernel_rfl) (by as_aux_lemma => kernel_rfl) (by as_aux_lemma => kernel_rfl) (fun _ _ _ h => h) (by rfl) hS2 ?_ ?_
        rotate_left
        · intro w' hw'; go_simp; with_reducible rfl
        go_simp
        refine H_take (i := 9) (v := ?_) rfl (by as_aux_lemma => kernel_rfl) (by as_aux_lemma => kernel_rfl) (by as_aux_lemma => kernel_rfl) (fun _ _ _ h => h) (by rfl) hS2 ?_ ?_
        rotate_left
        · intro w' hw'; go_simp; with_reducible rfl
        go_simp
        refine H_take (i := 10) (v := ?_) rfl (by as_aux_lemma => kernel_rfl) (by as_aux_lemma => kernel_rfl) (by as_aux_lemma => kernel_rfl) (fun _ _ _ h => h) (by rfl) hS2 ?_ ?_
        rotate_left
        · intro w' hw'; go_simp; with_reducible rfl
        go_simp
        refine H_take (i := 11) (v := ?_) rfl (by as_aux_lemma => kernel_rfl) (by as_aux_lemma => kernel_rfl) (by as_aux_lemma => kernel_rfl) (fun _ _ _ h => h) (by rfl) hS2 ?_ ?_
        rotate_left
        · intro w' hw'; go_simp; with_reducible rfl
        go_simp
        refine H_take (i := 12) (v := ?_) rfl (by as_aux_lemma => kernel_rfl) (by as_aux_lemma => kernel_rfl) (by as_aux_lemma => kernel_rfl) (fun _ _ _ h => h) (by rfl) hS2 ?_ ?_
        rotate_left
        · intro w' hw'; go_simp; with_reducible rfl
        go_simp
        refine wpAnyH_done (by as_aux_lemma => kernel_rfl) ?_ _
        have HE : Hid (next1 c 3 i = (cf0, 81)) := Lib.hid (next1_rem_last rfl HI.out hv (by rw [← HN.out]; exact h1))
        clear hx hv
        have HB : Hid (Below base w w2) := Lib.hid (below_low HLO.out hS2)
        clear r0 r1 r2 hS2
        go_wp2_with fail
        go_ret
        rw [HE.out]
        exact ⟨rfl, HB.out, fun h => by cases h⟩
      · have hn1 : ¬ (n : Int) = 1 := by omega
        have q1 : ((n : Int) == 1) = false := by simpa using hn1
        go_simp
        refine H_take (i := 5) (v := ?_) rfl (by as_aux_lemma => kernel_rfl) (by as_aux_lemma => kernel_rfl) (by as_aux_lemma => kernel_rfl) (fun _ _ _ h => h) (by rfl) hS2 ?_ ?_
        rotate_left
        · intro w' hw'; go_simp; with_reducible rfl
        go_simp
        refine H_take (i := 6) (v := ?_) rfl (by as_aux_lemma => kernel_rfl) (by as_aux_lemma => kernel_rfl) (by as_aux_lemma => kernel_rfl) (fun _ _ _ h => h) (by rfl) hS2 ?_ ?_
        rotate_left
        · intro w' hw'; go_simp; with_reducible rfl
        go_simp
        refine H_take (i := 7) (v := ?_) rfl (by as_aux_lemma => kernel_rfl) (by as_aux_lemma => kernel_rfl) (by as_aux_lemma => kernel_rfl) (fun _ _ _ h => h) (by rfl) hS2 ?_ ?_
        rotate_left
        · intro w' hw'; go_simp; with_reducible rfl
        go_simp
        refine H_take (i := 8) (v := ?_) rfl (by as_aux_lemma => kernel_rfl) (by as_aux_lemma => kernel_rfl) (by as_aux_lemma => kernel_rfl) (fun _ _ _ h => h) (by rfl) hS2 ?_ ?_
        rotate_left
        · intro w' hw'; go_simp; with_reducible rfl
        go_simp
        refine H_take (i := 9) (v := ?_) rfl (by as_aux_lemma => kernel_rfl) (by as_aux_lemma => kernel_rfl) (by as_aux_lemma => kernel_rfl) (fun _ _ _ h => h) (by rfl) hS2 ?_ ?_
        rotate_left
        · intro w' hw'; go_simp; with_reducible rfl
        go_simp
        refine H_take (i := 10) (v := ?_) rfl (by as_aux_lemma => kernel_rfl) (by as_aux_lemma => kernel_rfl) (by as_aux_lemma => kernel_rfl) (fun _ _ _ h => h) (by rfl) hS2 ?_ ?_
        rotate_left
        · intro w' hw'; go_simp; with_reducible rfl
        go_simp
        refine H_take (i := 11) (v := ?_) rfl (by as_aux_lemma => kernel_rfl) (by as_aux_lemma => kernel_rfl) (by as_aux_lemma => kernel_rfl) (fun _ _ _ h => h) (by rfl) hS2 ?_ ?_
        rotate_left
        · intro w' hw'; go_simp; with_reducible rfl
        go_simp
        refine H_take (i := 12) (v := ?_) rfl (by as_aux_lemma => kernel_rfl) (by as_aux_lemma => kernel_rfl) (by as_aux_lemma => kernel_rfl) (fun _ _ _ h => h) (by rfl) hS2 ?_ ?_
        rotate_left
        · intro w' hw'; go_simp; with_reducible rfl
        go_simp
        refine wpAnyH_done (by as_aux_lemma => kernel_rfl) ?_ _
        have HE : Hid (next1 c 3 i = (⟨dropN c.v i, dropN c.l i⟩, 0)) := Lib.hid (next1_rem rfl HI.out hx (fun h => h1 (by rw [HN.out]; exact h.2)))
        clear hx hv
        have H1 := Lib.hid (H.out.next hS2)
        have HG1 := Lib.hid (old_below HG.out hS2)
        have HB1 : Hid (Below base w w2) := Lib.hid (below_low HLO.out hS2)
        have HLO1 : Hid (base ≤ w2.heap.size) := Lib.hid (Nat.le_trans HLO.out hS2.size)
        obtain ⟨W, hW⟩ : ∃ W, W = w2 := ⟨_, rfl⟩
        subst hW
        clear r0 r1 r2 hS2
        obtain ⟨c0, c1, z0, z1, -⟩ := block2' H1.out.box
        have c2 : W.cell? ⟨gi, 0, none⟩ = some (.int .i64 i) := cell_of_row W gi 0 _ _ _ HG1.out
        go_wp2_with fail
        obtain ⟨X, hX⟩ : ∃ X : Nat → Prop, X = fun q => q = gB ∨ (Value.slice la m lk).ownBlock = some q ∨ (Value.slice va n vk).ownBlock = some q := ⟨_, rfl⟩
        have HX : Hid (∀ q, X q ↔ q = gB ∨ (Value.slice la m lk).ownBlock = some q ∨ (Value.slice va n vk).ownBlock = some q) := Lib.hid (by rw [hX]; exact fun q => Iff.rfl)
        clear hX
        have HZ1 := Lib.hid (lt_of_heap HG1.out)
        refine wp_region_held (S := fun w' => Only X W w') (by kernel_rfl) ?_
        have hS3 : Only X W W.drew := only_drew X W
        have r2 : ∀ w', Only X W w' → w'.cell? ⟨gi, 0, none⟩ = some (.int .i64 i) := fun w' hw' => (cell_only hw' HZ1.out (fun hx => by
          rcases (HX.out gi).1 hx with h | h | h
          · exact hne h
          · exact HL.out h
          · exact HV.out h) 0).trans c2
        have c0' : W.drew.cell? ⟨gB, 0, none⟩ = some (.slice va n vk) := c0
        have c1' : W.drew.cell? ⟨gB, 1, none⟩ = some (.slice la m lk) := c1
        have HD := Lib.hid (H1.out.next (below_drew1 W))
        have HBD : Hid (Below base w W.drew) := Lib.hid (HB1.out.trans (below_low HLO1.out (below_drew1 W)))
        clear c0 c1 c2 z0 z1
        refine H_take (i := 0) (v := ?_) rfl (by as_aux_lemma => kernel_rfl) (by as_aux_lemma => kernel_rfl) (by as_aux_lemma => kernel_rfl) (fun _ _ _ h => h) (by rfl) hS3 ?_ ?_
        rotate_left
        · intro w' hw'; go_simp; with_reducible rfl
        go_simp
        refine H_take (i := 1) (v := ?_) rfl (by as_aux_lemma => kernel_rfl) (by as_aux_lemma => kernel_rfl) (by as_aux_lemma => kernel_rfl) (fun _ _ _ h => h) (by rfl) hS3 ?_ ?_
        rotate_left
        · intro w' hw'; go_simp; with_reducible rfl
        go_simp
        refine H_take (i := 2) (v := ?_) rfl (by as_aux_lemma => kernel_rfl) (by as_aux_lemma => kernel_rfl) (by as_aux_lemma => kernel_rfl) (fun _ _ _ h => h) (by rfl) hS3 ?_ ?_
        rotate_left
        · intro w' hw'; go_simp; with_reducible rfl
        go_simp
        refine H_take (i := 3) (v := ?_) rfl (by as_aux_lemma => kernel_rfl) (by as_aux_lemma => kernel_rfl) (by as_aux_lemma => kernel_rfl) (fun _ _ _ h => h) (by rfl) hS3 ?_ ?_
        rotate_left
        · intro w' hw'; go_simp; with_reducible rfl
        go_simp
        refine H_take (i := 4) (v := ?_) rfl (by as_aux_lemma => kernel_rfl) (by as_aux_lemma => kernel_rfl) (by as_aux_lemma => kernel_rfl) (fun _ _ _ h => h) (by rfl) hS3 ?_ ?_
        rotate_left
        · intro w' hw'; go_simp; with_reducible rfl
        go_simp
        refine H_take (i := 6) (v := ?_) rfl (by as_aux_lemma => kernel_rfl) (by as_aux_lemma => kernel_rfl) (by as_aux_lemma => kernel_rfl) (fun _ _ _ h => h) (by rfl) hS3 ?_ ?_
        rotate_left
        · intro w' hw'; go_simp; with_reducible rfl
        go_simp
        refine H_take (i := 8) (v := ?_) rfl (by as_aux_lemma => kernel_rfl) (by as_aux_lemma => kernel_rfl) (by as_aux_lemma => kernel_rfl) (fun _ _ _ h => h) (by rfl) hS3 ?_ ?_
        rotate_left
        · intro w' hw'; go_simp; with_reducible rfl
        go_simp
        refine H_take (i := 9) (v := ?_) rfl (by as_aux_lemma => kernel_rfl) (by as_aux_lemma => kernel_rfl) (by as_aux_lemma => kernel_rfl) (fun _ _ _ h => h) (by rfl) hS3 ?_ ?_
        rotate_left
        · intro w' hw'; go_simp; with_reducible rfl
        go_simp
        refine H_take (i := 10) (v := ?_) rfl (by as_aux_lemma => kernel_rfl) (by as_aux_lemma => kernel_rfl) (by as_aux_lemma => kernel_rfl) (fun _ _ _ h => h) (by rfl) hS3 ?_ ?_
        rotate_left
        · intro w' hw'; go_simp; with_reducible rfl
        go_simp
        refine H_take (i := 12) (v := ?_) rfl (by as_aux_lemma => kernel_rfl) (by as_aux_lemma => kernel_rfl) (by as_aux_lemma => kernel_rfl) (fun _ _ _ h => h) (by rfl) hS3 ?_ ?_
        rotate_left
        · intro w' hw'; go_simp; with_reducible rfl
        go_simp
        refine H_both (i := 5) (j := 11) (by as_aux_lemma => kernel_rfl) rfl rfl (by rfl) (by rfl) ?_ ?_
        · go_simp
          refine H_both (i := 7) (j := 11) (by as_aux_lemma => kernel_rfl) rfl rfl (by rfl) (by rfl) ?_ ?_
          · go_simp
            refine (without_any base c.v i _ W.drew HD.out.two.rv HC.out.2.2.1.2 (by have := HC.out.2.1; omega)).mono ?_
            rintro e w4 ⟨v', rfl, ht⟩
            obtain ⟨a4, k4, hv4⟩ := ht.1.slice
            subst hv4
            have hS4 : Only X W w4 := Only.thn hS3 (fun k hk => .inl hk) (only_of_grown ht.2.1 fun k hk => (HX.out k).2 (.inr (.inr hk)))
            have HN4 := Lib.hid (HD.out.turnV ht)
            have HB4 : Hid (Below base w w4) := Lib.hid (HBD.out.trans (ht.below HD.out.two.rv HD.out.size))
            obtain ⟨n4, hn4⟩ : ∃ n4, n4 = (dropN c.v i).length := ⟨_, rfl⟩
            rw [← hn4] at HN4 ⊢
            obtain ⟨d0, d1, y0, y1, dz⟩ := block2' HN4.out.box
            clear ht hn4 c0'
            refine ⟨hS4, ?_⟩
            go_simp
            refine H_one (i := 11) (by as_aux_lemma => kernel_rfl) rfl (by rfl) ?_
            go_simp
            refine H_one (i := 13) (by as_aux_lemma => kernel_rfl) rfl (by rfl) ?_
            go_simp
            refine (without_any base c.l i _ w4 HN4.out.two.rl HC.out.2.2.2.1.2 (by have := HC.out.2.1; omega)).mono ?_
            rintro e w5 ⟨l', rfl, ht⟩
            obtain ⟨a5, k5, hv5⟩ := ht.1.slice
            subst hv5
            have hS5 : Only X W w5 := Only.thn hS4 (fun k hk => .inl hk) (only_of_grown ht.2.1 fun k hk => (HX.out k).2 (.inr (.inl hk)))
            have HN5 := Lib.hid (HN4.out.turnL ht)
            have HB5 : Hid (Below base w w5) := Lib.hid (HB4.out.trans (ht.below HN4.out.two.rl HN4.out.size))
            obtain ⟨n5, hn5⟩ : ∃ n5, n5 = (dropN c.l i).length := ⟨_, rfl⟩
            rw [← hn5] at HN5 ⊢
            clear d0 d1 y0 y1 dz
            obtain ⟨d0, d1, y0, y1, dz⟩ := block2' HN5.out.box
            clear ht hn5 c1'
            refine ⟨hS5, ?_⟩
            go_simp
            refine H_take (i := 14) (v := ?_) rfl (by as_aux_lemma => kernel_rfl) (by as_aux_lemma => kernel_rfl) (by as_aux_lemma => kernel_rfl) (fun _ _ _ h => h) (by rfl) hS5 ?_ ?_
            rotate_left
            · intro w' hw'; go_simp; with_reducible rfl
            go_simp
            refine H_take (i := 15) (v := ?_) rfl (by as_aux_lemma => kernel_rfl) (by as_aux_lemma => kernel_rfl) (by as_aux_lemma => kernel_rfl) (fun _ _ _ h => h) (by rfl) hS5 ?_ ?_
            rotate_left
            · intro w' hw'; go_simp; with_reducible rfl
            go_simp
            refine H_one (i := 16) (by as_aux_lemma => kernel_rfl) rfl (by rfl) ?_
            go_simp
            have hS6 : Only X W (w5.setCell ⟨gB, 0, none⟩ (.slice a4 n4 k4)) := hS5.set (.inl ((HX.out gB).2 (.inl rfl))) _
            refine ⟨hS6, ?_⟩
            refine H_take (i := 17) (v := ?_) rfl (by as_aux_lemma => kernel_rfl) (by as_aux_lemma => kernel_rfl) (by as_aux_lemma => kernel_rfl) (fun _ _ _ h => h) (by rfl) hS6 ?_ ?_
            rotate_left
            · intro w' hw'; go_simp; with_reducible rfl
            go_simp
            refine H_take (i := 18) (v := ?_) rfl (by as_aux_lemma => kernel_rfl) (by as_aux_lemma => kernel_rfl) (by as_aux_lemma => kernel_rfl) (fun _ _ _ h => h) (by rfl) hS6 ?_ ?_
            rotate_left
            · intro w' hw'; go_simp; with_reducible rfl
            go_simp
            refine H_one (i := 19) (by as_aux_lemma => kernel_rfl) rfl (by rfl) ?_
            go_simp
            have hS7 : Only X W ((w5.setCell ⟨gB, 0, none⟩ (.slice a4 n4 k4)).setCell ⟨gB, 1, none⟩ (.slice a5 n5 k5)) := hS6.set (.inl ((HX.out gB).2 (.inl rfl))) _
            refine ⟨hS7, ?_⟩
            refine wpAnyH_done (by as_aux_lemma => kernel_rfl) ?_ _
            clear hS3 hS4 hS5 hS6 hS7 r2
            go_wp2_with fail
            go_ret
            rw [HE.out]
            exact ⟨rfl, (HB5.out.setCell HN5.out.low _).setCell HN5.out.low _, fun _ => ⟨_, _, HN5.out.set0.set1⟩⟩
          · go_simp
            refine H_one (i := 7) (by as_aux_lemma => kernel_rfl) rfl (by rfl) ?_
            go_simp
            refine (without_any base c.v i _ W.drew HD.out.two.rv HC.out.2.2.1.2 (by have := HC.out.2.1; omega)).mono ?_
            rintro e w4 ⟨v', rfl, ht⟩
            obtain ⟨a4, k4, hv4⟩ := ht.1.slice
            subst hv4
            have hS4 : Only X W w4 := Only.thn hS3 (fun k hk => .inl hk) (only_of_grown ht.2.1 fun k hk => (HX.out k).2 (.inr (.inr hk)))
            have HN4 := Lib.hid (HD.out.turnV ht)
            have HB4 : Hid (Below base w w4) := Lib.hid (HBD.out.trans (ht.below HD.out.two.rv HD.out.size))
            obtain ⟨n4, hn4⟩ : ∃ n4, n4 = (dropN c.v i).length := ⟨_, rfl⟩
            rw [← hn4] at HN4 ⊢
            obtain ⟨d0, d1, y0, y1, dz⟩ := block2' HN4.out.box
            clear ht hn4 c0'
            refine ⟨hS4, ?_⟩
            go_simp
            refine H_one (i := 13) (by as_aux_lemma => kernel_rfl) rfl (by rfl) ?_
            go_simp
            refine (without_any base c.l i _ w4 HN4.out.two.rl HC.out.2.2.2.1.2 (by have := HC.out.2.1; omega)).mono ?_
            rintro e w5 ⟨l', rfl, ht⟩
            obtain ⟨a5, k5, hv5⟩ := ht.1.slice
            subst hv5
            have hS5 : Only X W w5 := Only.thn hS4 (fun k hk => .inl hk) (only_of_grown ht.2.1 fun k hk => (HX.out k).2 (.inr (.inl hk)))
            have HN5 := Lib.hid (HN4.out.turnL ht)
            have HB5 : Hid (Below base w w5) := Lib.hid (HB4.out.trans (ht.below HN4.out.two.rl HN4.out.size))
            obtain ⟨n5, hn5⟩ : ∃ n5, n5 = (dropN c.l i).length := ⟨_, rfl⟩
            rw [← hn5] at HN5 ⊢
            clear d0 d1 y0 y1 dz
            obtain ⟨d0, d1, y0, y1, dz⟩ := block2' HN5.out.box
            clear ht hn5 c1'
            refine ⟨hS5, ?_⟩
            go_simp
            refine H_take (i := 14) (v := ?_) rfl (by as_aux_lemma => kernel_rfl) (by as_aux_lemma => kernel_rfl) (by as_aux_lemma => kernel_rfl) (fun _ _ _ h => h) (by rfl) hS5 ?_ ?_
            rotate_left
            · intro w' hw'; go_simp; with_reducible rfl
            go_simp
            refine H_take (i := 15) (v := ?_) rfl (by as_aux_lemma => kernel_rfl) (by as_aux_lemma => kernel_rfl) (by as_aux_lemma => kernel_rfl) (fun _ _ _ h => h) (by rfl) hS5 ?_ ?_
            rotate_left
            · intro w' hw'; go_simp; with_reducible rfl
            go_simp
            refine H_one (i := 16) (by as_aux_lemma => kernel_rfl) rfl (by rfl) ?_
            go_simp
            have hS6 : Only X W (w5.setCell ⟨gB, 0, none⟩ (.slice a4 n4 k4)) := hS5.set (.inl ((HX.out gB).2 (.inl rfl))) _
            refine ⟨hS6, ?_⟩
            refine H_take (i := 17) (v := ?_) rfl (by as_aux_lemma => kernel_rfl) (by as_aux_lemma => kernel_rfl) (by as_aux_lemma => kernel_rfl) (fun _ _ _ h => h) (by rfl) hS6 ?_ ?_
            rotate_left
            · intro w' hw'; go_simp; with_reducible rfl
            go_simp
            refine H_take (i := 18) (v := ?_) rfl (by as_aux_lemma => kernel_rfl) (by as_aux_lemma => kernel_rfl) (by as_aux_lemma => kernel_rfl) (fun _ _ _ h => h) (by rfl) hS6 ?_ ?_
            rotate_left
            · intro w' hw'; go_simp; with_reducible rfl
            go_simp
            refine H_one (i := 19) (by as_aux_lemma => kernel_rfl) rfl (by rfl) ?_
            go_simp
            have hS7 : Only X W ((w5.setCell ⟨gB, 0, none⟩ (.slice a4 n4 k4)).setCell ⟨gB, 1, none⟩ (.slice a5 n5 k5)) := hS6.set (.inl ((HX.out gB).2 (.inl rfl))) _
            refine ⟨hS7, ?_⟩
            refine wpAnyH_done (by as_aux_lemma => kernel_rfl) ?_ _
            clear hS3 hS4 hS5 hS6 hS7 r2
            go_wp2_with fail
            go_ret
            rw [HE.out]
            exact ⟨rfl, (HB5.out.setCell HN5.out.low _).setCell HN5.out.low _, fun _ => ⟨_, _, HN5.out.set0.set1⟩⟩
        · go_simp
          refine H_one (i := 5) (by as_aux_lemma => kernel_rfl) rfl (by rfl) ?_
          go_simp
          refine H_one (i := 7) (by as_aux_lemma => kernel_rfl) rfl (by rfl) ?_
          go_simp
          refine (without_any base c.v i _ W.drew HD.out.two.rv HC.out.2.2.1.2 (by have := HC.out.2.1; omega)).mono ?_
          rintro e w4 ⟨v', rfl, ht⟩
          obtain ⟨a4, k4, hv4⟩ := ht.1.slice
          subst hv4
          have hS4 : Only X W w4 := Only.thn hS3 (fun k hk => .inl hk) (only_of_grown ht.2.1 fun k hk => (HX.out k).2 (.inr (.inr hk)))
          have HN4 := Lib.hid (HD.out.turnV ht)
          have HB4 : Hid (Below base w w4) := Lib.hid (HBD.out.trans (ht.below HD.out.two.rv HD.out.size))
          obtain ⟨n4, hn4⟩ : ∃ n4, n4 = (dropN c.v i).length := ⟨_, rfl⟩
          rw [← hn4] at HN4 ⊢
          obtain ⟨d0, d1, y0, y1, dz⟩ := block2' HN4.out.box
          clear ht hn4 c0'
          refine ⟨hS4, ?_⟩
          go_simp
          refine H_one (i := 13) (by as_aux_lemma => kernel_rfl) rfl (by rfl) ?_
          go_simp
          refine (without_any base c.l i _ w4 HN4.out.two.rl HC.out.2.2.2.1.2 (by have := HC.out.2.1; omega)).mono ?_
          rintro e w5 ⟨l', rfl, ht⟩
          obtain ⟨a5, k5, hv5⟩ := ht.1.slice
          subst hv5
          have hS5 : Only X W w5 := Only.thn hS4 (fun k hk => .inl hk) (only_of_grown ht.2.1 fun k hk => (HX.out k).2 (.inr (.inl hk)))
          have HN5 := Lib.hid (HN4.out.turnL ht)
          have HB5 : Hid (Below base w w5) := Lib.hid (HB4.out.trans (ht.below HN4.out.two.rl HN4.out.size))
          obtain ⟨n5, hn5⟩ : ∃ n5, n5 = (dropN c.l i).length := ⟨_, rfl⟩
          rw [← hn5] at HN5 ⊢
          clear d0 d1 y0 y1 dz
          obtain ⟨d0, d1, y0, y1, dz⟩ := block2' HN5.out.box
          clear ht hn5 c1'
          refine ⟨hS5, ?_⟩
          go_simp
          refine H_take (i := 14) (v := ?_) rfl (by as_aux_lemma => kernel_rfl) (by as_aux_lemma => kernel_rfl) (by as_aux_lemma => kernel_rfl) (fun _ _ _ h => h) (by rfl) hS5 ?_ ?_
          rotate_left
          · intro w' hw'; go_simp; with_reducible rfl
          go_simp
          refine H_take (i := 15) (v := ?_) rfl (by as_aux_lemma => kernel_rfl) (by as_aux_lemma => kernel_rfl) (by as_aux_lemma => kernel_rfl) (fun _ _ _ h => h) (by rfl) hS5 ?_ ?_
          rotate_left
          · intro w' hw'; go_simp; with_reducible rfl
          go_simp
          refine H_one (i := 16) (by as_aux_lemma => kernel_rfl) rfl (by rfl) ?_
          go_simp
          have hS6 : Only X W (w5.setCell ⟨gB, 0, none⟩ (.slice a4 n4 k4)) := hS5.set (.inl ((HX.out gB).2 (.inl rfl))) _
          refine ⟨hS6, ?_⟩
          refine H_take (i := 17) (v := ?_) rfl (by as_aux_lemma => kernel_rfl) (by as_aux_lemma => kernel_rfl) (by as_aux_lemma => kernel_rfl) (fun _ _ _ h => h) (by rfl) hS6 ?_ ?_
          rotate_left
          · intro w' hw'; go_simp; with_reducible rfl
          go_simp
          refine H_take (i := 18) (v := ?_) rfl (by as_aux_lemma => kernel_rfl) (by as_aux_lemma => kernel_rfl) (by as_aux_lemma => kernel_rfl) (fun _ _ _ h => h) (by rfl) hS6 ?_ ?_
          rotate_left
          · intro w' hw'; go_simp; with_reducible rfl
          go_simp
          refine H_one (i := 19) (by as_aux_lemma => kernel_rfl) rfl (by rfl) ?_
          go_simp
          have hS7 : Only X W ((w5.setCell ⟨gB, 0, none⟩ (.slice a4 n4 k4)).setCell ⟨gB, 1, none⟩ (.slice a5 n5 k5)) := hS6.set (.inl ((HX.out gB).2 (.inl rfl))) _
          refine ⟨hS7, ?_⟩
          refine wpAnyH_done (by as_aux_lemma => kernel_rfl) ?_ _
          clear hS3 hS4 hS5 hS6 hS7 r2
          go_wp2_with fail
          go_ret
          rw [HE.out]
          exact ⟨rfl, (HB5.out.setCell HN5.out.low _).setCell HN5.out.low _, fun _ => ⟨_, _, HN5.out.set0.set1⟩⟩
    · rw [yes_f hv]
      go_simp
      refine H_take (i := 5) (v := ?_) rfl (by as_aux_lemma => kernel_rfl) (by as_aux_lemma => kernel_rfl) (by as_aux_lemma => kernel_rfl) (fun _ _ _ h => h) (by rfl) hS2 ?_ ?_
      rotate_left
      · intro w' hw'; go_simp; with_reducible rfl
      go_simp
      refine H_skip (i := 6) rfl (by as_aux_lemma => kernel_rfl) (by as_aux_lemma => kernel_rfl) (by as_aux_lemma => kernel_rfl) (fun _ _ _ h => h) (by rfl) hS2 ?_
      go_simp
      refine H_skip (i := 7) rfl (by as_aux_lemma => kernel_rfl) (by as_aux_lemma => kernel_rfl) (by as_aux_lemma => kernel_rfl) (fun _ _ _ h => h) (by rfl) hS2 ?_
      go_simp
      refine H_skip (i := 8) rfl (by as_aux_lemma => kernel_rfl) (by as_aux_lemma => kernel_rfl) (by as_aux_lemma => kernel_rfl) (fun _ _ _ h => h) (by rfl) hS2 ?_
      go_simp
      refine H_skip (i := 9) rfl (by as_aux_lemma => kernel_rfl) (by as_aux_lemma => kernel_rfl) (by as_aux_lemma => kernel_rfl) (fun _ _ _ h => h) (by rfl) hS2 ?_
      go_simp
      refine H_skip (i := 10) rfl (by as_aux_lemma => kernel_rfl) (by as_aux_lemma => kernel_rfl) (by as_aux_lemma => kernel_rfl) (fun _ _ _ h => h) (by rfl) hS2 ?_
      go_simp
      refine H_skip (i := 11) rfl (by as_aux_lemma => kernel_rfl) (by as_aux_lemma => kernel_rfl) (by as_aux_lemma => kernel_rfl) (fun _ _ _ h => h) (by rfl) hS2 ?_
      go_simp
      refine H_take (i := 12) (v := ?_) rfl (by as_aux_lemma => kernel_rfl) (by as_aux_lemma => kernel_rfl) (by as_aux_lemma => kernel_rfl) (fun _ _ _ h => h) (by rfl) hS2 ?_ ?_
      rotate_left
      · intro w' hw'; go_simp; with_reducible rfl
      go_simp
      refine wpAnyH_done (by as_aux_lemma => kernel_rfl) ?_ _
      have HE : Hid (next1 c 3 i = (⟨dropN c.v i, dropN c.l i⟩, 0)) := Lib.hid (next1_rem rfl HI.out hx (fun h => hv h.1))
      clear hx hv
      have H1 := Lib.hid (H.out.next hS2)
      have HG1 := Lib.hid (old_below HG.out hS2)
      have HB1 : Hid (Below base w w2) := Lib.hid (below_low HLO.out hS2)
      have HLO1 : Hid (base ≤ w2.heap.size) := Lib.hid (Nat.le_trans HLO.out hS2.size)
      obtain ⟨W, hW⟩ : ∃ W, W = w2 := ⟨_, rfl⟩
      subst hW
      clear r0 r1 r2 hS2
      obtain ⟨c0, c1, z0, z1, -⟩ := block2' H1.out.box
      have c2 : W.cell? ⟨gi, 0, none⟩ = some (.int .i64 i) := cell_of_row W gi 0 _ _ _ HG1.out
      go_wp2_with fail
      obtain ⟨X, hX⟩ : ∃ X : Nat → Prop, X = fun q => q = gB ∨ (Value.slice la m lk).ownBlock = some q ∨ (Value.slice va n vk).ownBlock = some q := ⟨_, rfl⟩
      have HX : Hid (∀ q, X q ↔ q = gB ∨ (Value.slice la m lk).ownBlock = some q ∨ (Value.slice va n vk).ownBlock = some q) := Lib.hid (by rw [hX]; exact fun q => Iff.rfl)
      clear hX
      have HZ1 := Lib.hid (lt_of_heap HG1.out)
      refine wp_region_held (S := fun w' => Only X W w') (by kernel_rfl) ?_
      have hS3 : Only X W W.drew := only_drew X W
      have r2 : ∀ w', Only X W w' → w'.cell? ⟨gi, 0, none⟩ = some (.int .i64 i) := fun w' hw' => (cell_only hw' HZ1.out (fun hx => by
        rcases (HX.out gi).1 hx with h | h | h
        · exact hne h
        · exact HL.out h
        · exact HV.out h) 0).trans c2
      have c0' : W.drew.cell? ⟨gB, 0, none⟩ = some (.slice va n vk) := c0
      have c1' : W.drew.cell? ⟨gB, 1, none⟩ = some (.slice la m lk) := c1
      have HD := Lib.hid (H1.out.next (below_drew1 W))
      have HBD : Hid (Below base w W.drew) := Lib.hid (HB1.out.trans (below_low HLO1.out (below_drew1 W)))
      clear c0 c1 c2 z0 z1
      refine H_take (i := 0) (v := ?_) rfl (by as_aux_lemma => kernel_rfl) (by as_aux_lemma => kernel_rfl) (by as_aux_lemma => kernel_rfl) (fun _ _ _ h => h) (by rfl) hS3 ?_ ?_
      rotate_left
      · intro w' hw'; go_simp; with_reducible rfl
      go_simp
      refine H_take (i := 1) (v := ?_) rfl (by as_aux_lemma => kernel_rfl) (by as_aux_lemma => kernel_rfl) (by as_aux_lemma => kernel_rfl) (fun _ _ _ h => h) (by rfl) hS3 ?_ ?_
      rotate_left
      · intro w' hw'; go_simp; with_reducible rfl
      go_simp
      refine H_take (i := 2) (v := ?_) rfl (by as_aux_lemma => kernel_rfl) (by as_aux_lemma => kernel_rfl) (by as_aux_lemma => kernel_rfl) (fun _ _ _ h => h) (by rfl) hS3 ?_ ?_
      rotate_left
      · intro w' hw'; go_simp; with_reducible rfl
      go_simp
      refine H_take (i := 3) (v := ?_) rfl (by as_aux_lemma => kernel_rfl) (by as_aux_lemma => kernel_rfl) (by as_aux_lemma => kernel_rfl) (fun _ _ _ h => h) (by rfl) hS3 ?_ ?_
      rotate_left
      · intro w' hw'; go_simp; with_reducible rfl
      go_simp
      refine H_take (i := 4) (v := ?_) rfl (by as_aux_lemma => kernel_rfl) (by as_aux_lemma => kernel_rfl) (by as_aux_lemma => kernel_rfl) (fun _ _ _ h => h) (by rfl) hS3 ?_ ?_
      rotate_left
      · intro w' hw'; go_simp; with_reducible rfl
      go_simp
      refine H_take (i := 6) (v := ?_) rfl (by as_aux_lemma => kernel_rfl) (by as_aux_lemma => kernel_rfl) (by as_aux_lemma => kernel_rfl) (fun _ _ _ h => h) (by rfl) hS3 ?_ ?_
      rotate_left
      · intro w' hw'; go_simp; with_reducible rfl
      go_simp
      refine H_take (i := 8) (v := ?_) rfl (by as_aux_lemma => kernel_rfl) (by as_aux_lemma => kernel_rfl) (by as_aux_lemma => kernel_rfl) (fun _ _ _ h => h) (by rfl) hS3 ?_ ?_
      rotate_left
      · intro w' hw'; go_simp; with_reducible rfl
      go_simp
      refine H_take (i := 9) (v := ?_) rfl (by as_aux_lemma => kernel_rfl) (by as_aux_lemma => kernel_rfl) (by as_aux_lemma => kernel_rfl) (fun _ _ _ h => h) (by rfl) hS3 ?_ ?_
      rotate_left
      · intro w' hw'; go_simp; with_reducible rfl
      go_simp
      refine H_take (i := 10) (v := ?_) rfl (by as_aux_lemma => kernel_rfl) (by as_aux_lemma => kernel_rfl) (by as_aux_lemma => kernel_rfl) (fun _ _ _ h => h) (by rfl) hS3 ?_ ?_
      rotate_left
      · intro w' hw'; go_simp; with_reducible rfl
      go_simp
      refine H_take (i := 12) (v := ?_) rfl (by as_aux_lemma => kernel_rfl) (by as_aux_lemma => kernel_rfl) (by as_aux_lemma => kernel_rfl) (fun _ _ _ h => h) (by rfl) hS3 ?_ ?_
      rotate_left
      · intro w' hw'; go_simp; with_reducible rfl
      go_simp
      refine H_both (i := 5) (j := 11) (by as_aux_lemma => kernel_rfl) rfl rfl (by rfl) (by rfl) ?_ ?_
      · go_simp
        refine H_both (i := 7) (j := 11) (by as_aux_lemma => kernel_rfl) rfl rfl (by rfl) (by rfl) ?_ ?_
        · go_simp
          refine (without_any base c.v i _ W.drew HD.out.two.rv HC.out.2.2.1.2 (by have := HC.out.2.1; omega)).mono ?_
          rintro e w4 ⟨v', rfl, ht⟩
          obtain ⟨a4, k4, hv4⟩ := ht.1.slice
          subst hv4
          have hS4 : Only X W w4 := Only.thn hS3 (fun k hk => .inl hk) (only_of_grown ht.2.1 fun k hk => (HX.out k).2 (.inr (.inr hk)))
          have HN4 := Lib.hid (HD.out.turnV ht)
          have HB4 : Hid (Below base w w4) := Lib.hid (HBD.out.trans (ht.below HD.out.two.rv HD.out.size))
          obtain ⟨n4, hn4⟩ : ∃ n4, n4 = (dropN c.v i).length := ⟨_, rfl⟩
          rw [← hn4] at HN4 ⊢
          obtain ⟨d0, d1, y0, y1, dz⟩ := block2' HN4.out.box
          clear ht hn4 c0'
          refine ⟨hS4, ?_⟩
          go_simp
          refine H_one (i := 11) (by as_aux_lemma => kernel_rfl) rfl (by rfl) ?_
          go_simp
          refine H_one (i := 13) (by as_aux_lemma => kernel_rfl) rfl (by rfl) ?_
          go_simp
          refine (without_any base c.l i _ w4 HN4.out.two.rl HC.out.2.2.2.1.2 (by have := HC.out.2.1; omega)).mono ?_
          rintro e w5 ⟨l', rfl, ht⟩
          obtain ⟨a5, k5, hv5⟩ := ht.1.slice
          subst hv5
          have hS5 : Only X W w5 := Only.thn hS4 (fun k hk => .inl hk) (only_of_grown ht.2.1 fun k hk => (HX.out k).2 (.inr (.inl hk)))
          have HN5 := Lib.hid (HN4.out.turnL ht)
          have HB5 : Hid (Below base w w5) := Lib.hid (HB4.out.trans (ht.below HN4.out.two.rl HN4.out.size))
          obtain ⟨n5, hn5⟩ : ∃ n5, n5 = (dropN c.l i).length := ⟨_, rfl⟩
          rw [← hn5] at HN5 ⊢
          clear d0 d1 y0 y1 dz
          obtain ⟨d0, d1, y0, y1, dz⟩ := block2' HN5.out.box
          clear ht hn5 c1'
          refine ⟨hS5, ?_⟩
          go_simp
          refine H_take (i := 14) (v := ?_) rfl (by as_aux_lemma => kernel_rfl) (by as_aux_lemma => kernel_rfl) (by as_aux_lemma => kernel_rfl) (fun _ _ _ h => h) (by rfl) hS5 ?_ ?_
          rotate_left
          · intro w' hw'; go_simp; with_reducible rfl
          go_simp
          refine H_take (i := 15) (v := ?_) rfl (by as_aux_lemma => kernel_rfl) (by as_aux_lemma => kernel_rfl) (by as_aux_lemma => kernel_rfl) (fun _ _ _ h => h) (by rfl) hS5 ?_ ?_
          rotate_left
          · intro w' hw'; go_simp; with_reducible rfl
          go_simp
          refine H_one (i := 16) (by as_aux_lemma => kernel_rfl) rfl (by rfl) ?_
          go_simp
          have hS6 : Only X W (w5.setCell ⟨gB, 0, none⟩ (.slice a4 n4 k4)) := hS5.set (.inl ((HX.out gB).2 (.inl rfl))) _
          refine ⟨hS6, ?_⟩
          refine H_take (i := 17) (v := ?_) rfl (by as_aux_lemma => kernel_rfl) (by as_aux_lemma => kernel_rfl) (by as_aux_lemma => kernel_rfl) (fun _ _ _ h => h) (by rfl) hS6 ?_ ?_
          rotate_left
          · intro w' hw'; go_simp; with_reducible rfl
          go_simp
          refine H_take (i := 18) (v := ?_) rfl (by as_aux_lemma => kernel_rfl) (by as_aux_lemma => kernel_rfl) (by as_aux_lemma => kernel_rfl) (fun _ _ _ h => h) (by rfl) hS6 ?_ ?_
          rotate_left
          · intro w' hw'; go_simp; with_reducible rfl
          go_simp
          refine H_one (i := 19) (by as_aux_lemma => kernel_rfl) rfl (by rfl) ?_
          go_simp
          have hS7 : Only X W ((w5.setCell ⟨gB, 0, none⟩ (.slice a4 n4 k4)).setCell ⟨gB, 1, none⟩ (.slice a5 n5 k5)) := hS6.set (.inl ((HX.out gB).2 (.inl rfl))) _
          refine ⟨hS7, ?_⟩
          refine wpAnyH_done (by as_aux_lemma => kernel_rfl) ?_ _
          clear hS3 hS4 hS5 hS6 hS7 r2
          go_wp2_with fail
          go_ret
          rw [HE.out]
          exact ⟨rfl, (HB5.out.setCell HN5.out.low _).setCell HN5.out.low _, fun _ => ⟨_, _, HN5.out.set0.set1⟩⟩
        · go_simp
          refine H_one (i := 7) (by as_aux_lemma => kernel_rfl) rfl (by rfl) ?_
          go_simp
          refine (without_any base c.v i _ W.drew HD.out.two.rv HC.out.2.2.1.2 (by have := HC.out.2.1; omega)).mono ?_
          rintro e w4 ⟨v', rfl, ht⟩
          obtain ⟨a4, k4, hv4⟩ := ht.1.slice
          subst hv4
          have hS4 : Only X W w4 := Only.thn hS3 (fun k hk => .inl hk) (only_of_grown ht.2.1 fun k hk => (HX.out k).2 (.inr (.inr hk)))
          have HN4 := Lib.hid (HD.out.turnV ht)
          have HB4 : Hid (Below base w w4) := Lib.hid (HBD.out.trans (ht.below HD.out.two.rv HD.out.size))
          obtain ⟨n4, hn4⟩ : ∃ n4, n4 = (dropN c.v i).length := ⟨_, rfl⟩
          rw [← hn4] at HN4 ⊢
          obtain ⟨d0, d1, y0, y1, dz⟩ := block2' HN4.out.box
          clear ht hn4 c0'
          refine ⟨hS4, ?_⟩
          go_simp
          refine H_one (i := 13) (by as_aux_lemma => kernel_rfl) rfl (by rfl) ?_
          go_simp
          refine (without_any base c.l i _ w4 HN4.out.two.rl HC.out.2.2.2.1.2 (by have := HC.out.2.1; omega)).mono ?_
          rintro e w5 ⟨l', rfl, ht⟩
          obtain ⟨a5, k5, hv5⟩ := ht.1.slice
          subst hv5
          have hS5 : Only X W w5 := Only.thn hS4 (fun k hk => .inl hk) (only_of_grown ht.2.1 fun k hk => (HX.out k).2 (.inr (.inl hk)))
          have HN5 := Lib.hid (HN4.out.turnL ht)
          have HB5 : Hid (Below base w w5) := Lib.hid (HB4.out.trans (ht.below HN4.out.two.rl HN4.out.size))
          obtain ⟨n5, hn5⟩ : ∃ n5, n5 = (dropN c.l i).length := ⟨_, rfl⟩
          rw [← hn5] at HN5 ⊢
          clear d0 d1 y0 y1 dz
          obtain ⟨d0, d1, y0, y1, dz⟩ := block2' HN5.out.box
          clear ht hn5 c1'
          refine ⟨hS5, ?_⟩
          go_simp
          refine H_take (i := 14) (v := ?_) rfl (by as_aux_lemma => kernel_rfl) (by as_aux_lemma => kernel_rfl) (by as_aux_lemma => kernel_rfl) (fun _ _ _ h => h) (by rfl) hS5 ?_ ?_
          rotate_left
          · intro w' hw'; go_simp; with_reducible rfl
          go_simp
          refine H_take (i := 15) (v := ?_) rfl (by as_aux_lemma => kernel_rfl) (by as_aux_lemma => kernel_rfl) (by as_aux_lemma => kernel_rfl) (fun _ _ _ h => h) (by rfl) hS5 ?_ ?_
          rotate_left
          · intro w' hw'; go_simp; with_reducible rfl
          go_simp
          refine H_one (i := 16) (by as_aux_lemma => kernel_rfl) rfl (by rfl) ?_
          go_simp
          have hS6 : Only X W (w5.setCell ⟨gB, 0, none⟩ (.slice a4 n4 k4)) := hS5.set (.inl ((HX.out gB).2 (.inl rfl))) _
          refine ⟨hS6, ?_⟩
          refine H_take (i := 17) (v := ?_) rfl (by as_aux_lemma => kernel_rfl) (by as_aux_lemma => kernel_rfl) (by as_aux_lemma => kernel_rfl) (fun _ _ _ h => h) (by rfl) hS6 ?_ ?_
          rotate_left
          · intro w' hw'; go_simp; with_reducible rfl
          go_simp
          refine H_take (i := 18) (v := ?_) rfl (by as_aux_lemma => kernel_rfl) (by as_aux_lemma => kernel_rfl) (by as_aux_lemma => kernel_rfl) (fun _ _ _ h => h) (by rfl) hS6 ?_ ?_
          rotate_left
          · intro w' hw'; go_simp; with_reducible rfl
          go_simp
          refine H_one (i := 19) (by as_aux_lemma => kernel_rfl) rfl (by rfl) ?_
          go_simp
          have hS7 : Only X W ((w5.setCell ⟨gB, 0, none⟩ (.slice a4 n4 k4)).setCell ⟨gB, 1, none⟩ (.slice a5 n5 k5)) := hS6.set (.inl ((HX.out gB).2 (.inl rfl))) _
          refine ⟨hS7, ?_⟩
          refine wpAnyH_done (by as_aux_lemma => kernel_rfl) ?_ _
          clear hS3 hS4 hS5 hS6 hS7 r2
          go_wp2_with fail
          go_ret
          rw [HE.out]
          exact ⟨rfl, (HB5.out.setCell HN5.out.low _).setCell HN5.out.low _, fun _ => ⟨_, _, HN5.out.set0.set1⟩⟩
      · go_simp
        refine H_one (i := 5) (by as_aux_lemma => kernel_rfl) rfl (by rfl) ?_
        go_simp
        refine H_one (i := 7) (by as_aux_lemma => kernel_rfl) rfl (by rfl) ?_
        go_simp
        refine (without_any base c.v i _ W.drew HD.out.two.rv HC.out.2.2.1.2 (by have := HC.out.2.1; omega)).mono ?_
        rintro e w4 ⟨v', rfl, ht⟩
        obtain ⟨a4, k4, hv4⟩ := ht.1.slice
        subst hv4
        have hS4 : Only X W w4 := Only.thn hS3 (fun k hk => .inl hk) (only_of_grown ht.2.1 fun k hk => (HX.out k).2 (.inr (.inr hk)))
        have HN4 := Lib.hid (HD.out.turnV ht)
        have HB4 : Hid (Below base w w4) := Lib.hid (HBD.out.trans (ht.below HD.out.two.rv HD.out.size))
        obtain ⟨n4, hn4⟩ : ∃ n4, n4 = (dropN c.v i).length := ⟨_, rfl⟩
        rw [← hn4] at HN4 ⊢
        obtain ⟨d0, d1, y0, y1, dz⟩ := block2' HN4.out.box
        clear ht hn4 c0'
        refine ⟨hS4, ?_⟩
        go_simp
        refine H_one (i := 13) (by as_aux_lemma => kernel_rfl) rfl (by rfl) ?_
        go_simp
        refine (without_any base c.l i _ w4 HN4.out.two.rl HC.out.2.2.2.1.2 (by have := HC.out.2.1; omega)).mono ?_
        rintro e w5 ⟨l', rfl, ht⟩
        obtain ⟨a5, k5, hv5⟩ := ht.1.slice
        subst hv5
        have hS5 : Only X W w5 := Only.thn hS4 (fun k hk => .inl hk) (only_of_grown ht.2.1 fun k hk => (HX.out k).2 (.inr (.inl hk)))
        have HN5 := Lib.hid (HN4.out.turnL ht)
        have HB5 : Hid (Below base w w5) := Lib.hid (HB4.out.trans (ht.below HN4.out.two.rl HN4.out.size))
        obtain ⟨n5, hn5⟩ : ∃ n5, n5 = (dropN c.l i).length := ⟨_, rfl⟩
        rw [← hn5] at HN5 ⊢
        clear d0 d1 y0 y1 dz
        obtain ⟨d0, d1, y0, y1, dz⟩ := block2' HN5.out.box
        clear ht hn5 c1'
        refine ⟨hS5, ?_⟩
        go_simp
        refine H_take (i := 14) (v := ?_) rfl (by as_aux_lemma => kernel_rfl) (by as_aux_lemma => kernel_rfl) (by as_aux_lemma => kernel_rfl) (fun _ _ _ h => h) (by rfl) hS5 ?_ ?_
        rotate_left
        · intro w' hw'; go_simp; with_reducible rfl
        go_simp
        refine H_take (i := 15) (v := ?_) rfl (by as_aux_lemma => kernel_rfl) (by as_aux_lemma => kernel_rfl) (by as_aux_lemma => kernel_rfl) (fun _ _ _ h => h) (by rfl) hS5 ?_ ?_
        rotate_left
        · intro w' hw'; go_simp; with_reducible rfl
        go_simp
        refine H_one (i := 16) (by as_aux_lemma => kernel_rfl) rfl (by rfl) ?_
        go_simp
        have hS6 : Only X W (w5.setCell ⟨gB, 0, none⟩ (.slice a4 n4 k4)) := hS5.set (.inl ((HX.out gB).2 (.inl rfl))) _
        refine ⟨hS6, ?_⟩
        refine H_take (i := 17) (v := ?_) rfl (by as_aux_lemma => kernel_rfl) (by as_aux_lemma => kernel_rfl) (by as_aux_lemma => kernel_rfl) (fun _ _ _ h => h) (by rfl) hS6 ?_ ?_
        rotate_left
        · intro w' hw'; go_simp; with_reducible rfl
        go_simp
        refine H_take (i := 18) (v := ?_) rfl (by as_aux_lemma => kernel_rfl) (by as_aux_lemma => kernel_rfl) (by as_aux_lemma => kernel_rfl) (fun _ _ _ h => h) (by rfl) hS6 ?_ ?_
        rotate_left
        · intro w' hw'; go_simp; with_reducible rfl
        go_simp
        refine H_one (i := 19) (by as_aux_lemma => kernel_rfl) rfl (by rfl) ?_
        go_simp
        have hS7 : Only X W ((w5.setCell ⟨gB, 0, none⟩ (.slice a4 n4 k4)).setCell ⟨gB, 1, none⟩ (.slice a5 n5 k5)) := hS6.set (.inl ((HX.out gB).2 (.inl rfl))) _
        refine ⟨hS7, ?_⟩
        refine wpAnyH_done (by as_aux_lemma => kernel_rfl) ?_ _
        clear hS3 hS4 hS5 hS6 hS7 r2
        go_wp2_with fail
        go_ret
        rw [HE.out]
        exact ⟨rfl, (HB5.out.setCell HN5.out.low _).setCell HN5.out.low _, fun _ => ⟨_, _, HN5.out.set0.set1⟩⟩
  · rw [yes_f hx]
    go_simp
    refine H_take (i := 5) (v := ?_) rfl (by as_aux_lemma => kernel_rfl) (by as_aux_lemma => kernel_rfl) (by as_aux_lemma => kernel_rfl) (fun _ _ _ h => h) (by rfl) hS1 ?_ ?_
    rotate_left
    · intro w' hw'; go_simp; with_reducible rfl
    go_simp
    refine wpAnyH_done (by as_aux_lemma => kernel_rfl) ?_ _
    have HE : Hid (next1 c 3 i = (cf0, 80)) := Lib.hid (next1_rem_no rfl HI.out (fun e => hx (.inl e)) (fun e => hx (.inr e)))
    have hS2 := hS1
    clear hS hS1 hx
    have HB : Hid (Below base w w1) := Lib.hid (below_low HLO.out hS2)
    clear r0 r1 r2 hS2
    go_wp2_with fail
    go_ret
    rw [HE.out]
    exact ⟨rfl, HB.out, fun h => by cases h⟩
end Go.Proofs.Ytdngfbljcmbniaa.M

/- Part: MmL. -/
namespace Go.Proofs.Ytdngfbljcmbniaa.M
open Go.RowKit

/-- A slice of pairs of ints. -/
def RepPr (w : World) (F : Nat → Prop) (l : List (Int × Int)) (v : Value) : Prop :=
  (l = [] ∧ Bare v) ∨ ∃ b off c, v = .slice (some ⟨b, off, none⟩) l.length c ∧ F b ∧ l.length ≤ c ∧ c ≤ 9223372036854775807 ∧
    ∀ (i : Nat) (hi : i < l.length), w.cell? ⟨b, off + i * 2, none⟩ = some (.int .i64 l[i].1) ∧ w.cell? ⟨b, off + i * 2 + 1, none⟩ = some (.int .i64 l[i].2)

theorem RepPr.slice {w : World} {F : Nat → Prop} {l : List (Int × Int)} {v : Value} (h : RepPr w F l v) : ∃ a c, v = .slice a l.length c ∧ l.length ≤ 9223372036854775807 := by
  rcases h with ⟨rfl, a, c, rfl, h1, -⟩ | ⟨b, off, c, rfl, -, h1, h2, -⟩
  · exact ⟨a, c, rfl, by simp⟩
  · exact ⟨_, _, rfl, by omega⟩

theorem RepPr.elem {w : World} {F : Nat → Prop} {l : List (Int × Int)} {a : Option Addr} {n c : Nat} (h : RepPr w F l (.slice a n c)) (i : Nat) (hi : i < l.length) :
    ∃ b off, a = some ⟨b, off, none⟩ ∧ F b ∧ w.cell? ⟨b, off + i * 2, none⟩ = some (.int .i64 l[i].1) ∧ w.cell? ⟨b, off + i * 2 + 1, none⟩ = some (.int .i64 l[i].2) := by
  rcases h with ⟨rfl, -⟩ | ⟨b, off, c', hv, hF, h1, h2, hc⟩
  · simp at hi
  · cases hv
    exact ⟨b, off, rfl, hF, (hc i hi).1, (hc i hi).2⟩

theorem RepPr.same {w w' : World} {F G : Nat → Prop} (hF : ∀ k, F k → G k) (hw : ∀ k, F k → w'.heap[k]? = w.heap[k]?) {l : List (Int × Int)} {v : Value} (h : RepPr w F l v) : RepPr w' G l v := by
  rcases h with h | ⟨b, off, c, hs, hb, h1, h2, hc⟩
  · exact .inl h
  · exact .inr ⟨b, off, c, hs, hF b hb, h1, h2, fun i hi => ⟨by rw [World.cell?_of_block (by exact hw b hb)]; exact (hc i hi).1, by rw [World.cell?_of_block (by exact hw b hb)]; exact (hc i hi).2⟩⟩

theorem results_row_tmp {P : Program} {fn : Func} {p u : Tmp} {ty : TypeId} (h : fn.results = #[.cell p ty, .tmp u]) (tmps : Array Value) (w : World) (g : Nat) (t : TypeId) (cs : Array Value) (fr : Nat × Nat) (d : TypeDesc)
    (hp : tmps.getD p undef = .pointer (some ⟨g, 0, none⟩)) (hg : w.heap[g]? = some (.cells cs t fr))
    (hu : P.underlying ty = some d) (hd : (match d with | .struct _ | .array _ _ => true | _ => false) = true) (hi : (P.info? ty).map (·.size) = some cs.size) (x : Value) (hx : tmps.getD u undef = x) :
    (results fn tmps).run P w = .ok (.tuple #[.agg cs, x]) w := by
  rw [results_cell_tmp h, hp, hx]
  simp [asAddr, run_loadVar_row w g t ty cs fr d hg hu hd hi, Result.andThen]

theorem heap_set22 {w : World} {g : Nat} {x y a b : Value} {t : TypeId} (h : w.heap[g]? = some (.cells #[x, y] t)) :
    ((w.setCell ⟨g, 0, none⟩ a).setCell ⟨g, 1, none⟩ b).heap[g]? = some (.cells #[a, b] t) := (heap_set2 (heap_set2 h).1).2

/-- What Next answers: c's changes, if it is right. -/
noncomputable def nextAll (c : Cf) (cs : List (Int × Int)) : Cf × Int := open Classical in if c.ok then nextN c cs else (cf0, 80)

/-- A configuration that a call answered, and an error. -/
def NextPost (r : Cf × Int) (w : World) (e : Ending) (w' : World) : Prop :=
  Below w.heap.size w w' ∧ ∃ v l, e = .returned (.tuple #[.agg #[v, l], .int .i64 r.2]) ∧ RepI w' (fun b => w.heap.size ≤ b ∧ b < w'.heap.size) r.1.v v ∧ RepI w' (fun b => w.heap.size ≤ b ∧ b < w'.heap.size) r.1.l l

set_option maxRecDepth 20000 in
set_option maxHeartbeats 6400000 in
theorem Next_any (c : Cf) (cs : List (Int × Int)) (F G : Nat → Prop) (vv lv : Value) (sv : Value) (w : World) (hv : RepI w F c.v vv) (hl : RepI w F c.l lv) (hF : ∀ k, F k → k < w.heap.size) (hs : c.v.length + c.l.length ≤ 1000000) (hcs : RepPr w G cs sv) (hG : ∀ k, G k → k < w.heap.size) :
    Calls Try.prog 12 #[.agg #[vv, lv], sv] w fun e w' => NextPost (nextAll c cs) w e w' := by
  obtain ⟨a, k, hvv, -⟩ := hv.slice
  obtain ⟨a', k', hlv, -⟩ := hl.slice
  obtain ⟨sa, sc, rfl, hsl⟩ := hcs.slice
  have HCONF := Lib.hid fun w' (hb : Below w.heap.size w w') => isConf_any c F vv lv w' (hv.below hF hb) (hl.below hF hb) (fun k hk => Nat.lt_of_lt_of_le (hF k hk) hb.size) (by omega)
  have HCOPY := Lib.hid fun w' (hb : Below w.heap.size w w') => copied_any c F vv lv w' (hv.below hF hb) (hl.below hF hb) (fun k hk => Nat.lt_of_lt_of_le (hF k hk) hb.size) (by omega) (by omega)
  obtain ⟨n, hn⟩ : ∃ n, n = c.v.length := ⟨_, rfl⟩
  obtain ⟨m, hm⟩ : ∃ m, m = c.l.length := ⟨_, rfl⟩
  obtain ⟨N, hN⟩ : ∃ N, N = cs.length := ⟨_, rfl⟩
  obtain ⟨R, hR⟩ : ∃ R, R = nextAll c cs := ⟨_, rfl⟩
  rw [← hR]
  rw [← hn] at hvv
  rw [← hm] at hlv
  rw [← hN] at hsl hcs ⊢
  subst hvv hlv
  have HCS := Lib.hid hcs
  have HG := Lib.hid hG
  have HR := Lib.hid hR
  have HN := Lib.hid hN
  obtain ⟨W, hW⟩ : ∃ W, W = (w.alloc (.cells #[.slice a n k, .slice a' m k'] 25)).alloc (.cells #[.slice none 0 0, .slice none 0 0] 25) := ⟨_, rfl⟩
  have HB : Hid (Below w.heap.size w W) := Lib.hid (by rw [hW]; exact ((Below.refl _ w).alloc (Nat.le_refl _) _).alloc (by simp) _)
  obtain ⟨g, hg⟩ : ∃ g, g = w.heap.size := ⟨_, rfl⟩
  obtain ⟨r, hr⟩ : ∃ r, r = w.heap.size + 1 := ⟨_, rfl⟩
  have HBX : Hid (W.heap[g]? = some (.cells #[.slice a n k, .slice a' m k'] 25)) := Lib.hid (by rw [hW, hg]; exact old_alloc (heap_alloc_new w _))
  have HRX : Hid (W.heap[r]? = some (.cells #[.slice none 0 0, .slice none 0 0] 25)) := Lib.hid (by rw [hW, hr]; exact heap_new _ _ _ (by simp))
  have HGW : Hid (g = w.heap.size) := Lib.hid hg
  have HRW : Hid (r = w.heap.size + 1) := Lib.hid hr
  have HRL : Hid (w.heap.size ≤ r) := Lib.hid (by omega)
  have HW := Lib.hid hW
  obtain ⟨c0, c1, z0, z1, cz⟩ := block2' HBX.out
  clear hv hl hF hcs hG hn hm hN hR hs hW hg hr
  go_enter Try.func12, Try.ntmps12
  go_wp2_with fail
  rw [← HRW.out, ← HGW.out, ← HW.out]
  refine (HCONF.out W HB.out).mono ?_
  rintro e w1 ⟨rfl, hb1⟩
  have HB1 : Hid (Below w.heap.size w w1) := Lib.hid (HB.out.trans (hb1.mono HB.out.size))
  have HRX1 : Hid (w1.heap[r]? = some (.cells #[.slice none 0 0, .slice none 0 0] 25)) := Lib.hid (old_below HRX.out hb1)
  have HBX1 : Hid (w1.heap[g]? = some (.cells #[.slice a n k, .slice a' m k'] 25)) := Lib.hid (old_below HBX.out hb1)
  clear c0 c1 z0 z1 cz hb1
  by_cases hc : c.ok
  · rw [yes_t hc]
    have HRV : Hid (R = nextN c cs) := Lib.hid (by rw [HR.out]; unfold nextAll; rw [if_pos hc])
    have HWE : Hid (Went c cs 0 c) := Lib.hid (Went.start hc)
    obtain ⟨c0, c1, z0, z1, cz⟩ := block2' HBX1.out
    clear hc
    go_wp2_with fail
    refine (HCOPY.out w1 HB1.out).mono ?_
    rintro e w2 ⟨v, l, rfl, htwo, hb2⟩
    obtain ⟨va, vk, hva⟩ := htwo.rv.slice
    obtain ⟨la, lk, hla⟩ := htwo.rl.slice
    subst hva hla
    obtain ⟨nv, hnv⟩ : ∃ nv, nv = c.v.length := ⟨_, rfl⟩
    obtain ⟨nl, hnl⟩ : ∃ nl, nl = c.l.length := ⟨_, rfl⟩
    rw [← hnv, ← hnl] at htwo ⊢
    have HTWO := Lib.hid htwo
    have HB2 := Lib.hid hb2
    clear htwo hb2 hnv hnl c0 c1 z0 z1 cz
    go_wp2_with fail
    obtain ⟨gB, hgB⟩ : ∃ gB, gB = w2.heap.size := ⟨_, rfl⟩
    obtain ⟨W3, hW3⟩ : ∃ W3, W3 = w2.alloc (.cells #[.slice va nv vk, .slice la nl lk] 25) := ⟨_, rfl⟩
    rw [← hgB, ← hW3]
    obtain ⟨B, hBe⟩ : ∃ B, B = w1.heap.size := ⟨_, rfl⟩
    rw [← hBe] at HTWO
    have HX0 : Hid (NX B gB (.slice va nv vk) (.slice la nl lk) c (.slice va nv vk) (.slice la nl lk) W3) := Lib.hid (by
      have hlt : ∀ {u : Value} {z : List Int}, IR B z u w2 → u.ownBlock ≠ some gB := fun h e => by have := (h.block_lt e).2; omega
      rw [hW3]
      exact ⟨by rw [hgB]; exact heap_alloc_new _ _, HTWO.out.next (below_alloc _ _), by rw [hBe, hgB]; exact HB2.out.size, hlt HTWO.out.rv, hlt HTWO.out.rl⟩)
    have HB3 : Hid (Below B w1 W3) := Lib.hid (by rw [hBe, hW3]; exact HB2.out.alloc HB2.out.size _)
    have HB0 : Hid (w.heap.size ≤ B) := Lib.hid (by rw [hBe]; exact HB1.out.size)
    have HRB : Hid (r < B) := Lib.hid (by rw [hBe]; exact lt_of_heap HRX1.out)
    clear hgB hW3 hBe HTWO HB2
    go_loopg [20] N (fun gk i wr => ∃ (k : Nat) (c' : Cf) (v' l' : Value), i = .int .i64 (k : Int) ∧ k + gk = N ∧ Hid (NX B gB v' l' c' v' l' wr) ∧ Hid (Below B w1 wr) ∧ Hid (Went c cs k c'))
    case atStart => exact ⟨0, c, _, _, rfl, by omega, HX0, HB3, HWE⟩
    case round =>
      obtain ⟨kk, c', v', l', rfl, hkg, HX, HBR, HWN⟩ := hrel
      have HBW : Hid (Below w.heap.size w wr) := Lib.hid (HB1.out.trans (HBR.out.mono HB0.out))
      have HRXR : Hid (wr.heap[r]? = some (.cells #[.slice none 0 0, .slice none 0 0] 25)) := Lib.hid ((HBR.out.block r HRB.out).trans HRX1.out)
      obtain ⟨va', vk', hva'⟩ := HX.out.two.rv.slice
      obtain ⟨la', lk', hla'⟩ := HX.out.two.rl.slice
      obtain ⟨nv', hnv'⟩ : ∃ nv', nv' = c'.v.length := ⟨_, rfl⟩
      obtain ⟨nl', hnl'⟩ : ∃ nl', nl' = c'.l.length := ⟨_, rfl⟩
      rw [← hnv'] at hva'
      rw [← hnl'] at hla'
      subst hva' hla'
      clear hnv' hnl'
      by_cases hlt : kk < N
      · have hkk : (kk : Int) < (N : Int) := by omega
        have hlt2 : kk < cs.length := by rw [← HN.out]; exact hlt
        obtain ⟨b, off, rfl, hb, e0, e1⟩ := (HCS.out.same (w' := wr) (fun _ h => h) fun j hj => HBW.out.block j (HG.out j hj)).elem kk hlt2
        have hbz : b < wr.heap.size := Nat.lt_of_lt_of_le (HG.out b hb) HBW.out.size
        obtain ⟨⟨d, i⟩, hdi⟩ : ∃ e, e = cs[kk] := ⟨_, rfl⟩
        rw [← hdi] at e0 e1
        simp only at e0 e1
        have HFAIL : Hid (∀ p, next1 c' d i = p → p.2 ≠ 0 → nextN c cs = (cf0, p.2)) := Lib.hid fun p hp h0 => by
          have h1 := HWN.out.fail hlt2
          rw [← hdi] at h1
          simp only at h1
          rw [hp] at h1
          exact h1 h0
        have HGOES : Hid (∀ p, next1 c' d i = p → p.2 = 0 → Went c cs (kk + 1) p.1) := Lib.hid fun p hp h0 => by
          have h1 := HWN.out.step hlt2
          rw [← hdi] at h1
          simp only at h1
          rw [hp] at h1
          exact h1 h0
        clear hb hdi
        go_wp2_with fail
        refine (stepOf_any d i _).mono ?_
        rintro e w5 ⟨hb5, ⟨hbad, rfl⟩ | ⟨hok, gi, hgi, hgb, rfl⟩⟩
        · have HNX : Hid (R = (cf0, 2)) := Lib.hid (by
            rw [HRV.out]
            exact HFAIL.out _ (next1_bad (by unfold okN at hbad; omega)) (by decide))
          have hb6 : Below wr.heap.size wr w5 := (below_alloc wr _).trans (hb5.mono (by simp))
          have HRX5 : Hid (w5.heap[r]? = some (.cells #[.slice none 0 0, .slice none 0 0] 25)) := Lib.hid (old_below HRXR.out hb6)
          have HB6 : Hid (Below w.heap.size w w5) := Lib.hid (HBW.out.trans (hb6.mono HBW.out.size))
          obtain ⟨c0, c1, z0, z1, cz⟩ := block2' HRX5.out
          clear hb5 hb6 hbad e0 e1
          go_wp2_with fail
          refine bodyPost_ret (v := .tuple #[.agg #[.slice none 0 0, .slice none 0 0], .int .i64 2]) (results_row_tmp (P := Try.prog) Try.results12 _ _ r 25 _ (0, 0) _ rfl (heap_set22 HRX5.out) Try.underlying25 rfl (by kernel_rfl) _ rfl) rfl ?_
          rw [HNX.out]
          exact ⟨(HB6.out.setCell (show w.heap.size ≤ r from HRL.out) _).setCell (show w.heap.size ≤ r from HRL.out) _, _, _, rfl, .inl ⟨rfl, Bare.nil⟩, .inl ⟨rfl, Bare.nil⟩⟩
        · have hgi2 : wr.heap.size < gi := by simp at hgi; omega
          have hb6 : Below wr.heap.size wr w5 := (below_alloc wr _).trans (hb5.mono (by simp))
          have HX5 := Lib.hid (HX.out.next hb6)
          have HB6 : Hid (Below B w1 w5) := Lib.hid (HBR.out.trans (hb6.mono (HX.out.size)))
          have HGI := Lib.hid hgb
          have hn1 : (Value.slice va' nv' vk').ownBlock ≠ some gi := fun e => by have := (HX.out.two.rv.block_lt e).2; omega
          have hn2 : (Value.slice la' nl' lk').ownBlock ≠ some gi := fun e => by have := (HX.out.two.rl.block_lt e).2; omega
          have hn3 : gi ≠ gB := by have := HX.out.lt; omega
          have HN1 := Lib.hid hn1
          have HN2 := Lib.hid hn2
          have HN3 := Lib.hid hn3
          have HOK := Lib.hid hok.2.2
          obtain ⟨⟨c2, er⟩, hce⟩ : ∃ p, p = next1 c' d i := ⟨_, rfl⟩
          have HCE := Lib.hid hce
          unfold stepV
          clear hb5 hb6 hgi hgi2 hgb hn1 hn2 hn3 e0 e1 hce
          rcases (show d = 1 ∨ d = 2 ∨ d = 3 by omega) with hd | hd | hd
          · subst hd
            clear hok
            go_wp2_with fail
            refine (add_any B gB gi c' _ _ i w5 HX5.out HWN.out.2 HOK.out HGI.out HN1.out HN2.out HN3.out).mono ?_
            rw [← HCE.out]
            rintro e w6 ⟨rfl, hb6, hx6⟩
            have HB7 : Hid (Below B w1 w6) := Lib.hid (HB6.out.trans hb6)
            have HX6 := Lib.hid hx6
            clear hb6 hx6
            simp only
            by_cases he : er = 0
            · subst he
              have HWN2 : Hid (Went c cs (kk + 1) c2) := Lib.hid (HGOES.out _ HCE.out.symm rfl)
              go_wp2_with fail
              go_roundg (gk - 1)
              case measure => omega
              case rel =>
                obtain ⟨v2, l2, hx2⟩ := HX6.out trivial
                exact ⟨kk + 1, c2, v2, l2, by go_num, by omega, Lib.hid hx2, HB7, HWN2⟩
            · have q1 : (er != 0) = true := by simpa using he
              have HNX : Hid (R = (cf0, er)) := Lib.hid (by
                rw [HRV.out]
                exact HFAIL.out _ HCE.out.symm he)
              have HRX5 : Hid (w6.heap[r]? = some (.cells #[.slice none 0 0, .slice none 0 0] 25)) := Lib.hid ((HB7.out.block r HRB.out).trans HRX1.out)
              have HB8 : Hid (Below w.heap.size w w6) := Lib.hid (HB1.out.trans (HB7.out.mono HB0.out))
              obtain ⟨c0, c1, z0, z1, cz⟩ := block2' HRX5.out
              go_wp2_with fail
              refine bodyPost_ret (v := .tuple #[.agg #[.slice none 0 0, .slice none 0 0], .int .i64 er]) (results_row_tmp (P := Try.prog) Try.results12 _ _ r 25 _ (0, 0) _ rfl (heap_set22 HRX5.out) Try.underlying25 rfl (by kernel_rfl) _ rfl) rfl ?_
              rw [HNX.out]
              exact ⟨(HB8.out.setCell (show w.heap.size ≤ r from HRL.out) _).setCell (show w.heap.size ≤ r from HRL.out) _, _, _, rfl, .inl ⟨rfl, Bare.nil⟩, .inl ⟨rfl, Bare.nil⟩⟩
          · subst hd
            clear hok
            go_wp2_with fail
            refine (promote_any B gB gi c' _ _ i w5 HX5.out HWN.out.2 HOK.out HGI.out HN1.out HN2.out HN3.out).mono ?_
            rw [← HCE.out]
            rintro e w6 ⟨rfl, hb6, hx6⟩
            have HB7 : Hid (Below B w1 w6) := Lib.hid (HB6.out.trans hb6)
            have HX6 := Lib.hid hx6
            clear hb6 hx6
            simp only
            by_cases he : er = 0
            · subst he
              have HWN2 : Hid (Went c cs (kk + 1) c2) := Lib.hid (HGOES.out _ HCE.out.symm rfl)
              go_wp2_with fail
              go_roundg (gk - 1)
              case measure => omega
              case rel =>
                obtain ⟨v2, l2, hx2⟩ := HX6.out trivial
                exact ⟨kk + 1, c2, v2, l2, by go_num, by omega, Lib.hid hx2, HB7, HWN2⟩
            · have q1 : (er != 0) = true := by simpa using he
              have HNX : Hid (R = (cf0, er)) := Lib.hid (by
                rw [HRV.out]
                exact HFAIL.out _ HCE.out.symm he)
              have HRX5 : Hid (w6.heap[r]? = some (.cells #[.slice none 0 0, .slice none 0 0] 25)) := Lib.hid ((HB7.out.block r HRB.out).trans HRX1.out)
              have HB8 : Hid (Below w.heap.size w w6) := Lib.hid (HB1.out.trans (HB7.out.mono HB0.out))
              obtain ⟨c0, c1, z0, z1, cz⟩ := block2' HRX5.out
              go_wp2_with fail
              refine bodyPost_ret (v := .tuple #[.agg #[.slice none 0 0, .slice none 0 0], .int .i64 er]) (results_row_tmp (P := Try.prog) Try.results12 _ _ r 25 _ (0, 0) _ rfl (heap_set22 HRX5.out) Try.underlying25 rfl (by kernel_rfl) _ rfl) rfl ?_
              rw [HNX.out]
              exact ⟨(HB8.out.setCell (show w.heap.size ≤ r from HRL.out) _).setCell (show w.heap.size ≤ r from HRL.out) _, _, _, rfl, .inl ⟨rfl, Bare.nil⟩, .inl ⟨rfl, Bare.nil⟩⟩
          · subst hd
            clear hok
            go_wp2_with fail
            refine (remove_any B gB gi c' _ _ i w5 HX5.out HWN.out.2 HOK.out HGI.out HN1.out HN2.out HN3.out).mono ?_
            rw [← HCE.out]
            rintro e w6 ⟨rfl, hb6, hx6⟩
            have HB7 : Hid (Below B w1 w6) := Lib.hid (HB6.out.trans hb6)
            have HX6 := Lib.hid hx6
            clear hb6 hx6
            simp only
            by_cases he : er = 0
            · subst he
              have HWN2 : Hid (Went c cs (kk + 1) c2) := Lib.hid (HGOES.out _ HCE.out.symm rfl)
              go_wp2_with fail
              go_roundg (gk - 1)
              case measure => omega
              case rel =>
                obtain ⟨v2, l2, hx2⟩ := HX6.out trivial
                exact ⟨kk + 1, c2, v2, l2, by go_num, by omega, Lib.hid hx2, HB7, HWN2⟩
            · have q1 : (er != 0) = true := by simpa using he
              have HNX : Hid (R = (cf0, er)) := Lib.hid (by
                rw [HRV.out]
                exact HFAIL.out _ HCE.out.symm he)
              have HRX5 : Hid (w6.heap[r]? = some (.cells #[.slice none 0 0, .slice none 0 0] 25)) := Lib.hid ((HB7.out.block r HRB.out).trans HRX1.out)
              have HB8 : Hid (Below w.heap.size w w6) := Lib.hid (HB1.out.trans (HB7.out.mono HB0.out))
              obtain ⟨c0, c1, z0, z1, cz⟩ := block2' HRX5.out
              go_wp2_with fail
              refine bodyPost_ret (v := .tuple #[.agg #[.slice none 0 0, .slice none 0 0], .int .i64 er]) (results_row_tmp (P := Try.prog) Try.results12 _ _ r 25 _ (0, 0) _ rfl (heap_set22 HRX5.out) Try.underlying25 rfl (by kernel_rfl) _ rfl) rfl ?_
              rw [HNX.out]
              exact ⟨(HB8.out.setCell (show w.heap.size ≤ r from HRL.out) _).setCell (show w.heap.size ≤ r from HRL.out) _, _, _, rfl, .inl ⟨rfl, Bare.nil⟩, .inl ⟨rfl, Bare.nil⟩⟩
      · obtain rfl : kk = N := by omega
        have hkk : ¬ ((kk : Nat) : Int) < (kk : Int) := by omega
        have HFIN : Hid (R = (c', 0)) := Lib.hid (by rw [HRV.out]; exact HWN.out.done (by rw [← HN.out]; omega))
        obtain ⟨c0, c1, z0, z1, cz⟩ := block2' HX.out.box
        obtain ⟨d0, d1, y0, y1, dz⟩ := block2' HRXR.out
        go_wp2_with fail
        refine bodyPost_ret (v := .tuple #[.agg #[.slice va' nv' vk', .slice la' nl' lk'], .int .i64 0]) (results_row_tmp (P := Try.prog) Try.results12 _ _ r 25 _ (0, 0) _ rfl (heap_set22 HRXR.out) Try.underlying25 rfl (by kernel_rfl) _ rfl) rfl ?_
        rw [HFIN.out]
        have hr1 : ∀ {u : Value} {z : List Int}, IR B z u wr → RepI ((wr.setCell ⟨r, 0, none⟩ (.slice va' nv' vk')).setCell ⟨r, 1, none⟩ (.slice la' nl' lk')) (fun b => w.heap.size ≤ b ∧ b < ((wr.setCell ⟨r, 0, none⟩ (.slice va' nv' vk')).setCell ⟨r, 1, none⟩ (.slice la' nl' lk')).heap.size) z u := fun {u z} h => by
          have hx : u.ownBlock ≠ some r := fun e => by have := (h.block_lt e).1; have := HRB.out; omega
          exact ((h.set hx).set hx).rep.same (fun k hk => ⟨Nat.le_trans HB0.out hk.1, hk.2⟩) fun _ _ => rfl
        exact ⟨(HBW.out.setCell (show w.heap.size ≤ r from HRL.out) _).setCell (show w.heap.size ≤ r from HRL.out) _, _, _, rfl, hr1 HX.out.two.rv, hr1 HX.out.two.rl⟩
  · rw [yes_f hc]
    have HRV : Hid (R = (cf0, 80)) := Lib.hid (by rw [HR.out]; unfold nextAll; rw [if_neg hc])
    obtain ⟨c0, c1, z0, z1, cz⟩ := block2' HRX1.out
    clear hc
    go_wp2_with fail
    refine bodyPost_ret (v := .tuple #[.agg #[.slice none 0 0, .slice none 0 0], .int .i64 80]) (results_row_tmp (P := Try.prog) Try.results12 _ _ r 25 _ (0, 0) _ rfl (heap_set22 HRX1.out) Try.underlying25 rfl (by kernel_rfl) _ rfl) rfl ?_
    rw [HRV.out]
    exact ⟨(HB1.out.setCell (show w.heap.size ≤ r from HRL.out) _).setCell (show w.heap.size ≤ r from HRL.out) _, _, _, rfl, .inl ⟨rfl, Bare.nil⟩, .inl ⟨rfl, Bare.nil⟩⟩
end Go.Proofs.Ytdngfbljcmbniaa.M
