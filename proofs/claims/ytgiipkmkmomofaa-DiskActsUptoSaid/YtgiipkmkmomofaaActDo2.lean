/- An act on the program's disk, and on the document's. -/
import Derived.Test.YtgiipkmkmomofaaActDo1
namespace Go.Proofs.Ytgiipkmkmomofaa.M
open Go.RowKit Go.Maps
open D (Fl Dk)

set_option maxRecDepth 40000 in
set_option maxHeartbeats 6400000 in
theorem ActDo1 (a : Ac) (d e : Dk) (X Y : Nat → Prop) (gd gr : Nat) (F : Nat → Prop) (x0 x1 x2 x3 x4 : Value) (w : World) (hp : PDskIn w X gd d) (hq : DskIn w Y gr e) (hd : ∀ k, X k → ¬ Y k) (hwd : Well d) (hwe : Well e)
    (ha : RepA w F a x0 x1 x2 x3 x4) (hF : ∀ k, F k → k < w.heap.size ∧ ¬ X k ∧ ¬ Y k) (_hu : Hid (D.used d.fs + a.bs.flatten.length ≤ 1099511627776 ∧ D.used e.fs + a.bs.flatten.length ≤ 1099511627776)) (hk : a.kind = 1) :
    Calls Try.prog 14 #[.agg #[x0, x1, x2, x3, x4], .pointer (some ⟨gd, 0, none⟩), .pointer (some ⟨gr, 0, none⟩)] w fun e' w' => e' = .returned (.bool ((act d a).1 == (act e a).1)) ∧ Both w X Y gd gr (act d a).2 (act e a).2 w' := by
  have ha1 := ha.2.2.1
  have ha2 := ha.2.2.2.2.1
  have ha4 := ha.2.2.2.2.2.2.2
  obtain ⟨na, nc, rfl, hnl⟩ := ha1.slice
  obtain ⟨ba, bc, rfl, hbl⟩ := ha2.slice
  obtain ⟨ka, kc, rfl, hkl⟩ := ha4.slice
  have hx0 := ha.1
  have hx3 := ha.2.2.2.2.2.1
  rw [hk] at hx0
  subst hx0 hx3
  obtain ⟨n1, hn1⟩ : ∃ n1, n1 = a.names.length := ⟨_, rfl⟩
  obtain ⟨n2, hn2⟩ : ∃ n2, n2 = a.bs.length := ⟨_, rfl⟩
  obtain ⟨n4, hn4⟩ : ∃ n4, n4 = a.keep.length := ⟨_, rfl⟩
  obtain ⟨n, hn⟩ : ∃ n, n = a.n := ⟨_, rfl⟩
  simp only [← hn1, ← hn2, ← hn4, ← hn] at ha ha1 ha2 ha4 ⊢
  have HA := Lib.hid ha
  have HN := Lib.hid hn
  have HP := Lib.hid hp
  have HQ := Lib.hid hq
  have HD := Lib.hid hd
  have HWD := Lib.hid hwd
  have HWE := Lib.hid hwe
  have HF := Lib.hid hF
  have HNM := Lib.hid (fun i => Ac.name_size (a := a) ha.2.2.2.1 i)
  have HN64 := Lib.hid ha.2.2.2.2.2.2.1
  obtain ⟨W, hW⟩ : ∃ W, W = w.alloc (.cells #[.int .i64 1, .slice na n1 nc, .slice ba n2 bc, .int .i64 n, .slice ka n4 kc] 39) := ⟨_, rfl⟩
  obtain ⟨g0, g1, g2, g3, g4⟩ := five_new w (.int .i64 1) (.slice na n1 nc) (.slice ba n2 bc) (.int .i64 n) (.slice ka n4 kc) 39 w.heap.size rfl
  rw [← hW] at g0 g1 g2 g3 g4
  have HB : Hid (Below w.heap.size w W) := Lib.hid (by rw [hW]; exact below_alloc _ _)
  have hzW : w.heap.size < W.heap.size := by rw [hW]; simp
  have hbx : ¬ (X w.heap.size ∨ Y w.heap.size) := fun h => by
    rcases h with h | h
    · exact absurd (hp.2 _ h) (Nat.lt_irrefl _)
    · exact absurd (hq.2 _ h) (Nat.lt_irrefl _)
  have HWE2 := Lib.hid hW
  obtain ⟨bx, hbxe⟩ : ∃ bx, bx = w.heap.size := ⟨_, rfl⟩
  rw [← hbxe] at g0 g1 g2 g3 g4 hbx hzW
  have HBX := Lib.hid hbxe
  clear ha ha1 ha2 ha4 hp hq hd hwd hwe hF hn1 hn2 hn4 hW hn hnl hbl hkl hbxe
  go_enter Try.func14, Try.ntmps14
  go_wp2_with fail
  rw [← HWE2.out, ← HBX.out]
  refine wp_region_held (S := fun w' => Only (fun j => X j ∨ Y j) W w') (by kernel_rfl) ?_
  have hS : Only (fun j => X j ∨ Y j) W W.drew := ⟨rfl, rfl, rfl, Nat.le_refl _, fun _ _ _ => rfl⟩
  have r0 : ∀ w', Only (fun j => X j ∨ Y j) W w' → w'.cell? ⟨bx, 0, none⟩ = some (.int .i64 1) := fun w' hw' => (cell_only hw' hzW hbx 0).trans g0
  have r1 : ∀ w', Only (fun j => X j ∨ Y j) W w' → w'.cell? ⟨bx, 1, none⟩ = some (.slice na n1 nc) := fun w' hw' => (cell_only hw' hzW hbx 1).trans g1
  have r2 : ∀ w', Only (fun j => X j ∨ Y j) W w' → w'.cell? ⟨bx, 2, none⟩ = some (.slice ba n2 bc) := fun w' hw' => (cell_only hw' hzW hbx 2).trans g2
  have r3 : ∀ w', Only (fun j => X j ∨ Y j) W w' → w'.cell? ⟨bx, 3, none⟩ = some (.int .i64 n) := fun w' hw' => (cell_only hw' hzW hbx 3).trans g3
  have r4 : ∀ w', Only (fun j => X j ∨ Y j) W w' → w'.cell? ⟨bx, 4, none⟩ = some (.slice ka n4 kc) := fun w' hw' => (cell_only hw' hzW hbx 4).trans g4
  clear g0 g1 g2 g3 g4
  have O0 : Hid (Only X w W.drew) := Lib.hid ((Only.of_below HB.out).then (show Only X W W.drew from ⟨rfl, rfl, rfl, Nat.le_refl _, fun _ _ _ => rfl⟩))
  have BW0 : Hid (Below w.heap.size w W.drew) := Lib.hid (HB.out.trans ⟨rfl, rfl, rfl, Nat.le_refl _, fun _ _ => rfl⟩)
  refine H_take (i := 0) (v := ?_) rfl (by as_aux_lemma => kernel_rfl) (by as_aux_lemma => kernel_rfl) (by as_aux_lemma => kernel_rfl) (fun _ _ _ h => h) (by rfl) hS ?_ ?_
  rotate_left
  · intro w' hw'; go_simp; with_reducible rfl
  go_simp
  refine H_take (i := 1) (v := ?_) rfl (by as_aux_lemma => kernel_rfl) (by as_aux_lemma => kernel_rfl) (by as_aux_lemma => kernel_rfl) (fun _ _ _ h => h) (by rfl) hS ?_ ?_
  rotate_left
  · intro w' hw'; go_simp; with_reducible rfl
  go_simp
  refine H_take (i := 2) (v := ?_) rfl (by as_aux_lemma => kernel_rfl) (by as_aux_lemma => kernel_rfl) (by as_aux_lemma => kernel_rfl) (fun _ _ _ h => h) (by rfl) hS ?_ ?_
  rotate_left
  · intro w' hw'; go_simp; with_reducible rfl
  go_simp
  refine H_take (i := 4) (v := ?_) rfl (by as_aux_lemma => kernel_rfl) (by as_aux_lemma => kernel_rfl) (by as_aux_lemma => kernel_rfl) (fun _ _ _ h => h) (by rfl) hS ?_ ?_
  rotate_left
  · intro w' hw'; go_simp; with_reducible rfl
  go_simp
  refine H_take (i := 5) (v := ?_) rfl (by as_aux_lemma => kernel_rfl) (by as_aux_lemma => kernel_rfl) (by as_aux_lemma => kernel_rfl) (fun _ _ _ h => h) (by rfl) hS ?_ ?_
  rotate_left
  · intro w' hw'; go_simp; with_reducible rfl
  go_simp
  refine H_take (i := 6) (v := ?_) rfl (by as_aux_lemma => kernel_rfl) (by as_aux_lemma => kernel_rfl) (by as_aux_lemma => kernel_rfl) (fun _ _ _ h => h) (by rfl) hS ?_ ?_
  rotate_left
  · intro w' hw'; go_simp; with_reducible rfl
  go_simp
  refine H_one (i := 3) (by as_aux_lemma => kernel_rfl) rfl (by rfl) ?_
  go_simp
  refine (PSync_any d X gd a.names F _ W.drew (HP.out.next BW0.out) HWD.out.1 HA.out.2.2.2.1 (HA.out.2.2.1.same (fun _ h => h) (fun k hk => O0.out.block k (HF.out k hk).1 (HF.out k hk).2.1)) (fun k hk => ⟨Nat.lt_of_lt_of_le (HF.out k hk).1 O0.out.size, (HF.out k hk).2.1⟩)).mono ?_
  intro e2 w2 hpp
  have S2 : Only (fun j => X j ∨ Y j) W w2 := hS.then (hpp.2.1.mono fun _ h => .inl h)
  have O2 : Hid (Only X w w2) := Lib.hid (O0.out.then hpp.2.1)
  have HPP := Lib.hid hpp
  obtain ⟨rfl, -, -⟩ := hpp
  refine ⟨S2, ?_⟩
  go_simp
  refine H_one (i := 7) (by as_aux_lemma => kernel_rfl) rfl (by rfl) ?_
  go_simp
  refine (RefSync_any e Y gr a.names F _ w2 (HQ.out.next O2.out HD.out) (Lib.hid HWE.out.1.1) (HA.out.2.2.1.same (fun _ h => h) (fun k hk => O2.out.block k (HF.out k hk).1 (HF.out k hk).2.1)) (fun k hk => ⟨Nat.lt_of_lt_of_le (HF.out k hk).1 O2.out.size, (HF.out k hk).2.2⟩)).mono ?_
  rintro e4 w4 ⟨rfl, hro, hrd⟩
  have S4 : Only (fun j => X j ∨ Y j) W w4 := S2.then (hro.mono fun _ h => .inr h)
  have HBOTH : Hid (Both w X Y gd gr (act d a).2 (act e a).2 w4) := Lib.hid (by
    rw [act_1 hk d, act_1 hk e]
    exact both_of HP.out.2 HQ.out.2 HD.out BW0.out HPP.out (Below.refl _ _) hro hrd)
  clear hro hrd
  refine ⟨S4, ?_⟩
  go_simp
  refine H_take (i := 8) (v := ?_) rfl (by as_aux_lemma => kernel_rfl) (by as_aux_lemma => kernel_rfl) (by as_aux_lemma => kernel_rfl) (fun _ _ _ h => h) (by rfl) S4 ?_ ?_
  rotate_left
  · intro w' hw'; go_simp; with_reducible rfl
  go_simp
  refine H_take (i := 9) (v := ?_) rfl (by as_aux_lemma => kernel_rfl) (by as_aux_lemma => kernel_rfl) (by as_aux_lemma => kernel_rfl) (fun _ _ _ h => h) (by rfl) S4 ?_ ?_
  rotate_left
  · intro w' hw'; go_simp; with_reducible rfl
  go_simp
  refine wpAnyH_done (by as_aux_lemma => kernel_rfl) ?_ _
  clear r0 r1 r2 r3 r4
  go_wp2_with fail
  go_ret
  exact ⟨by rw [act_1 hk d, act_1 hk e]; rfl, HBOTH.out⟩

set_option maxRecDepth 40000 in
set_option maxHeartbeats 6400000 in
theorem ActDo3 (a : Ac) (d e : Dk) (X Y : Nat → Prop) (gd gr : Nat) (F : Nat → Prop) (x0 x1 x2 x3 x4 : Value) (w : World) (hp : PDskIn w X gd d) (hq : DskIn w Y gr e) (hd : ∀ k, X k → ¬ Y k) (hwd : Well d) (hwe : Well e)
    (ha : RepA w F a x0 x1 x2 x3 x4) (hF : ∀ k, F k → k < w.heap.size ∧ ¬ X k ∧ ¬ Y k) (_hu : Hid (D.used d.fs + a.bs.flatten.length ≤ 1099511627776 ∧ D.used e.fs + a.bs.flatten.length ≤ 1099511627776)) (hk : a.kind = 3) :
    Calls Try.prog 14 #[.agg #[x0, x1, x2, x3, x4], .pointer (some ⟨gd, 0, none⟩), .pointer (some ⟨gr, 0, none⟩)] w fun e' w' => e' = .returned (.bool ((act d a).1 == (act e a).1)) ∧ Both w X Y gd gr (act d a).2 (act e a).2 w' := by
  have ha1 := ha.2.2.1
  have ha2 := ha.2.2.2.2.1
  have ha4 := ha.2.2.2.2.2.2.2
  obtain ⟨na, nc, rfl, hnl⟩ := ha1.slice
  obtain ⟨ba, bc, rfl, hbl⟩ := ha2.slice
  obtain ⟨ka, kc, rfl, hkl⟩ := ha4.slice
  have hx0 := ha.1
  have hx3 := ha.2.2.2.2.2.1
  rw [hk] at hx0
  subst hx0 hx3
  obtain ⟨n1, hn1⟩ : ∃ n1, n1 = a.names.length := ⟨_, rfl⟩
  obtain ⟨n2, hn2⟩ : ∃ n2, n2 = a.bs.length := ⟨_, rfl⟩
  obtain ⟨n4, hn4⟩ : ∃ n4, n4 = a.keep.length := ⟨_, rfl⟩
  obtain ⟨n, hn⟩ : ∃ n, n = a.n := ⟨_, rfl⟩
  simp only [← hn1, ← hn2, ← hn4, ← hn] at ha ha1 ha2 ha4 ⊢
  have HA := Lib.hid ha
  have HN := Lib.hid hn
  have HP := Lib.hid hp
  have HQ := Lib.hid hq
  have HD := Lib.hid hd
  have HWD := Lib.hid hwd
  have HWE := Lib.hid hwe
  have HF := Lib.hid hF
  have HNM := Lib.hid (fun i => Ac.name_size (a := a) ha.2.2.2.1 i)
  have HN64 := Lib.hid ha.2.2.2.2.2.2.1
  obtain ⟨W, hW⟩ : ∃ W, W = w.alloc (.cells #[.int .i64 3, .slice na n1 nc, .slice ba n2 bc, .int .i64 n, .slice ka n4 kc] 39) := ⟨_, rfl⟩
  obtain ⟨g0, g1, g2, g3, g4⟩ := five_new w (.int .i64 3) (.slice na n1 nc) (.slice ba n2 bc) (.int .i64 n) (.slice ka n4 kc) 39 w.heap.size rfl
  rw [← hW] at g0 g1 g2 g3 g4
  have HB : Hid (Below w.heap.size w W) := Lib.hid (by rw [hW]; exact below_alloc _ _)
  have hzW : w.heap.size < W.heap.size := by rw [hW]; simp
  have hbx : ¬ (X w.heap.size ∨ Y w.heap.size) := fun h => by
    rcases h with h | h
    · exact absurd (hp.2 _ h) (Nat.lt_irrefl _)
    · exact absurd (hq.2 _ h) (Nat.lt_irrefl _)
  have HWE2 := Lib.hid hW
  obtain ⟨bx, hbxe⟩ : ∃ bx, bx = w.heap.size := ⟨_, rfl⟩
  rw [← hbxe] at g0 g1 g2 g3 g4 hbx hzW
  have HBX := Lib.hid hbxe
  clear ha ha1 ha2 ha4 hp hq hd hwd hwe hF hn1 hn2 hn4 hW hn hnl hbl hkl hbxe
  go_enter Try.func14, Try.ntmps14
  go_wp2_with fail
  rw [← HWE2.out, ← HBX.out]
  refine wp_region_held (S := fun w' => Only (fun j => X j ∨ Y j) W w') (by kernel_rfl) ?_
  have hS : Only (fun j => X j ∨ Y j) W W.drew := ⟨rfl, rfl, rfl, Nat.le_refl _, fun _ _ _ => rfl⟩
  have r0 : ∀ w', Only (fun j => X j ∨ Y j) W w' → w'.cell? ⟨bx, 0, none⟩ = some (.int .i64 3) := fun w' hw' => (cell_only hw' hzW hbx 0).trans g0
  have r1 : ∀ w', Only (fun j => X j ∨ Y j) W w' → w'.cell? ⟨bx, 1, none⟩ = some (.slice na n1 nc) := fun w' hw' => (cell_only hw' hzW hbx 1).trans g1
  have r2 : ∀ w', Only (fun j => X j ∨ Y j) W w' → w'.cell? ⟨bx, 2, none⟩ = some (.slice ba n2 bc) := fun w' hw' => (cell_only hw' hzW hbx 2).trans g2
  have r3 : ∀ w', Only (fun j => X j ∨ Y j) W w' → w'.cell? ⟨bx, 3, none⟩ = some (.int .i64 n) := fun w' hw' => (cell_only hw' hzW hbx 3).trans g3
  have r4 : ∀ w', Only (fun j => X j ∨ Y j) W w' → w'.cell? ⟨bx, 4, none⟩ = some (.slice ka n4 kc) := fun w' hw' => (cell_only hw' hzW hbx 4).trans g4
  clear g0 g1 g2 g3 g4
  have O0 : Hid (Only X w W.drew) := Lib.hid ((Only.of_below HB.out).then (show Only X W W.drew from ⟨rfl, rfl, rfl, Nat.le_refl _, fun _ _ _ => rfl⟩))
  have BW0 : Hid (Below w.heap.size w W.drew) := Lib.hid (HB.out.trans ⟨rfl, rfl, rfl, Nat.le_refl _, fun _ _ => rfl⟩)
  refine H_take (i := 0) (v := ?_) rfl (by as_aux_lemma => kernel_rfl) (by as_aux_lemma => kernel_rfl) (by as_aux_lemma => kernel_rfl) (fun _ _ _ h => h) (by rfl) hS ?_ ?_
  rotate_left
  · intro w' hw'; go_simp; with_reducible rfl
  go_simp
  refine H_take (i := 1) (v := ?_) rfl (by as_aux_lemma => kernel_rfl) (by as_aux_lemma => kernel_rfl) (by as_aux_lemma => kernel_rfl) (fun _ _ _ h => h) (by rfl) hS ?_ ?_
  rotate_left
  · intro w' hw'; go_simp; with_reducible rfl
  go_simp
  refine H_take (i := 2) (v := ?_) rfl (by as_aux_lemma => kernel_rfl) (by as_aux_lemma => kernel_rfl) (by as_aux_lemma => kernel_rfl) (fun _ _ _ h => h) (by rfl) hS ?_ ?_
  rotate_left
  · intro w' hw'; go_simp; with_reducible rfl
  go_simp
  refine H_take (i := 4) (v := ?_) rfl (by as_aux_lemma => kernel_rfl) (by as_aux_lemma => kernel_rfl) (by as_aux_lemma => kernel_rfl) (fun _ _ _ h => h) (by rfl) hS ?_ ?_
  rotate_left
  · intro w' hw'; go_simp; with_reducible rfl
  go_simp
  refine H_take (i := 5) (v := ?_) rfl (by as_aux_lemma => kernel_rfl) (by as_aux_lemma => kernel_rfl) (by as_aux_lemma => kernel_rfl) (fun _ _ _ h => h) (by rfl) hS ?_ ?_
  rotate_left
  · intro w' hw'; go_simp; with_reducible rfl
  go_simp
  refine H_take (i := 6) (v := ?_) rfl (by as_aux_lemma => kernel_rfl) (by as_aux_lemma => kernel_rfl) (by as_aux_lemma => kernel_rfl) (fun _ _ _ h => h) (by rfl) hS ?_ ?_
  rotate_left
  · intro w' hw'; go_simp; with_reducible rfl
  go_simp
  refine H_one (i := 3) (by as_aux_lemma => kernel_rfl) rfl (by rfl) ?_
  go_simp
  refine (PRemove_any d X gd a.names F _ W.drew (HP.out.next BW0.out) HWD.out.1 HA.out.2.2.2.1 (HA.out.2.2.1.same (fun _ h => h) (fun k hk => O0.out.block k (HF.out k hk).1 (HF.out k hk).2.1)) (fun k hk => ⟨Nat.lt_of_lt_of_le (HF.out k hk).1 O0.out.size, (HF.out k hk).2.1⟩)).mono ?_
  intro e2 w2 hpp
  have S2 : Only (fun j => X j ∨ Y j) W w2 := hS.then (hpp.2.1.mono fun _ h => .inl h)
  have O2 : Hid (Only X w w2) := Lib.hid (O0.out.then hpp.2.1)
  have HPP := Lib.hid hpp
  obtain ⟨rfl, -, -⟩ := hpp
  refine ⟨S2, ?_⟩
  go_simp
  refine H_one (i := 7) (by as_aux_lemma => kernel_rfl) rfl (by rfl) ?_
  go_simp
  refine (RefRemove_any e Y gr a.names F _ w2 (HQ.out.next O2.out HD.out) (Lib.hid HWE.out.1.1) (HA.out.2.2.1.same (fun _ h => h) (fun k hk => O2.out.block k (HF.out k hk).1 (HF.out k hk).2.1)) (fun k hk => ⟨Nat.lt_of_lt_of_le (HF.out k hk).1 O2.out.size, (HF.out k hk).2.2⟩)).mono ?_
  rintro e4 w4 ⟨rfl, hro, hrd⟩
  have S4 : Only (fun j => X j ∨ Y j) W w4 := S2.then (hro.mono fun _ h => .inr h)
  have HBOTH : Hid (Both w X Y gd gr (act d a).2 (act e a).2 w4) := Lib.hid (by
    rw [act_3 hk d, act_3 hk e]
    exact both_of HP.out.2 HQ.out.2 HD.out BW0.out HPP.out (Below.refl _ _) hro hrd)
  clear hro hrd
  refine ⟨S4, ?_⟩
  go_simp
  refine H_take (i := 8) (v := ?_) rfl (by as_aux_lemma => kernel_rfl) (by as_aux_lemma => kernel_rfl) (by as_aux_lemma => kernel_rfl) (fun _ _ _ h => h) (by rfl) S4 ?_ ?_
  rotate_left
  · intro w' hw'; go_simp; with_reducible rfl
  go_simp
  refine H_take (i := 9) (v := ?_) rfl (by as_aux_lemma => kernel_rfl) (by as_aux_lemma => kernel_rfl) (by as_aux_lemma => kernel_rfl) (fun _ _ _ h => h) (by rfl) S4 ?_ ?_
  rotate_left
  · intro w' hw'; go_simp; with_reducible rfl
  go_simp
  refine wpAnyH_done (by as_aux_lemma => kernel_rfl) ?_ _
  clear r0 r1 r2 r3 r4
  go_wp2_with fail
  go_ret
  exact ⟨by rw [act_3 hk d, act_3 hk e]; rfl, HBOTH.out⟩

set_option maxRecDepth 40000 in
set_option maxHeartbeats 6400000 in
theorem ActDo5 (a : Ac) (d e : Dk) (X Y : Nat → Prop) (gd gr : Nat) (F : Nat → Prop) (x0 x1 x2 x3 x4 : Value) (w : World) (hp : PDskIn w X gd d) (hq : DskIn w Y gr e) (hd : ∀ k, X k → ¬ Y k) (hwd : Well d) (hwe : Well e)
    (ha : RepA w F a x0 x1 x2 x3 x4) (hF : ∀ k, F k → k < w.heap.size ∧ ¬ X k ∧ ¬ Y k) (hu : Hid (D.used d.fs + a.bs.flatten.length ≤ 1099511627776 ∧ D.used e.fs + a.bs.flatten.length ≤ 1099511627776)) (hk : a.kind = 5) :
    Calls Try.prog 14 #[.agg #[x0, x1, x2, x3, x4], .pointer (some ⟨gd, 0, none⟩), .pointer (some ⟨gr, 0, none⟩)] w fun e' w' => e' = .returned (.bool ((act d a).1 == (act e a).1)) ∧ Both w X Y gd gr (act d a).2 (act e a).2 w' := by
  have ha1 := ha.2.2.1
  have ha2 := ha.2.2.2.2.1
  have ha4 := ha.2.2.2.2.2.2.2
  obtain ⟨na, nc, rfl, hnl⟩ := ha1.slice
  obtain ⟨ba, bc, rfl, hbl⟩ := ha2.slice
  obtain ⟨ka, kc, rfl, hkl⟩ := ha4.slice
  have hx0 := ha.1
  have hx3 := ha.2.2.2.2.2.1
  rw [hk] at hx0
  subst hx0 hx3
  obtain ⟨n1, hn1⟩ : ∃ n1, n1 = a.names.length := ⟨_, rfl⟩
  obtain ⟨n2, hn2⟩ : ∃ n2, n2 = a.bs.length := ⟨_, rfl⟩
  obtain ⟨n4, hn4⟩ : ∃ n4, n4 = a.keep.length := ⟨_, rfl⟩
  obtain ⟨n, hn⟩ : ∃ n, n = a.n := ⟨_, rfl⟩
  simp only [← hn1, ← hn2, ← hn4, ← hn] at ha ha1 ha2 ha4 ⊢
  have HA := Lib.hid ha
  have HN := Lib.hid hn
  have HP := Lib.hid hp
  have HQ := Lib.hid hq
  have HD := Lib.hid hd
  have HWD := Lib.hid hwd
  have HWE := Lib.hid hwe
  have HF := Lib.hid hF
  have HNM := Lib.hid (fun i => Ac.name_size (a := a) ha.2.2.2.1 i)
  have HN64 := Lib.hid ha.2.2.2.2.2.2.1
  obtain ⟨W, hW⟩ : ∃ W, W = w.alloc (.cells #[.int .i64 5, .slice na n1 nc, .slice ba n2 bc, .int .i64 n, .slice ka n4 kc] 39) := ⟨_, rfl⟩
  obtain ⟨g0, g1, g2, g3, g4⟩ := five_new w (.int .i64 5) (.slice na n1 nc) (.slice ba n2 bc) (.int .i64 n) (.slice ka n4 kc) 39 w.heap.size rfl
  rw [← hW] at g0 g1 g2 g3 g4
  have HB : Hid (Below w.heap.size w W) := Lib.hid (by rw [hW]; exact below_alloc _ _)
  have hzW : w.heap.size < W.heap.size := by rw [hW]; simp
  have hbx : ¬ (X w.heap.size ∨ Y w.heap.size) := fun h => by
    rcases h with h | h
    · exact absurd (hp.2 _ h) (Nat.lt_irrefl _)
    · exact absurd (hq.2 _ h) (Nat.lt_irrefl _)
  have HWE2 := Lib.hid hW
  obtain ⟨bx, hbxe⟩ : ∃ bx, bx = w.heap.size := ⟨_, rfl⟩
  rw [← hbxe] at g0 g1 g2 g3 g4 hbx hzW
  have HBX := Lib.hid hbxe
  clear ha ha1 ha2 ha4 hp hq hd hwd hwe hF hn1 hn2 hn4 hW hn hnl hbl hkl hbxe
  go_enter Try.func14, Try.ntmps14
  go_wp2_with fail
  rw [← HWE2.out, ← HBX.out]
  refine wp_region_held (S := fun w' => Only (fun j => X j ∨ Y j) W w') (by kernel_rfl) ?_
  have hS : Only (fun j => X j ∨ Y j) W W.drew := ⟨rfl, rfl, rfl, Nat.le_refl _, fun _ _ _ => rfl⟩
  have r0 : ∀ w', Only (fun j => X j ∨ Y j) W w' → w'.cell? ⟨bx, 0, none⟩ = some (.int .i64 5) := fun w' hw' => (cell_only hw' hzW hbx 0).trans g0
  have r1 : ∀ w', Only (fun j => X j ∨ Y j) W w' → w'.cell? ⟨bx, 1, none⟩ = some (.slice na n1 nc) := fun w' hw' => (cell_only hw' hzW hbx 1).trans g1
  have r2 : ∀ w', Only (fun j => X j ∨ Y j) W w' → w'.cell? ⟨bx, 2, none⟩ = some (.slice ba n2 bc) := fun w' hw' => (cell_only hw' hzW hbx 2).trans g2
  have r3 : ∀ w', Only (fun j => X j ∨ Y j) W w' → w'.cell? ⟨bx, 3, none⟩ = some (.int .i64 n) := fun w' hw' => (cell_only hw' hzW hbx 3).trans g3
  have r4 : ∀ w', Only (fun j => X j ∨ Y j) W w' → w'.cell? ⟨bx, 4, none⟩ = some (.slice ka n4 kc) := fun w' hw' => (cell_only hw' hzW hbx 4).trans g4
  clear g0 g1 g2 g3 g4
  have O0 : Hid (Only X w W.drew) := Lib.hid ((Only.of_below HB.out).then (show Only X W W.drew from ⟨rfl, rfl, rfl, Nat.le_refl _, fun _ _ _ => rfl⟩))
  have BW0 : Hid (Below w.heap.size w W.drew) := Lib.hid (HB.out.trans ⟨rfl, rfl, rfl, Nat.le_refl _, fun _ _ => rfl⟩)
  refine H_take (i := 0) (v := ?_) rfl (by as_aux_lemma => kernel_rfl) (by as_aux_lemma => kernel_rfl) (by as_aux_lemma => kernel_rfl) (fun _ _ _ h => h) (by rfl) hS ?_ ?_
  rotate_left
  · intro w' hw'; go_simp; with_reducible rfl
  go_simp
  refine H_take (i := 1) (v := ?_) rfl (by as_aux_lemma => kernel_rfl) (by as_aux_lemma => kernel_rfl) (by as_aux_lemma => kernel_rfl) (fun _ _ _ h => h) (by rfl) hS ?_ ?_
  rotate_left
  · intro w' hw'; go_simp; with_reducible rfl
  go_simp
  refine H_take (i := 2) (v := ?_) rfl (by as_aux_lemma => kernel_rfl) (by as_aux_lemma => kernel_rfl) (by as_aux_lemma => kernel_rfl) (fun _ _ _ h => h) (by rfl) hS ?_ ?_
  rotate_left
  · intro w' hw'; go_simp; with_reducible rfl
  go_simp
  refine H_take (i := 4) (v := ?_) rfl (by as_aux_lemma => kernel_rfl) (by as_aux_lemma => kernel_rfl) (by as_aux_lemma => kernel_rfl) (fun _ _ _ h => h) (by rfl) hS ?_ ?_
  rotate_left
  · intro w' hw'; go_simp; with_reducible rfl
  go_simp
  refine H_take (i := 5) (v := ?_) rfl (by as_aux_lemma => kernel_rfl) (by as_aux_lemma => kernel_rfl) (by as_aux_lemma => kernel_rfl) (fun _ _ _ h => h) (by rfl) hS ?_ ?_
  rotate_left
  · intro w' hw'; go_simp; with_reducible rfl
  go_simp
  refine H_take (i := 6) (v := ?_) rfl (by as_aux_lemma => kernel_rfl) (by as_aux_lemma => kernel_rfl) (by as_aux_lemma => kernel_rfl) (fun _ _ _ h => h) (by rfl) hS ?_ ?_
  rotate_left
  · intro w' hw'; go_simp; with_reducible rfl
  go_simp
  refine H_one (i := 3) (by as_aux_lemma => kernel_rfl) rfl (by rfl) ?_
  go_simp
  refine (PCrash_any d X gd a.keep F _ W.drew (HP.out.next BW0.out) HWD.out.1 HWD.out.names (HA.out.2.2.2.2.2.2.2.same (fun _ h => h) (fun k hk => O0.out.block k (HF.out k hk).1 (HF.out k hk).2.1)) (fun k hk => ⟨Nat.lt_of_lt_of_le (HF.out k hk).1 O0.out.size, (HF.out k hk).2.1⟩)).mono ?_
  intro e2 w2 hpp
  have S2 : Only (fun j => X j ∨ Y j) W w2 := hS.then (hpp.2.1.mono fun _ h => .inl h)
  have O2 : Hid (Only X w w2) := Lib.hid (O0.out.then hpp.2.1)
  have HPP := Lib.hid hpp
  obtain ⟨rfl, -, -⟩ := hpp
  refine ⟨S2, ?_⟩
  go_simp
  refine H_one (i := 7) (by as_aux_lemma => kernel_rfl) rfl (by rfl) ?_
  go_simp
  refine (RefCrash_any e Y gr a.keep F _ w2 (HQ.out.next O2.out HD.out) (Lib.hid HWE.out.1.1) (Lib.hid HWE.out.1.2.2) (Lib.hid (by have := hu.out.2; omega)) (HA.out.2.2.2.2.2.2.2.same (fun _ h => h) (fun k hk => O2.out.block k (HF.out k hk).1 (HF.out k hk).2.1)) (fun k hk => ⟨Nat.lt_of_lt_of_le (HF.out k hk).1 O2.out.size, (HF.out k hk).2.2⟩)).mono ?_
  rintro e4 w4 ⟨rfl, hro, hrd, -⟩
  replace hrd := hrd.up (w := w2)
  have S4 : Only (fun j => X j ∨ Y j) W w4 := S2.then (hro.mono fun _ h => .inr h)
  have HBOTH : Hid (Both w X Y gd gr (act d a).2 (act e a).2 w4) := Lib.hid (by
    rw [act_5 hk d, act_5 hk e]
    exact both_of HP.out.2 HQ.out.2 HD.out BW0.out HPP.out (Below.refl _ _) hro hrd)
  clear hro hrd
  refine ⟨S4, ?_⟩
  go_simp
  refine H_take (i := 8) (v := ?_) rfl (by as_aux_lemma => kernel_rfl) (by as_aux_lemma => kernel_rfl) (by as_aux_lemma => kernel_rfl) (fun _ _ _ h => h) (by rfl) S4 ?_ ?_
  rotate_left
  · intro w' hw'; go_simp; with_reducible rfl
  go_simp
  refine H_take (i := 9) (v := ?_) rfl (by as_aux_lemma => kernel_rfl) (by as_aux_lemma => kernel_rfl) (by as_aux_lemma => kernel_rfl) (fun _ _ _ h => h) (by rfl) S4 ?_ ?_
  rotate_left
  · intro w' hw'; go_simp; with_reducible rfl
  go_simp
  refine wpAnyH_done (by as_aux_lemma => kernel_rfl) ?_ _
  clear r0 r1 r2 r3 r4
  go_wp2_with fail
  go_ret
  exact ⟨by rw [act_5 hk d, act_5 hk e]; rfl, HBOTH.out⟩

set_option maxRecDepth 40000 in
set_option maxHeartbeats 6400000 in
theorem ActDo2 (a : Ac) (d e : Dk) (X Y : Nat → Prop) (gd gr : Nat) (F : Nat → Prop) (x0 x1 x2 x3 x4 : Value) (w : World) (hp : PDskIn w X gd d) (hq : DskIn w Y gr e) (hd : ∀ k, X k → ¬ Y k) (hwd : Well d) (hwe : Well e)
    (ha : RepA w F a x0 x1 x2 x3 x4) (hF : ∀ k, F k → k < w.heap.size ∧ ¬ X k ∧ ¬ Y k) (_hu : Hid (D.used d.fs + a.bs.flatten.length ≤ 1099511627776 ∧ D.used e.fs + a.bs.flatten.length ≤ 1099511627776)) (hk : a.kind = 2) :
    Calls Try.prog 14 #[.agg #[x0, x1, x2, x3, x4], .pointer (some ⟨gd, 0, none⟩), .pointer (some ⟨gr, 0, none⟩)] w fun e' w' => e' = .returned (.bool ((act d a).1 == (act e a).1)) ∧ Both w X Y gd gr (act d a).2 (act e a).2 w' := by
  have ha1 := ha.2.2.1
  have ha2 := ha.2.2.2.2.1
  have ha4 := ha.2.2.2.2.2.2.2
  obtain ⟨na, nc, rfl, hnl⟩ := ha1.slice
  obtain ⟨ba, bc, rfl, hbl⟩ := ha2.slice
  obtain ⟨ka, kc, rfl, hkl⟩ := ha4.slice
  have hx0 := ha.1
  have hx3 := ha.2.2.2.2.2.1
  rw [hk] at hx0
  subst hx0 hx3
  obtain ⟨n1, hn1⟩ : ∃ n1, n1 = a.names.length := ⟨_, rfl⟩
  obtain ⟨n2, hn2⟩ : ∃ n2, n2 = a.bs.length := ⟨_, rfl⟩
  obtain ⟨n4, hn4⟩ : ∃ n4, n4 = a.keep.length := ⟨_, rfl⟩
  obtain ⟨n, hn⟩ : ∃ n, n = a.n := ⟨_, rfl⟩
  simp only [← hn1, ← hn2, ← hn4, ← hn] at ha ha1 ha2 ha4 ⊢
  have HA := Lib.hid ha
  have HN := Lib.hid hn
  have HP := Lib.hid hp
  have HQ := Lib.hid hq
  have HD := Lib.hid hd
  have HWD := Lib.hid hwd
  have HWE := Lib.hid hwe
  have HF := Lib.hid hF
  have HNM := Lib.hid (fun i => Ac.name_size (a := a) ha.2.2.2.1 i)
  have HN64 := Lib.hid ha.2.2.2.2.2.2.1
  obtain ⟨W, hW⟩ : ∃ W, W = w.alloc (.cells #[.int .i64 2, .slice na n1 nc, .slice ba n2 bc, .int .i64 n, .slice ka n4 kc] 39) := ⟨_, rfl⟩
  obtain ⟨g0, g1, g2, g3, g4⟩ := five_new w (.int .i64 2) (.slice na n1 nc) (.slice ba n2 bc) (.int .i64 n) (.slice ka n4 kc) 39 w.heap.size rfl
  rw [← hW] at g0 g1 g2 g3 g4
  have HB : Hid (Below w.heap.size w W) := Lib.hid (by rw [hW]; exact below_alloc _ _)
  have hzW : w.heap.size < W.heap.size := by rw [hW]; simp
  have hbx : ¬ (X w.heap.size ∨ Y w.heap.size) := fun h => by
    rcases h with h | h
    · exact absurd (hp.2 _ h) (Nat.lt_irrefl _)
    · exact absurd (hq.2 _ h) (Nat.lt_irrefl _)
  have HWE2 := Lib.hid hW
  obtain ⟨bx, hbxe⟩ : ∃ bx, bx = w.heap.size := ⟨_, rfl⟩
  rw [← hbxe] at g0 g1 g2 g3 g4 hbx hzW
  have HBX := Lib.hid hbxe
  clear ha ha1 ha2 ha4 hp hq hd hwd hwe hF hn1 hn2 hn4 hW hn hnl hbl hkl hbxe
  go_enter Try.func14, Try.ntmps14
  go_wp2_with fail
  rw [← HWE2.out, ← HBX.out]
  refine wp_region_held (S := fun w' => Only (fun j => X j ∨ Y j) W w') (by kernel_rfl) ?_
  have hS : Only (fun j => X j ∨ Y j) W W.drew := ⟨rfl, rfl, rfl, Nat.le_refl _, fun _ _ _ => rfl⟩
  have r0 : ∀ w', Only (fun j => X j ∨ Y j) W w' → w'.cell? ⟨bx, 0, none⟩ = some (.int .i64 2) := fun w' hw' => (cell_only hw' hzW hbx 0).trans g0
  have r1 : ∀ w', Only (fun j => X j ∨ Y j) W w' → w'.cell? ⟨bx, 1, none⟩ = some (.slice na n1 nc) := fun w' hw' => (cell_only hw' hzW hbx 1).trans g1
  have r2 : ∀ w', Only (fun j => X j ∨ Y j) W w' → w'.cell? ⟨bx, 2, none⟩ = some (.slice ba n2 bc) := fun w' hw' => (cell_only hw' hzW hbx 2).trans g2
  have r3 : ∀ w', Only (fun j => X j ∨ Y j) W w' → w'.cell? ⟨bx, 3, none⟩ = some (.int .i64 n) := fun w' hw' => (cell_only hw' hzW hbx 3).trans g3
  have r4 : ∀ w', Only (fun j => X j ∨ Y j) W w' → w'.cell? ⟨bx, 4, none⟩ = some (.slice ka n4 kc) := fun w' hw' => (cell_only hw' hzW hbx 4).trans g4
  clear g0 g1 g2 g3 g4
  have O0 : Hid (Only X w W.drew) := Lib.hid ((Only.of_below HB.out).then (show Only X W W.drew from ⟨rfl, rfl, rfl, Nat.le_refl _, fun _ _ _ => rfl⟩))
  have BW0 : Hid (Below w.heap.size w W.drew) := Lib.hid (HB.out.trans ⟨rfl, rfl, rfl, Nat.le_refl _, fun _ _ => rfl⟩)
  refine H_take (i := 0) (v := ?_) rfl (by as_aux_lemma => kernel_rfl) (by as_aux_lemma => kernel_rfl) (by as_aux_lemma => kernel_rfl) (fun _ _ _ h => h) (by rfl) hS ?_ ?_
  rotate_left
  · intro w' hw'; go_simp; with_reducible rfl
  go_simp
  refine H_take (i := 1) (v := ?_) rfl (by as_aux_lemma => kernel_rfl) (by as_aux_lemma => kernel_rfl) (by as_aux_lemma => kernel_rfl) (fun _ _ _ h => h) (by rfl) hS ?_ ?_
  rotate_left
  · intro w' hw'; go_simp; with_reducible rfl
  go_simp
  refine H_take (i := 3) (v := ?_) rfl (by as_aux_lemma => kernel_rfl) (by as_aux_lemma => kernel_rfl) (by as_aux_lemma => kernel_rfl) (fun _ _ _ h => h) (by rfl) hS ?_ ?_
  rotate_left
  · intro w' hw'; go_simp; with_reducible rfl
  go_simp
  refine H_take (i := 6) (v := ?_) rfl (by as_aux_lemma => kernel_rfl) (by as_aux_lemma => kernel_rfl) (by as_aux_lemma => kernel_rfl) (fun _ _ _ h => h) (by rfl) hS ?_ ?_
  rotate_left
  · intro w' hw'; go_simp; with_reducible rfl
  go_simp
  refine H_take (i := 7) (v := ?_) rfl (by as_aux_lemma => kernel_rfl) (by as_aux_lemma => kernel_rfl) (by as_aux_lemma => kernel_rfl) (fun _ _ _ h => h) (by rfl) hS ?_ ?_
  rotate_left
  · intro w' hw'; go_simp; with_reducible rfl
  go_simp
  refine H_take (i := 9) (v := ?_) rfl (by as_aux_lemma => kernel_rfl) (by as_aux_lemma => kernel_rfl) (by as_aux_lemma => kernel_rfl) (fun _ _ _ h => h) (by rfl) hS ?_ ?_
  rotate_left
  · intro w' hw'; go_simp; with_reducible rfl
  go_simp
  refine H_one (i := 2) (by as_aux_lemma => kernel_rfl) rfl (by rfl) ?_
  go_simp
  refine (ActName_at a F _ _ _ _ _ 0 _ (by rfl) _ (HA.out.same (fun _ h => h) fun k hk => O0.out.block k (HF.out k hk).1 (HF.out k hk).2.1) (fun k hk => Nat.lt_of_lt_of_le (HF.out k hk).1 O0.out.size)).mono ?_
  rintro e1 w1 ⟨rfl, b1⟩
  have S1 : Only (fun j => X j ∨ Y j) W w1 := hS.then (Only.of_below b1)
  have O1 : Hid (Only X w w1) := Lib.hid (O0.out.then (Only.of_below b1))
  have B1 := Lib.hid b1
  clear b1
  refine ⟨S1, ?_⟩
  go_simp
  refine H_one (i := 4) (by as_aux_lemma => kernel_rfl) rfl (by rfl) ?_
  go_simp
  refine (ActName_at a F _ _ _ _ _ 1 _ (by rfl) _ (HA.out.same (fun _ h => h) fun k hk => O1.out.block k (HF.out k hk).1 (HF.out k hk).2.1) (fun k hk => Nat.lt_of_lt_of_le (HF.out k hk).1 O1.out.size)).mono ?_
  rintro e2 w2 ⟨rfl, b2⟩
  have S2 : Only (fun j => X j ∨ Y j) W w2 := S1.then (Only.of_below b2)
  have O2 : Hid (Only X w w2) := Lib.hid (O1.out.then (Only.of_below b2))
  have B2 := Lib.hid b2
  clear b2
  refine ⟨S2, ?_⟩
  go_simp
  refine H_one (i := 5) (by as_aux_lemma => kernel_rfl) rfl (by rfl) ?_
  go_simp
  refine (PRename_any d X gd (a.name 0) (a.name 1) w2 (HP.out.next (BW0.out.trans ((B1.out.trans (B2.out.mono B1.out.size)).mono BW0.out.size))) HWD.out.1 (HNM.out 0) (HNM.out 1)).mono ?_
  intro e3 w3 hpp
  have S3 : Only (fun j => X j ∨ Y j) W w3 := S2.then (hpp.2.1.mono fun _ h => .inl h)
  have O3 : Hid (Only X w w3) := Lib.hid (O2.out.then hpp.2.1)
  have HPP := Lib.hid hpp
  obtain ⟨rfl, -, -⟩ := hpp
  refine ⟨S3, ?_⟩
  go_simp
  refine H_one (i := 8) (by as_aux_lemma => kernel_rfl) rfl (by rfl) ?_
  go_simp
  refine (ActName_at a F _ _ _ _ _ 0 _ (by rfl) _ (HA.out.same (fun _ h => h) fun k hk => O3.out.block k (HF.out k hk).1 (HF.out k hk).2.1) (fun k hk => Nat.lt_of_lt_of_le (HF.out k hk).1 O3.out.size)).mono ?_
  rintro e4 w4 ⟨rfl, b4⟩
  have S4 : Only (fun j => X j ∨ Y j) W w4 := S3.then (Only.of_below b4)
  have O4 : Hid (Only X w w4) := Lib.hid (O3.out.then (Only.of_below b4))
  have B4 := Lib.hid b4
  clear b4
  refine ⟨S4, ?_⟩
  go_simp
  refine H_one (i := 10) (by as_aux_lemma => kernel_rfl) rfl (by rfl) ?_
  go_simp
  refine (ActName_at a F _ _ _ _ _ 1 _ (by rfl) _ (HA.out.same (fun _ h => h) fun k hk => O4.out.block k (HF.out k hk).1 (HF.out k hk).2.1) (fun k hk => Nat.lt_of_lt_of_le (HF.out k hk).1 O4.out.size)).mono ?_
  rintro e5 w5 ⟨rfl, b5⟩
  have S5 : Only (fun j => X j ∨ Y j) W w5 := S4.then (Only.of_below b5)
  have O5 : Hid (Only X w w5) := Lib.hid (O4.out.then (Only.of_below b5))
  have B5 := Lib.hid b5
  clear b5
  refine ⟨S5, ?_⟩
  go_simp
  refine H_one (i := 11) (by as_aux_lemma => kernel_rfl) rfl (by rfl) ?_
  go_simp
  refine (RefRename_any e Y gr (a.name 0) (a.name 1) w5 (HQ.out.next O5.out HD.out) (Lib.hid HWE.out.1.1) (HNM.out 1)).mono ?_
  rintro e6 w6 ⟨rfl, hro, hrd⟩
  have S6 : Only (fun j => X j ∨ Y j) W w6 := S5.then (hro.mono fun _ h => .inr h)
  have HBOTH : Hid (Both w X Y gd gr (act d a).2 (act e a).2 w6) := Lib.hid (by
    rw [act_2 hk d, act_2 hk e]
    exact both_of HP.out.2 HQ.out.2 HD.out (BW0.out.trans ((B1.out.trans (B2.out.mono B1.out.size)).mono BW0.out.size)) HPP.out (B4.out.trans (B5.out.mono B4.out.size)) hro hrd)
  clear hro hrd
  refine ⟨S6, ?_⟩
  go_simp
  refine H_take (i := 12) (v := ?_) rfl (by as_aux_lemma => kernel_rfl) (by as_aux_lemma => kernel_rfl) (by as_aux_lemma => kernel_rfl) (fun _ _ _ h => h) (by rfl) S6 ?_ ?_
  rotate_left
  · intro w' hw'; go_simp; with_reducible rfl
  go_simp
  refine H_take (i := 13) (v := ?_) rfl (by as_aux_lemma => kernel_rfl) (by as_aux_lemma => kernel_rfl) (by as_aux_lemma => kernel_rfl) (fun _ _ _ h => h) (by rfl) S6 ?_ ?_
  rotate_left
  · intro w' hw'; go_simp; with_reducible rfl
  go_simp
  refine wpAnyH_done (by as_aux_lemma => kernel_rfl) ?_ _
  clear r0 r1 r2 r3 r4
  go_wp2_with fail
  go_ret
  exact ⟨by rw [act_2 hk d, act_2 hk e]; rfl, HBOTH.out⟩

set_option maxRecDepth 40000 in
set_option maxHeartbeats 6400000 in
theorem ActDo4 (a : Ac) (d e : Dk) (X Y : Nat → Prop) (gd gr : Nat) (F : Nat → Prop) (x0 x1 x2 x3 x4 : Value) (w : World) (hp : PDskIn w X gd d) (hq : DskIn w Y gr e) (hd : ∀ k, X k → ¬ Y k) (hwd : Well d) (hwe : Well e)
    (ha : RepA w F a x0 x1 x2 x3 x4) (hF : ∀ k, F k → k < w.heap.size ∧ ¬ X k ∧ ¬ Y k) (_hu : Hid (D.used d.fs + a.bs.flatten.length ≤ 1099511627776 ∧ D.used e.fs + a.bs.flatten.length ≤ 1099511627776)) (hk : a.kind = 4) :
    Calls Try.prog 14 #[.agg #[x0, x1, x2, x3, x4], .pointer (some ⟨gd, 0, none⟩), .pointer (some ⟨gr, 0, none⟩)] w fun e' w' => e' = .returned (.bool ((act d a).1 == (act e a).1)) ∧ Both w X Y gd gr (act d a).2 (act e a).2 w' := by
  have ha1 := ha.2.2.1
  have ha2 := ha.2.2.2.2.1
  have ha4 := ha.2.2.2.2.2.2.2
  obtain ⟨na, nc, rfl, hnl⟩ := ha1.slice
  obtain ⟨ba, bc, rfl, hbl⟩ := ha2.slice
  obtain ⟨ka, kc, rfl, hkl⟩ := ha4.slice
  have hx0 := ha.1
  have hx3 := ha.2.2.2.2.2.1
  rw [hk] at hx0
  subst hx0 hx3
  obtain ⟨n1, hn1⟩ : ∃ n1, n1 = a.names.length := ⟨_, rfl⟩
  obtain ⟨n2, hn2⟩ : ∃ n2, n2 = a.bs.length := ⟨_, rfl⟩
  obtain ⟨n4, hn4⟩ : ∃ n4, n4 = a.keep.length := ⟨_, rfl⟩
  obtain ⟨n, hn⟩ : ∃ n, n = a.n := ⟨_, rfl⟩
  simp only [← hn1, ← hn2, ← hn4, ← hn] at ha ha1 ha2 ha4 ⊢
  have HA := Lib.hid ha
  have HN := Lib.hid hn
  have HP := Lib.hid hp
  have HQ := Lib.hid hq
  have HD := Lib.hid hd
  have HWD := Lib.hid hwd
  have HWE := Lib.hid hwe
  have HF := Lib.hid hF
  have HNM := Lib.hid (fun i => Ac.name_size (a := a) ha.2.2.2.1 i)
  have HN64 := Lib.hid ha.2.2.2.2.2.2.1
  obtain ⟨W, hW⟩ : ∃ W, W = w.alloc (.cells #[.int .i64 4, .slice na n1 nc, .slice ba n2 bc, .int .i64 n, .slice ka n4 kc] 39) := ⟨_, rfl⟩
  obtain ⟨g0, g1, g2, g3, g4⟩ := five_new w (.int .i64 4) (.slice na n1 nc) (.slice ba n2 bc) (.int .i64 n) (.slice ka n4 kc) 39 w.heap.size rfl
  rw [← hW] at g0 g1 g2 g3 g4
  have HB : Hid (Below w.heap.size w W) := Lib.hid (by rw [hW]; exact below_alloc _ _)
  have hzW : w.heap.size < W.heap.size := by rw [hW]; simp
  have hbx : ¬ (X w.heap.size ∨ Y w.heap.size) := fun h => by
    rcases h with h | h
    · exact absurd (hp.2 _ h) (Nat.lt_irrefl _)
    · exact absurd (hq.2 _ h) (Nat.lt_irrefl _)
  have HWE2 := Lib.hid hW
  obtain ⟨bx, hbxe⟩ : ∃ bx, bx = w.heap.size := ⟨_, rfl⟩
  rw [← hbxe] at g0 g1 g2 g3 g4 hbx hzW
  have HBX := Lib.hid hbxe
  clear ha ha1 ha2 ha4 hp hq hd hwd hwe hF hn1 hn2 hn4 hW hn hnl hbl hkl hbxe
  go_enter Try.func14, Try.ntmps14
  go_wp2_with fail
  rw [← HWE2.out, ← HBX.out]
  refine wp_region_held (S := fun w' => Only (fun j => X j ∨ Y j) W w') (by kernel_rfl) ?_
  have hS : Only (fun j => X j ∨ Y j) W W.drew := ⟨rfl, rfl, rfl, Nat.le_refl _, fun _ _ _ => rfl⟩
  have r0 : ∀ w', Only (fun j => X j ∨ Y j) W w' → w'.cell? ⟨bx, 0, none⟩ = some (.int .i64 4) := fun w' hw' => (cell_only hw' hzW hbx 0).trans g0
  have r1 : ∀ w', Only (fun j => X j ∨ Y j) W w' → w'.cell? ⟨bx, 1, none⟩ = some (.slice na n1 nc) := fun w' hw' => (cell_only hw' hzW hbx 1).trans g1
  have r2 : ∀ w', Only (fun j => X j ∨ Y j) W w' → w'.cell? ⟨bx, 2, none⟩ = some (.slice ba n2 bc) := fun w' hw' => (cell_only hw' hzW hbx 2).trans g2
  have r3 : ∀ w', Only (fun j => X j ∨ Y j) W w' → w'.cell? ⟨bx, 3, none⟩ = some (.int .i64 n) := fun w' hw' => (cell_only hw' hzW hbx 3).trans g3
  have r4 : ∀ w', Only (fun j => X j ∨ Y j) W w' → w'.cell? ⟨bx, 4, none⟩ = some (.slice ka n4 kc) := fun w' hw' => (cell_only hw' hzW hbx 4).trans g4
  clear g0 g1 g2 g3 g4
  have O0 : Hid (Only X w W.drew) := Lib.hid ((Only.of_below HB.out).then (show Only X W W.drew from ⟨rfl, rfl, rfl, Nat.le_refl _, fun _ _ _ => rfl⟩))
  have BW0 : Hid (Below w.heap.size w W.drew) := Lib.hid (HB.out.trans ⟨rfl, rfl, rfl, Nat.le_refl _, fun _ _ => rfl⟩)
  refine H_take (i := 0) (v := ?_) rfl (by as_aux_lemma => kernel_rfl) (by as_aux_lemma => kernel_rfl) (by as_aux_lemma => kernel_rfl) (fun _ _ _ h => h) (by rfl) hS ?_ ?_
  rotate_left
  · intro w' hw'; go_simp; with_reducible rfl
  go_simp
  refine H_take (i := 1) (v := ?_) rfl (by as_aux_lemma => kernel_rfl) (by as_aux_lemma => kernel_rfl) (by as_aux_lemma => kernel_rfl) (fun _ _ _ h => h) (by rfl) hS ?_ ?_
  rotate_left
  · intro w' hw'; go_simp; with_reducible rfl
  go_simp
  refine H_take (i := 3) (v := ?_) rfl (by as_aux_lemma => kernel_rfl) (by as_aux_lemma => kernel_rfl) (by as_aux_lemma => kernel_rfl) (fun _ _ _ h => h) (by rfl) hS ?_ ?_
  rotate_left
  · intro w' hw'; go_simp; with_reducible rfl
  go_simp
  refine H_take (i := 4) (v := ?_) rfl (by as_aux_lemma => kernel_rfl) (by as_aux_lemma => kernel_rfl) (by as_aux_lemma => kernel_rfl) (fun _ _ _ h => h) (by rfl) hS ?_ ?_
  rotate_left
  · intro w' hw'; go_simp; with_reducible rfl
  go_simp
  refine H_take (i := 6) (v := ?_) rfl (by as_aux_lemma => kernel_rfl) (by as_aux_lemma => kernel_rfl) (by as_aux_lemma => kernel_rfl) (fun _ _ _ h => h) (by rfl) hS ?_ ?_
  rotate_left
  · intro w' hw'; go_simp; with_reducible rfl
  go_simp
  refine H_take (i := 7) (v := ?_) rfl (by as_aux_lemma => kernel_rfl) (by as_aux_lemma => kernel_rfl) (by as_aux_lemma => kernel_rfl) (fun _ _ _ h => h) (by rfl) hS ?_ ?_
  rotate_left
  · intro w' hw'; go_simp; with_reducible rfl
  go_simp
  refine H_take (i := 9) (v := ?_) rfl (by as_aux_lemma => kernel_rfl) (by as_aux_lemma => kernel_rfl) (by as_aux_lemma => kernel_rfl) (fun _ _ _ h => h) (by rfl) hS ?_ ?_
  rotate_left
  · intro w' hw'; go_simp; with_reducible rfl
  go_simp
  refine H_take (i := 10) (v := ?_) rfl (by as_aux_lemma => kernel_rfl) (by as_aux_lemma => kernel_rfl) (by as_aux_lemma => kernel_rfl) (fun _ _ _ h => h) (by rfl) hS ?_ ?_
  rotate_left
  · intro w' hw'; go_simp; with_reducible rfl
  go_simp
  refine H_one (i := 2) (by as_aux_lemma => kernel_rfl) rfl (by rfl) ?_
  go_simp
  refine (ActName_at a F _ _ _ _ _ 0 _ (by rfl) _ (HA.out.same (fun _ h => h) fun k hk => O0.out.block k (HF.out k hk).1 (HF.out k hk).2.1) (fun k hk => Nat.lt_of_lt_of_le (HF.out k hk).1 O0.out.size)).mono ?_
  rintro e1 w1 ⟨rfl, b1⟩
  have S1 : Only (fun j => X j ∨ Y j) W w1 := hS.then (Only.of_below b1)
  have O1 : Hid (Only X w w1) := Lib.hid (O0.out.then (Only.of_below b1))
  have B1 := Lib.hid b1
  clear b1
  refine ⟨S1, ?_⟩
  go_simp
  refine H_one (i := 5) (by as_aux_lemma => kernel_rfl) rfl (by rfl) ?_
  go_simp
  refine (PCut_any d X gd (a.name 0) n w1 (HP.out.next (BW0.out.trans (B1.out.mono BW0.out.size))) HWD.out.1 (HNM.out 0) (HN.out ▸ HN64.out.1) (HN.out ▸ HN64.out.2)).mono ?_
  intro e2 w2 hpp
  have S2 : Only (fun j => X j ∨ Y j) W w2 := S1.then (hpp.2.1.mono fun _ h => .inl h)
  have O2 : Hid (Only X w w2) := Lib.hid (O1.out.then hpp.2.1)
  have HPP := Lib.hid hpp
  obtain ⟨rfl, -, -⟩ := hpp
  refine ⟨S2, ?_⟩
  go_simp
  refine H_one (i := 8) (by as_aux_lemma => kernel_rfl) rfl (by rfl) ?_
  go_simp
  refine (ActName_at a F _ _ _ _ _ 0 _ (by rfl) _ (HA.out.same (fun _ h => h) fun k hk => O2.out.block k (HF.out k hk).1 (HF.out k hk).2.1) (fun k hk => Nat.lt_of_lt_of_le (HF.out k hk).1 O2.out.size)).mono ?_
  rintro e3 w3 ⟨rfl, b3⟩
  have S3 : Only (fun j => X j ∨ Y j) W w3 := S2.then (Only.of_below b3)
  have O3 : Hid (Only X w w3) := Lib.hid (O2.out.then (Only.of_below b3))
  have B3 := Lib.hid b3
  clear b3
  refine ⟨S3, ?_⟩
  go_simp
  refine H_one (i := 11) (by as_aux_lemma => kernel_rfl) rfl (by rfl) ?_
  go_simp
  refine (RefCut_any e Y gr (a.name 0) n w3 (HQ.out.next O3.out HD.out) (Lib.hid HWE.out.1.1) (Lib.hid (HN.out ▸ HN64.out))).mono ?_
  rintro e4 w4 ⟨rfl, hro, hrd⟩
  have S4 : Only (fun j => X j ∨ Y j) W w4 := S3.then (hro.mono fun _ h => .inr h)
  have HBOTH : Hid (Both w X Y gd gr (act d a).2 (act e a).2 w4) := Lib.hid (by
    rw [act_4 hk d, act_4 hk e, ← HN.out]
    exact both_of HP.out.2 HQ.out.2 HD.out (BW0.out.trans (B1.out.mono BW0.out.size)) HPP.out B3.out hro hrd)
  clear hro hrd
  refine ⟨S4, ?_⟩
  go_simp
  refine H_take (i := 12) (v := ?_) rfl (by as_aux_lemma => kernel_rfl) (by as_aux_lemma => kernel_rfl) (by as_aux_lemma => kernel_rfl) (fun _ _ _ h => h) (by rfl) S4 ?_ ?_
  rotate_left
  · intro w' hw'; go_simp; with_reducible rfl
  go_simp
  refine H_take (i := 13) (v := ?_) rfl (by as_aux_lemma => kernel_rfl) (by as_aux_lemma => kernel_rfl) (by as_aux_lemma => kernel_rfl) (fun _ _ _ h => h) (by rfl) S4 ?_ ?_
  rotate_left
  · intro w' hw'; go_simp; with_reducible rfl
  go_simp
  refine wpAnyH_done (by as_aux_lemma => kernel_rfl) ?_ _
  clear r0 r1 r2 r3 r4
  go_wp2_with fail
  go_ret
  exact ⟨by rw [act_4 hk d, act_4 hk e, ← HN.out]; rfl, HBOTH.out⟩

set_option maxRecDepth 40000 in
set_option maxHeartbeats 6400000 in
theorem ActDo6 (a : Ac) (d e : Dk) (X Y : Nat → Prop) (gd gr : Nat) (F : Nat → Prop) (x0 x1 x2 x3 x4 : Value) (w : World) (hp : PDskIn w X gd d) (hq : DskIn w Y gr e) (hd : ∀ k, X k → ¬ Y k) (hwd : Well d) (hwe : Well e)
    (ha : RepA w F a x0 x1 x2 x3 x4) (hF : ∀ k, F k → k < w.heap.size ∧ ¬ X k ∧ ¬ Y k) (_hu : Hid (D.used d.fs + a.bs.flatten.length ≤ 1099511627776 ∧ D.used e.fs + a.bs.flatten.length ≤ 1099511627776)) (hk : a.kind = 6) :
    Calls Try.prog 14 #[.agg #[x0, x1, x2, x3, x4], .pointer (some ⟨gd, 0, none⟩), .pointer (some ⟨gr, 0, none⟩)] w fun e' w' => e' = .returned (.bool ((act d a).1 == (act e a).1)) ∧ Both w X Y gd gr (act d a).2 (act e a).2 w' := by
  have ha1 := ha.2.2.1
  have ha2 := ha.2.2.2.2.1
  have ha4 := ha.2.2.2.2.2.2.2
  obtain ⟨na, nc, rfl, hnl⟩ := ha1.slice
  obtain ⟨ba, bc, rfl, hbl⟩ := ha2.slice
  obtain ⟨ka, kc, rfl, hkl⟩ := ha4.slice
  have hx0 := ha.1
  have hx3 := ha.2.2.2.2.2.1
  rw [hk] at hx0
  subst hx0 hx3
  obtain ⟨n1, hn1⟩ : ∃ n1, n1 = a.names.length := ⟨_, rfl⟩
  obtain ⟨n2, hn2⟩ : ∃ n2, n2 = a.bs.length := ⟨_, rfl⟩
  obtain ⟨n4, hn4⟩ : ∃ n4, n4 = a.keep.length := ⟨_, rfl⟩
  obtain ⟨n, hn⟩ : ∃ n, n = a.n := ⟨_, rfl⟩
  simp only [← hn1, ← hn2, ← hn4, ← hn] at ha ha1 ha2 ha4 ⊢
  have HA := Lib.hid ha
  have HN := Lib.hid hn
  have HP := Lib.hid hp
  have HQ := Lib.hid hq
  have HD := Lib.hid hd
  have HWD := Lib.hid hwd
  have HWE := Lib.hid hwe
  have HF := Lib.hid hF
  have HNM := Lib.hid (fun i => Ac.name_size (a := a) ha.2.2.2.1 i)
  have HN64 := Lib.hid ha.2.2.2.2.2.2.1
  obtain ⟨W, hW⟩ : ∃ W, W = w.alloc (.cells #[.int .i64 6, .slice na n1 nc, .slice ba n2 bc, .int .i64 n, .slice ka n4 kc] 39) := ⟨_, rfl⟩
  obtain ⟨g0, g1, g2, g3, g4⟩ := five_new w (.int .i64 6) (.slice na n1 nc) (.slice ba n2 bc) (.int .i64 n) (.slice ka n4 kc) 39 w.heap.size rfl
  rw [← hW] at g0 g1 g2 g3 g4
  have HB : Hid (Below w.heap.size w W) := Lib.hid (by rw [hW]; exact below_alloc _ _)
  have hzW : w.heap.size < W.heap.size := by rw [hW]; simp
  have hbx : ¬ (X w.heap.size ∨ Y w.heap.size) := fun h => by
    rcases h with h | h
    · exact absurd (hp.2 _ h) (Nat.lt_irrefl _)
    · exact absurd (hq.2 _ h) (Nat.lt_irrefl _)
  have HWE2 := Lib.hid hW
  obtain ⟨bx, hbxe⟩ : ∃ bx, bx = w.heap.size := ⟨_, rfl⟩
  rw [← hbxe] at g0 g1 g2 g3 g4 hbx hzW
  have HBX := Lib.hid hbxe
  clear ha ha1 ha2 ha4 hp hq hd hwd hwe hF hn1 hn2 hn4 hW hn hnl hbl hkl hbxe
  go_enter Try.func14, Try.ntmps14
  go_wp2_with fail
  rw [← HWE2.out, ← HBX.out]
  refine (PStop_any d X gd W n (HP.out.next HB.out).1 (HN.out ▸ HN64.out)).mono ?_
  rintro e1 w2 ⟨rfl, ho, hd2, hz2⟩
  have r3 : w2.cell? ⟨bx, 3, none⟩ = some (.int .i64 n) := (cell_only ho hzW (fun h => hbx (.inl h)) 3).trans g3
  have O2 : Hid (Only X w w2) := Lib.hid ((Only.of_below HB.out).then ho)
  have HPP : Hid (PPost W X gd (0, D.stop d n) (.returned (.int .i64 0)) w2) := Lib.hid ⟨rfl, ho, hd2.up⟩
  have hz3 : bx < w2.heap.size := by rw [hz2]; exact hzW
  clear g0 g1 g2 g3 g4 ho hd2 hz2
  go_wp2_with fail
  refine (RefStop_any e Y gr n w2 (HQ.out.next O2.out HD.out).1 (Lib.hid (HN.out ▸ HN64.out))).mono ?_
  rintro e2 w3 ⟨rfl, hro, hrd, -⟩
  replace hrd := hrd.up (w := w2)
  have HBOTH : Hid (Both w X Y gd gr (act d a).2 (act e a).2 w3) := Lib.hid (by
    rw [act_6 hk d, act_6 hk e, ← HN.out]
    exact both_of (r2 := (0, D.stop e n)) HP.out.2 HQ.out.2 HD.out HB.out HPP.out (Below.refl _ _) hro hrd)
  clear hro hrd r3
  go_wp2_with fail
  go_ret
  exact ⟨by rw [act_6 hk d, act_6 hk e]; rfl, HBOTH.out⟩

set_option maxRecDepth 40000 in
set_option maxHeartbeats 6400000 in
theorem ActDo7 (a : Ac) (d e : Dk) (X Y : Nat → Prop) (gd gr : Nat) (F : Nat → Prop) (x0 x1 x2 x3 x4 : Value) (w : World) (hp : PDskIn w X gd d) (hq : DskIn w Y gr e) (hd : ∀ k, X k → ¬ Y k) (hwd : Well d) (hwe : Well e)
    (ha : RepA w F a x0 x1 x2 x3 x4) (hF : ∀ k, F k → k < w.heap.size ∧ ¬ X k ∧ ¬ Y k) (_hu : Hid (D.used d.fs + a.bs.flatten.length ≤ 1099511627776 ∧ D.used e.fs + a.bs.flatten.length ≤ 1099511627776)) (hk : a.kind < 0 ∨ 6 < a.kind) :
    Calls Try.prog 14 #[.agg #[x0, x1, x2, x3, x4], .pointer (some ⟨gd, 0, none⟩), .pointer (some ⟨gr, 0, none⟩)] w fun e' w' => e' = .returned (.bool ((act d a).1 == (act e a).1)) ∧ Both w X Y gd gr (act d a).2 (act e a).2 w' := by
  have ha1 := ha.2.2.1
  have ha2 := ha.2.2.2.2.1
  have ha4 := ha.2.2.2.2.2.2.2
  obtain ⟨na, nc, rfl, hnl⟩ := ha1.slice
  obtain ⟨ba, bc, rfl, hbl⟩ := ha2.slice
  obtain ⟨ka, kc, rfl, hkl⟩ := ha4.slice
  have hx0 := ha.1
  have hx3 := ha.2.2.2.2.2.1
  subst hx0 hx3
  obtain ⟨kk, hkk⟩ : ∃ kk, kk = a.kind := ⟨_, rfl⟩
  have c0 : (kk == 0) = false := beq_eq_false_iff_ne.2 (by omega)
  have c1 : (kk == 1) = false := beq_eq_false_iff_ne.2 (by omega)
  have c2 : (kk == 2) = false := beq_eq_false_iff_ne.2 (by omega)
  have c3 : (kk == 3) = false := beq_eq_false_iff_ne.2 (by omega)
  have c4 : (kk == 4) = false := beq_eq_false_iff_ne.2 (by omega)
  have c5 : (kk == 5) = false := beq_eq_false_iff_ne.2 (by omega)
  have c6 : (kk == 6) = false := beq_eq_false_iff_ne.2 (by omega)
  obtain ⟨n1, hn1⟩ : ∃ n1, n1 = a.names.length := ⟨_, rfl⟩
  obtain ⟨n2, hn2⟩ : ∃ n2, n2 = a.bs.length := ⟨_, rfl⟩
  obtain ⟨n4, hn4⟩ : ∃ n4, n4 = a.keep.length := ⟨_, rfl⟩
  obtain ⟨n, hn⟩ : ∃ n, n = a.n := ⟨_, rfl⟩
  simp only [← hn1, ← hn2, ← hn4, ← hn, ← hkk] at ha ha1 ha2 ha4 ⊢
  have HA := Lib.hid ha
  have HN := Lib.hid hn
  have HP := Lib.hid hp
  have HQ := Lib.hid hq
  have HD := Lib.hid hd
  have HWD := Lib.hid hwd
  have HWE := Lib.hid hwe
  have HF := Lib.hid hF
  have HNM := Lib.hid (fun i => Ac.name_size (a := a) ha.2.2.2.1 i)
  have HN64 := Lib.hid ha.2.2.2.2.2.2.1
  obtain ⟨W, hW⟩ : ∃ W, W = w.alloc (.cells #[.int .i64 kk, .slice na n1 nc, .slice ba n2 bc, .int .i64 n, .slice ka n4 kc] 39) := ⟨_, rfl⟩
  obtain ⟨g0, g1, g2, g3, g4⟩ := five_new w (.int .i64 kk) (.slice na n1 nc) (.slice ba n2 bc) (.int .i64 n) (.slice ka n4 kc) 39 w.heap.size rfl
  rw [← hW] at g0 g1 g2 g3 g4
  have HB : Hid (Below w.heap.size w W) := Lib.hid (by rw [hW]; exact below_alloc _ _)
  have hzW : w.heap.size < W.heap.size := by rw [hW]; simp
  have hbx : ¬ (X w.heap.size ∨ Y w.heap.size) := fun h => by
    rcases h with h | h
    · exact absurd (hp.2 _ h) (Nat.lt_irrefl _)
    · exact absurd (hq.2 _ h) (Nat.lt_irrefl _)
  have HWE2 := Lib.hid hW
  obtain ⟨bx, hbxe⟩ : ∃ bx, bx = w.heap.size := ⟨_, rfl⟩
  rw [← hbxe] at g0 g1 g2 g3 g4 hbx hzW
  have HBX := Lib.hid hbxe
  clear ha ha1 ha2 ha4 hp hq hd hwd hwe hF hn1 hn2 hn4 hW hn hnl hbl hkl hbxe hkk
  go_enter Try.func14, Try.ntmps14
  go_wp2_with fail
  go_ret
  rw [← HWE2.out]
  refine ⟨by rw [act_else hk d, act_else hk e]; simp, ?_⟩
  rw [act_else hk d, act_else hk e]
  exact ⟨(Only.of_below HB.out).mono fun _ h => h, X, Y, fun _ h => .inl h, fun _ h => .inl h, HD.out, HP.out.next HB.out, HQ.out.next (X := fun _ => False) (Only.of_below HB.out) fun _ h => h.elim⟩

theorem ActDo_any (a : Ac) (d e : Dk) (X Y : Nat → Prop) (gd gr : Nat) (F : Nat → Prop) (x0 x1 x2 x3 x4 : Value) (w : World) (hp : PDskIn w X gd d) (hq : DskIn w Y gr e) (hd : ∀ k, X k → ¬ Y k) (hwd : Well d) (hwe : Well e)
    (ha : RepA w F a x0 x1 x2 x3 x4) (hF : ∀ k, F k → k < w.heap.size ∧ ¬ X k ∧ ¬ Y k) (hu : Hid (D.used d.fs + a.bs.flatten.length ≤ 1099511627776 ∧ D.used e.fs + a.bs.flatten.length ≤ 1099511627776)) :
    Calls Try.prog 14 #[.agg #[x0, x1, x2, x3, x4], .pointer (some ⟨gd, 0, none⟩), .pointer (some ⟨gr, 0, none⟩)] w fun e' w' => e' = .returned (.bool ((act d a).1 == (act e a).1)) ∧ Both w X Y gd gr (act d a).2 (act e a).2 w' := by
  rcases (show a.kind = 0 ∨ a.kind = 1 ∨ a.kind = 2 ∨ a.kind = 3 ∨ a.kind = 4 ∨ a.kind = 5 ∨ a.kind = 6 ∨ (a.kind < 0 ∨ 6 < a.kind) by omega) with h | h | h | h | h | h | h | h
  · exact ActDo0 a d e X Y gd gr F x0 x1 x2 x3 x4 w hp hq hd hwd hwe ha hF hu h
  · exact ActDo1 a d e X Y gd gr F x0 x1 x2 x3 x4 w hp hq hd hwd hwe ha hF hu h
  · exact ActDo2 a d e X Y gd gr F x0 x1 x2 x3 x4 w hp hq hd hwd hwe ha hF hu h
  · exact ActDo3 a d e X Y gd gr F x0 x1 x2 x3 x4 w hp hq hd hwd hwe ha hF hu h
  · exact ActDo4 a d e X Y gd gr F x0 x1 x2 x3 x4 w hp hq hd hwd hwe ha hF hu h
  · exact ActDo5 a d e X Y gd gr F x0 x1 x2 x3 x4 w hp hq hd hwd hwe ha hF hu h
  · exact ActDo6 a d e X Y gd gr F x0 x1 x2 x3 x4 w hp hq hd hwd hwe ha hF hu h
  · exact ActDo7 a d e X Y gd gr F x0 x1 x2 x3 x4 w hp hq hd hwd hwe ha hF hu h
end Go.Proofs.Ytgiipkmkmomofaa.M
