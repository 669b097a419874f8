/- An act on the program's disk, and on the document's. -/
import Derived.Test.YtgiipkmkmomofaaActDo0
namespace Go.Proofs.Ytgiipkmkmomofaa.M
open Go.RowKit Go.Maps
open D (Fl Dk)

theorem act_0 {a : Ac} (hk : a.kind = 0) (d : Dk) : act d a = D.append d (a.name 0) a.bs := by unfold act; rw [ if_pos hk]

theorem act_1 {a : Ac} (hk : a.kind = 1) (d : Dk) : act d a = D.sync d a.names := by unfold act; rw [if_neg (by omega : ¬ a.kind = 0), if_pos hk]

theorem act_2 {a : Ac} (hk : a.kind = 2) (d : Dk) : act d a = D.rename d (a.name 0) (a.name 1) := by unfold act; rw [if_neg (by omega : ¬ a.kind = 0), if_neg (by omega : ¬ a.kind = 1), if_pos hk]

theorem act_3 {a : Ac} (hk : a.kind = 3) (d : Dk) : act d a = D.remove d a.names := by unfold act; rw [if_neg (by omega : ¬ a.kind = 0), if_neg (by omega : ¬ a.kind = 1), if_neg (by omega : ¬ a.kind = 2), if_pos hk]

theorem act_4 {a : Ac} (hk : a.kind = 4) (d : Dk) : act d a = D.cut d (a.name 0) a.n := by unfold act; rw [if_neg (by omega : ¬ a.kind = 0), if_neg (by omega : ¬ a.kind = 1), if_neg (by omega : ¬ a.kind = 2), if_neg (by omega : ¬ a.kind = 3), if_pos hk]

theorem act_5 {a : Ac} (hk : a.kind = 5) (d : Dk) : act d a = ((((D.crash d a.keep).1 : Nat) : Int), (D.crash d a.keep).2) := by unfold act; rw [if_neg (by omega : ¬ a.kind = 0), if_neg (by omega : ¬ a.kind = 1), if_neg (by omega : ¬ a.kind = 2), if_neg (by omega : ¬ a.kind = 3), if_neg (by omega : ¬ a.kind = 4), if_pos hk]

theorem act_6 {a : Ac} (hk : a.kind = 6) (d : Dk) : act d a = (0, D.stop d a.n) := by unfold act; rw [if_neg (by omega : ¬ a.kind = 0), if_neg (by omega : ¬ a.kind = 1), if_neg (by omega : ¬ a.kind = 2), if_neg (by omega : ¬ a.kind = 3), if_neg (by omega : ¬ a.kind = 4), if_neg (by omega : ¬ a.kind = 5), if_pos hk]

theorem act_else {a : Ac} (hk : a.kind < 0 ∨ 6 < a.kind) (d : Dk) : act d a = (0, d) := by unfold act; rw [if_neg (by omega : ¬ a.kind = 0), if_neg (by omega : ¬ a.kind = 1), if_neg (by omega : ¬ a.kind = 2), if_neg (by omega : ¬ a.kind = 3), if_neg (by omega : ¬ a.kind = 4), if_neg (by omega : ¬ a.kind = 5), if_neg (by omega : ¬ a.kind = 6)]

theorem ActName_at (a : Ac) (F : Nat → Prop) (x0 x1 x2 x3 x4 : Value) (i : Nat) (z : Int) (hz : z = (i : Int)) (w : World) (h : RepA w F a x0 x1 x2 x3 x4) (hF : ∀ k, F k → k < w.heap.size) :
    Calls Try.prog 28 #[.agg #[x0, x1, x2, x3, x4], .int .i64 z] w fun e w' => e = .returned (.string (a.name i)) ∧ Below w.heap.size w w' := by
  subst hz
  exact ActName_any a F x0 x1 x2 x3 x4 i w h hF

set_option maxRecDepth 40000 in
set_option maxHeartbeats 6400000 in
theorem ActDo0 (a : Ac) (d e : Dk) (X Y : Nat → Prop) (gd gr : Nat) (F : Nat → Prop) (x0 x1 x2 x3 x4 : Value) (w : World) (hp : PDskIn w X gd d) (hq : DskIn w Y gr e) (hd : ∀ k, X k → ¬ Y k) (hwd : Well d) (hwe : Well e)
    (ha : RepA w F a x0 x1 x2 x3 x4) (hF : ∀ k, F k → k < w.heap.size ∧ ¬ X k ∧ ¬ Y k) (hu : Hid (D.used d.fs + a.bs.flatten.length ≤ 1099511627776 ∧ D.used e.fs + a.bs.flatten.length ≤ 1099511627776)) (hk : a.kind = 0) :
    Calls Try.prog 14 #[.agg #[x0, x1, x2, x3, x4], .pointer (some ⟨gd, 0, none⟩), .pointer (some ⟨gr, 0, none⟩)] w fun e' w' => e' = .returned (.bool ((act d a).1 == (act e a).1)) ∧ Both w X Y gd gr (act d a).2 (act e a).2 w' := by
  have ha1 := ha.2.2.1
  have ha2 := ha.2.2.2.2.1
  have ha4 := ha.2.2.2.2.2.2.2
  obtain ⟨na, nc, rfl, hnl⟩ := ha1.slice
  obtain ⟨ba, bc, rfl, hbl⟩ := ha2.slice
  obtain ⟨ka, kc, rfl, hkl⟩ := ha4.slice
  have hx0 := ha.1
  have hx3 := ha.2.2.2.2.2.1
  rw [hk] at hx0
  subst hx0 hx3
  obtain ⟨n1, hn1⟩ : ∃ n1, n1 = a.names.length := ⟨_, rfl⟩
  obtain ⟨n2, hn2⟩ : ∃ n2, n2 = a.bs.length := ⟨_, rfl⟩
  obtain ⟨n4, hn4⟩ : ∃ n4, n4 = a.keep.length := ⟨_, rfl⟩
  obtain ⟨n, hn⟩ : ∃ n, n = a.n := ⟨_, rfl⟩
  simp only [← hn1, ← hn2, ← hn4, ← hn] at ha ha1 ha2 ha4 ⊢
  have HA := Lib.hid ha
  have HN := Lib.hid hn
  have HP := Lib.hid hp
  have HQ := Lib.hid hq
  have HD := Lib.hid hd
  have HWD := Lib.hid hwd
  have HWE := Lib.hid hwe
  have HF := Lib.hid hF
  have HNM := Lib.hid (fun i => Ac.name_size (a := a) ha.2.2.2.1 i)
  have HN64 := Lib.hid ha.2.2.2.2.2.2.1
  obtain ⟨W, hW⟩ : ∃ W, W = w.alloc (.cells #[.int .i64 0, .slice na n1 nc, .slice ba n2 bc, .int .i64 n, .slice ka n4 kc] 39) := ⟨_, rfl⟩
  obtain ⟨g0, g1, g2, g3, g4⟩ := five_new w (.int .i64 0) (.slice na n1 nc) (.slice ba n2 bc) (.int .i64 n) (.slice ka n4 kc) 39 w.heap.size rfl
  rw [← hW] at g0 g1 g2 g3 g4
  have HB : Hid (Below w.heap.size w W) := Lib.hid (by rw [hW]; exact below_alloc _ _)
  have hzW : w.heap.size < W.heap.size := by rw [hW]; simp
  have hbx : ¬ (X w.heap.size ∨ Y w.heap.size) := fun h => by
    rcases h with h | h
    · exact absurd (hp.2 _ h) (Nat.lt_irrefl _)
    · exact absurd (hq.2 _ h) (Nat.lt_irrefl _)
  have HWE2 := Lib.hid hW
  obtain ⟨bx, hbxe⟩ : ∃ bx, bx = w.heap.size := ⟨_, rfl⟩
  rw [← hbxe] at g0 g1 g2 g3 g4 hbx hzW
  have HBX := Lib.hid hbxe
  clear ha ha1 ha2 ha4 hp hq hd hwd hwe hF hn1 hn2 hn4 hW hn hnl hbl hkl hbxe
  go_enter Try.func14, Try.ntmps14
  go_wp2_with fail
  rw [← HWE2.out, ← HBX.out]
  refine wp_region_held (S := fun w' => Only (fun j => X j ∨ Y j) W w') (by kernel_rfl) ?_
  have hS : Only (fun j => X j ∨ Y j) W W.drew := ⟨rfl, rfl, rfl, Nat.le_refl _, fun _ _ _ => rfl⟩
  have r0 : ∀ w', Only (fun j => X j ∨ Y j) W w' → w'.cell? ⟨bx, 0, none⟩ = some (.int .i64 0) := fun w' hw' => (cell_only hw' hzW hbx 0).trans g0
  have r1 : ∀ w', Only (fun j => X j ∨ Y j) W w' → w'.cell? ⟨bx, 1, none⟩ = some (.slice na n1 nc) := fun w' hw' => (cell_only hw' hzW hbx 1).trans g1
  have r2 : ∀ w', Only (fun j => X j ∨ Y j) W w' → w'.cell? ⟨bx, 2, none⟩ = some (.slice ba n2 bc) := fun w' hw' => (cell_only hw' hzW hbx 2).trans g2
  have r3 : ∀ w', Only (fun j => X j ∨ Y j) W w' → w'.cell? ⟨bx, 3, none⟩ = some (.int .i64 n) := fun w' hw' => (cell_only hw' hzW hbx 3).trans g3
  have r4 : ∀ w', Only (fun j => X j ∨ Y j) W w' → w'.cell? ⟨bx, 4, none⟩ = some (.slice ka n4 kc) := fun w' hw' => (cell_only hw' hzW hbx 4).trans g4
  clear g0 g1 g2 g3 g4
  have O0 : Hid (Only X w W.drew) := Lib.hid ((Only.of_below HB.out).then (show Only X W W.drew from ⟨rfl, rfl, rfl, Nat.le_refl _, fun _ _ _ => rfl⟩))
  have BW0 : Hid (Below w.heap.size w W.drew) := Lib.hid (HB.out.trans ⟨rfl, rfl, rfl, Nat.le_refl _, fun _ _ => rfl⟩)
  refine H_take (i := 0) (v := ?_) rfl (by as_aux_lemma => kernel_rfl) (by as_aux_lemma => kernel_rfl) (by as_aux_lemma => kernel_rfl) (fun _ _ _ h => h) (by rfl) hS ?_ ?_
  rotate_left
  · intro w' hw'; go_simp; with_reducible rfl
  go_simp
  refine H_take (i := 1) (v := ?_) rfl (by as_aux_lemma => kernel_rfl) (by as_aux_lemma => kernel_rfl) (by as_aux_lemma => kernel_rfl) (fun _ _ _ h => h) (by rfl) hS ?_ ?_
  rotate_left
  · intro w' hw'; go_simp; with_reducible rfl
  go_simp
  refine H_take (i := 3) (v := ?_) rfl (by as_aux_lemma => kernel_rfl) (by as_aux_lemma => kernel_rfl) (by as_aux_lemma => kernel_rfl) (fun _ _ _ h => h) (by rfl) hS ?_ ?_
  rotate_left
  · intro w' hw'; go_simp; with_reducible rfl
  go_simp
  refine H_take (i := 4) (v := ?_) rfl (by as_aux_lemma => kernel_rfl) (by as_aux_lemma => kernel_rfl) (by as_aux_lemma => kernel_rfl) (fun _ _ _ h => h) (by rfl) hS ?_ ?_
  rotate_left
  · intro w' hw'; go_simp; with_reducible rfl
  go_simp
  refine H_take (i := 6) (v := ?_) rfl (by as_aux_lemma => kernel_rfl) (by as_aux_lemma => kernel_rfl) (by as_aux_lemma => kernel_rfl) (fun _ _ _ h => h) (by rfl) hS ?_ ?_
  rotate_left
  · intro w' hw'; go_simp; with_reducible rfl
  go_simp
  refine H_take (i := 7) (v := ?_) rfl (by as_aux_lemma => kernel_rfl) (by as_aux_lemma => kernel_rfl) (by as_aux_lemma => kernel_rfl) (fun _ _ _ h => h) (by rfl) hS ?_ ?_
  rotate_left
  · intro w' hw'; go_simp; with_reducible rfl
  go_simp
  refine H_take (i := 9) (v := ?_) rfl (by as_aux_lemma => kernel_rfl) (by as_aux_lemma => kernel_rfl) (by as_aux_lemma => kernel_rfl) (fun _ _ _ h => h) (by rfl) hS ?_ ?_
  rotate_left
  · intro w' hw'; go_simp; with_reducible rfl
  go_simp
  refine H_take (i := 10) (v := ?_) rfl (by as_aux_lemma => kernel_rfl) (by as_aux_lemma => kernel_rfl) (by as_aux_lemma => kernel_rfl) (fun _ _ _ h => h) (by rfl) hS ?_ ?_
  rotate_left
  · intro w' hw'; go_simp; with_reducible rfl
  go_simp
  refine H_one (i := 2) (by as_aux_lemma => kernel_rfl) rfl (by rfl) ?_
  go_simp
  refine (ActName_at a F _ _ _ _ _ 0 _ (by rfl) _ (HA.out.same (fun _ h => h) fun k hk => O0.out.block k (HF.out k hk).1 (HF.out k hk).2.1) (fun k hk => Nat.lt_of_lt_of_le (HF.out k hk).1 O0.out.size)).mono ?_
  rintro e1 w1 ⟨rfl, b1⟩
  have S1 : Only (fun j => X j ∨ Y j) W w1 := hS.then (Only.of_below b1)
  have O1 : Hid (Only X w w1) := Lib.hid (O0.out.then (Only.of_below b1))
  have B1 := Lib.hid b1
  clear b1
  refine ⟨S1, ?_⟩
  go_simp
  refine H_one (i := 5) (by as_aux_lemma => kernel_rfl) rfl (by rfl) ?_
  go_simp
  refine (PAppend_any d X gd (a.name 0) a.bs F _ w1 (HP.out.next (BW0.out.trans (B1.out.mono BW0.out.size))) HWD.out.1 (HNM.out 0) (HA.out.2.2.2.2.1.same (fun _ h => h) (fun k hk => O1.out.block k (HF.out k hk).1 (HF.out k hk).2.1)) (fun k hk => ⟨Nat.lt_of_lt_of_le (HF.out k hk).1 O1.out.size, (HF.out k hk).2.1⟩) hu.out.1).mono ?_
  intro e2 w2 hpp
  have S2 : Only (fun j => X j ∨ Y j) W w2 := S1.then (hpp.2.1.mono fun _ h => .inl h)
  have O2 : Hid (Only X w w2) := Lib.hid (O1.out.then hpp.2.1)
  have HPP := Lib.hid hpp
  obtain ⟨rfl, -, -⟩ := hpp
  refine ⟨S2, ?_⟩
  go_simp
  refine H_one (i := 8) (by as_aux_lemma => kernel_rfl) rfl (by rfl) ?_
  go_simp
  refine (ActName_at a F _ _ _ _ _ 0 _ (by rfl) _ (HA.out.same (fun _ h => h) fun k hk => O2.out.block k (HF.out k hk).1 (HF.out k hk).2.1) (fun k hk => Nat.lt_of_lt_of_le (HF.out k hk).1 O2.out.size)).mono ?_
  rintro e3 w3 ⟨rfl, b3⟩
  have S3 : Only (fun j => X j ∨ Y j) W w3 := S2.then (Only.of_below b3)
  have O3 : Hid (Only X w w3) := Lib.hid (O2.out.then (Only.of_below b3))
  have B3 := Lib.hid b3
  clear b3
  refine ⟨S3, ?_⟩
  go_simp
  refine H_one (i := 11) (by as_aux_lemma => kernel_rfl) rfl (by rfl) ?_
  go_simp
  refine (RefAppend_any e Y gr (a.name 0) a.bs F _ w3 (HQ.out.next O3.out HD.out) (Lib.hid HWE.out.1.1) (HNM.out 0) (HA.out.2.2.2.2.1.same (fun _ h => h) (fun k hk => O3.out.block k (HF.out k hk).1 (HF.out k hk).2.1)) (fun k hk => ⟨Nat.lt_of_lt_of_le (HF.out k hk).1 O3.out.size, (HF.out k hk).2.2⟩) (Lib.hid hu.out.2)).mono ?_
  rintro e4 w4 ⟨rfl, hro, hrd⟩
  have S4 : Only (fun j => X j ∨ Y j) W w4 := S3.then (hro.mono fun _ h => .inr h)
  have HBOTH : Hid (Both w X Y gd gr (act d a).2 (act e a).2 w4) := Lib.hid (by
    rw [act_0 hk d, act_0 hk e]
    exact both_of HP.out.2 HQ.out.2 HD.out (BW0.out.trans (B1.out.mono BW0.out.size)) HPP.out B3.out hro hrd)
  clear hro hrd
  refine ⟨S4, ?_⟩
  go_simp
  refine H_take (i := 12) (v := ?_) rfl (by as_aux_lemma => kernel_rfl) (by as_aux_lemma => kernel_rfl) (by as_aux_lemma => kernel_rfl) (fun _ _ _ h => h) (by rfl) S4 ?_ ?_
  rotate_left
  · intro w' hw'; go_simp; with_reducible rfl
  go_simp
  refine H_take (i := 13) (v := ?_) rfl (by as_aux_lemma => kernel_rfl) (by as_aux_lemma => kernel_rfl) (by as_aux_lemma => kernel_rfl) (fun _ _ _ h => h) (by rfl) S4 ?_ ?_
  rotate_left
  · intro w' hw'; go_simp; with_reducible rfl
  go_simp
  refine wpAnyH_done (by as_aux_lemma => kernel_rfl) ?_ _
  clear r0 r1 r2 r3 r4
  go_wp2_with fail
  go_ret
  exact ⟨by rw [act_0 hk d, act_0 hk e]; rfl, HBOTH.out⟩

end Go.Proofs.Ytgiipkmkmomofaa.M
