/- The document's Take. Written by tools/gen-chr8.py. -/
import Derived.Test.YtdngfbljcmbniaaDoorCN20
import Derived.Deep.CutRange
namespace Go.Proofs.YtdngfbljcmbniaaDoor.M
open Go.RowKit Go.Maps

/-- What stands once it is known whether a piece goes with the others. -/
def RTMid (w W1 : World) (Y : Nat → Prop) (z gr : Nat) (most : Int) (L0 : List Pc) (box : Obj) (w' : World) : Prop :=
  ∃ Y0, RH Y0 z gr most L0 w' ∧ (∀ j, Y0 j → Y j) ∧ Only Y W1 w' ∧ w'.heap[w.heap.size]? = some box

/-- An append at a step of a region, whose run is known. -/
theorem wp_append_run7 {P : Program} {w : World} {o : Oper} {a : Act} {K : Act → World → Prop} {Q : Exit → Act → World → Prop} (s y : Operand) (t : TypeId)
    (ho : o.op = .call { callee := .builtin .append, args := #[s, y], argTypes := #[t, t] }) (v x v' : Value) (w' : World) (hs : a.eval s = v) (hy : a.eval y = x)
    (hr : (Builtin.append_ #[t, t] o.type #[v, x]).run P w = .ok v' w') (h : K (a.put o.dst v') w') : o.wp P a w K Q := by
  unfold Oper.wp execOp
  simp only [ho, resolve, invoke, builtin, Sem.run_bind, Sem.run_pure, Result.andThen_ok, List.map_toArray, List.map_cons, List.map_nil, hs, hy, hr]
  exact h

theorem u8_eq {a b : UInt8} : ((a.toNat : Int) != (b.toNat : Int)) = decide (a ≠ b) := by
  by_cases h : a = b
  · subst h; simp
  · have : a.toNat ≠ b.toNat := fun e => h (UInt8.toNat_inj.1 e)
    rw [decide_eq_true h]
    simp
    omega

set_option maxRecDepth 100000 in
set_option maxHeartbeats 16000000 in
theorem RefTake7_any (Y : Nat → Prop) (z gr : Nat) (most : Int) (L : List Pc) (i t s o q : Int) (b : List UInt8) (F : Nat → Prop) (a : Option Addr) (c : Nat) (w : World) (h : RH Y z gr most L w) (hzw : z ≤ w.heap.size) (hinv : ∀ x ∈ L, Fine7 x) (hv : RepB w F b (.slice a b.length c)) (hF : ∀ k, F k → k < w.heap.size ∧ ¬ Y k)
    (hb : b.length ≤ 1000 ∧ o ≤ 1000) (hL : L.length ≤ 1000) :
    Calls Tryd.prog 12 #[.pointer (some ⟨gr, 0, none⟩), pcAgg ⟨i, t, s, o, q, b⟩ (.slice a b.length c)] w (RTPost w Y z gr most L ⟨i, t, s, o, q, b⟩) := by
  unfold pcAgg
  simp only
  obtain ⟨n, hn⟩ : ∃ n, n = b.length := ⟨_, rfl⟩
  obtain ⟨W1, hW1⟩ : ∃ W1, W1 = w.alloc (.cells #[.int .i64 i, .int .i64 t, .int .u32 s, .int .i64 o, .int .i64 q, .slice a n c] 35) := ⟨_, rfl⟩
  have hb1 : Below w.heap.size w W1 := by rw [hW1]; exact below_alloc _ _
  have hx1 : W1.heap[w.heap.size]? = some (.cells #[.int .i64 i, .int .i64 t, .int .u32 s, .int .i64 o, .int .i64 q, .slice a n c] 35) := by rw [hW1]; exact heap_new _ _ _ rfl
  have hr1 := h.next hb1
  obtain ⟨ok, hok⟩ : ∃ ok, ok = okPc most ⟨i, t, s, o, q, b⟩ := ⟨_, rfl⟩
  obtain ⟨om, hom⟩ : ∃ om, om = okMark i t := ⟨_, rfl⟩
  have HOK0 : Hid (ok = (om && decide (0 ≤ o ∧ o ≤ most ∧ (n = 0 ↔ o = 0) ∧ 0 ≤ q ∧ q + (n : Int) ≤ o))) := Lib.hid (by rw [hok, hom, hn]; rfl)
  have HRR : Hid (∀ W', Calls Tryd.prog 22 #[mkAgg i t] W' fun e w' => e = .returned (.bool om) ∧ Below W'.heap.size W' w') := Lib.hid fun W' => by rw [hom]; exact RefRight7_any i t W'
  unfold mkAgg at HRR
  have HVW : Hid (∀ W, Below W1.heap.size W1 W → RepB W F b (.slice a n c)) := Lib.hid fun W hbW => by rw [hn]; exact hv.same (fun _ h => h) fun k hk => (hbW.block k (Nat.lt_of_lt_of_le (hF k hk).1 hb1.size)).trans (hb1.block k (hF k hk).1)
  have hbx := six_cells hx1
  obtain ⟨x0, x1, x2, x3, x4, x5, xz⟩ := hbx
  obtain ⟨aL, cL, ⟨c0, c1, cz⟩, -⟩ := hr1.cells
  have HXC : Hid (∀ W', Below W1.heap.size W1 W' → W'.heap[w.heap.size]? = some (.cells #[.int .i64 i, .int .i64 t, .int .u32 s, .int .i64 o, .int .i64 q, .slice a n c] 35)) := Lib.hid fun W' hb => old_below hx1 hb
  have r0 := fun w' (hb : Below W1.heap.size W1 w') => (hb.cell (p := ⟨w.heap.size, 0, none⟩) xz).trans x0
  have r1 := fun w' (hb : Below W1.heap.size W1 w') => (hb.cell (p := ⟨w.heap.size, 1, none⟩) xz).trans x1
  have r3 := fun w' (hb : Below W1.heap.size W1 w') => (hb.cell (p := ⟨w.heap.size, 3, none⟩) xz).trans x3
  have r4 := fun w' (hb : Below W1.heap.size W1 w') => (hb.cell (p := ⟨w.heap.size, 4, none⟩) xz).trans x4
  have g0 := fun w' (hb : Below W1.heap.size W1 w') => (hb.cell (p := ⟨gr, 0, none⟩) cz).trans c0
  have HN := Lib.hid hn
  have HW1 := Lib.hid hW1
  have HB1 := Lib.hid hb1
  have HR1 := Lib.hid hr1
  have HOKE := Lib.hid hok
  have HINV := Lib.hid hinv
  have HF := Lib.hid hF
  have HZW := Lib.hid hzw
  have HYW0 : Hid (¬ Y w.heap.size) := Lib.hid fun hy => by obtain ⟨_, _, -, -, -, -, h9⟩ := h; have := (h9 _ hy).2; omega
  have hnb : n ≤ 1000 := by rw [hn]; exact hb.1
  have hob := hb.2
  rw [← hn]
  have HLL := Lib.hid hL
  clear h hzw hinv hv hF hb hL hn hW1 hb1 hr1 hok hom hx1 x0 x1 x2 x3 x4 x5 c0 c1
  go_enter Tryd.func12, Tryd.ntmps12
  go_upto_region 2 with fail
  rw [← HW1.out]
  go_cut [63] from 13 (fun bv w' => bv = .bool (!ok) ∧ Hid (Below W1.heap.size W1 w'))
  case first =>
    by_cases h1 : om = true
    · subst h1
      have HO1 : Hid (ok = decide (0 ≤ o ∧ o ≤ most ∧ (n = 0 ↔ o = 0) ∧ 0 ≤ q ∧ q + (n : Int) ≤ o)) := Lib.hid (by rw [HOK0.out, Bool.true_and])
      by_cases h2 : o < 0
      · have q2 : decide (o < 0) = true := decide_eq_true h2
        have HOK : Hid (ok = false) := Lib.hid (by rw [HO1.out]; exact decide_eq_false (by omega))
        refine wp_region_held (S := fun w' => Below W1.heap.size W1 w') (by kernel_rfl) ?_
        have hS : Below W1.heap.size W1 W1.drew := (Below.refl _ _).drew
        refine H_take (i := 0) (v := ?_) rfl (by as_aux_lemma => kernel_rfl) (by as_aux_lemma => kernel_rfl) (by as_aux_lemma => kernel_rfl) (fun _ _ _ h => h) (by rfl) hS ?_ ?_
        rotate_left
        · intro w' hw'; go_simp; with_reducible rfl
        go_simp
        refine H_take (i := 1) (v := ?_) rfl (by as_aux_lemma => kernel_rfl) (by as_aux_lemma => kernel_rfl) (by as_aux_lemma => kernel_rfl) (fun _ _ _ h => h) (by rfl) hS ?_ ?_
        rotate_left
        · intro w' hw'; go_simp; with_reducible rfl
        go_simp
        refine H_one (i := 2) (by as_aux_lemma => kernel_rfl) rfl (by rfl) ?_
        go_simp
        refine (HRR.out _).mono ?_
        rintro e w3 ⟨rfl, hb3⟩
        have hS3 : Below W1.heap.size W1 w3 := hS.trans (hb3.mono hS.size)
        clear hb3
        refine ⟨hS3, ?_⟩
        go_simp
        refine H_take (i := 3) (v := ?_) rfl (by as_aux_lemma => kernel_rfl) (by as_aux_lemma => kernel_rfl) (by as_aux_lemma => kernel_rfl) (fun _ _ _ h => h) (by rfl) hS3 ?_ ?_
        rotate_left
        · intro w' hw'; go_simp; with_reducible rfl
        go_simp
        refine H_take (i := 4) (v := ?_) rfl (by as_aux_lemma => kernel_rfl) (by as_aux_lemma => kernel_rfl) (by as_aux_lemma => kernel_rfl) (fun _ _ _ h => h) (by rfl) hS3 ?_ ?_
        rotate_left
        · intro w' hw'; go_simp; with_reducible rfl
        go_simp
        refine H_take (i := 5) (v := ?_) rfl (by as_aux_lemma => kernel_rfl) (by as_aux_lemma => kernel_rfl) (by as_aux_lemma => kernel_rfl) (fun _ _ _ h => h) (by rfl) hS3 ?_ ?_
        rotate_left
        · intro w' hw'; go_simp; with_reducible rfl
        go_simp
        refine H_take (i := 6) (v := ?_) rfl (by as_aux_lemma => kernel_rfl) (by as_aux_lemma => kernel_rfl) (by as_aux_lemma => kernel_rfl) (fun _ _ _ h => h) (by rfl) hS3 ?_ ?_
        rotate_left
        · intro w' hw'; go_simp; with_reducible rfl
        go_simp
        refine H_take (i := 7) (v := ?_) rfl (by as_aux_lemma => kernel_rfl) (by as_aux_lemma => kernel_rfl) (by as_aux_lemma => kernel_rfl) (fun _ _ _ h => h) (by rfl) hS3 ?_ ?_
        rotate_left
        · intro w' hw'; go_simp; with_reducible rfl
        go_simp
        refine H_take (i := 8) (v := ?_) rfl (by as_aux_lemma => kernel_rfl) (by as_aux_lemma => kernel_rfl) (by as_aux_lemma => kernel_rfl) (fun _ _ _ h => h) (by rfl) hS3 ?_ ?_
        rotate_left
        · intro w' hw'; go_simp; with_reducible rfl
        go_simp
        refine H_take (i := 9) (v := ?_) rfl (by as_aux_lemma => kernel_rfl) (by as_aux_lemma => kernel_rfl) (by as_aux_lemma => kernel_rfl) (fun _ _ _ h => h) (by rfl) hS3 ?_ ?_
        rotate_left
        · intro w' hw'; go_simp; with_reducible rfl
        go_simp
        refine H_skip (i := 10) rfl (by as_aux_lemma => kernel_rfl) (by as_aux_lemma => kernel_rfl) (by as_aux_lemma => kernel_rfl) (fun _ _ _ h => h) (by rfl) hS3 ?_
        go_simp
        refine H_skip (i := 11) rfl (by as_aux_lemma => kernel_rfl) (by as_aux_lemma => kernel_rfl) (by as_aux_lemma => kernel_rfl) (fun _ _ _ h => h) (by rfl) hS3 ?_
        go_simp
        refine H_skip (i := 12) rfl (by as_aux_lemma => kernel_rfl) (by as_aux_lemma => kernel_rfl) (by as_aux_lemma => kernel_rfl) (fun _ _ _ h => h) (by rfl) hS3 ?_
        go_simp
        refine H_skip (i := 13) rfl (by as_aux_lemma => kernel_rfl) (by as_aux_lemma => kernel_rfl) (by as_aux_lemma => kernel_rfl) (fun _ _ _ h => h) (by rfl) hS3 ?_
        go_simp
        refine H_skip (i := 14) rfl (by as_aux_lemma => kernel_rfl) (by as_aux_lemma => kernel_rfl) (by as_aux_lemma => kernel_rfl) (fun _ _ _ h => h) (by rfl) hS3 ?_
        go_simp
        refine H_skip (i := 15) rfl (by as_aux_lemma => kernel_rfl) (by as_aux_lemma => kernel_rfl) (by as_aux_lemma => kernel_rfl) (fun _ _ _ h => h) (by rfl) hS3 ?_
        go_simp
        refine H_skip (i := 16) rfl (by as_aux_lemma => kernel_rfl) (by as_aux_lemma => kernel_rfl) (by as_aux_lemma => kernel_rfl) (fun _ _ _ h => h) (by rfl) hS3 ?_
        go_simp
        refine H_take (i := 17) (v := ?_) rfl (by as_aux_lemma => kernel_rfl) (by as_aux_lemma => kernel_rfl) (by as_aux_lemma => kernel_rfl) (fun _ _ _ h => h) (by rfl) hS3 ?_ ?_
        rotate_left
        · intro w' hw'; go_simp; with_reducible rfl
        go_simp
        refine H_take (i := 18) (v := ?_) rfl (by as_aux_lemma => kernel_rfl) (by as_aux_lemma => kernel_rfl) (by as_aux_lemma => kernel_rfl) (fun _ _ _ h => h) (by rfl) hS3 ?_ ?_
        rotate_left
        · intro w' hw'; go_simp; with_reducible rfl
        go_simp
        refine H_skip (i := 19) rfl (by as_aux_lemma => kernel_rfl) (by as_aux_lemma => kernel_rfl) (by as_aux_lemma => kernel_rfl) (fun _ _ _ h => h) (by rfl) hS3 ?_
        go_simp
        refine H_skip (i := 20) rfl (by as_aux_lemma => kernel_rfl) (by as_aux_lemma => kernel_rfl) (by as_aux_lemma => kernel_rfl) (fun _ _ _ h => h) (by rfl) hS3 ?_
        go_simp
        refine H_skip (i := 21) rfl (by as_aux_lemma => kernel_rfl) (by as_aux_lemma => kernel_rfl) (by as_aux_lemma => kernel_rfl) (fun _ _ _ h => h) (by rfl) hS3 ?_
        go_simp
        refine H_take (i := 22) (v := ?_) rfl (by as_aux_lemma => kernel_rfl) (by as_aux_lemma => kernel_rfl) (by as_aux_lemma => kernel_rfl) (fun _ _ _ h => h) (by rfl) hS3 ?_ ?_
        rotate_left
        · intro w' hw'; go_simp; with_reducible rfl
        go_simp
        refine H_take (i := 23) (v := ?_) rfl (by as_aux_lemma => kernel_rfl) (by as_aux_lemma => kernel_rfl) (by as_aux_lemma => kernel_rfl) (fun _ _ _ h => h) (by rfl) hS3 ?_ ?_
        rotate_left
        · intro w' hw'; go_simp; with_reducible rfl
        go_simp
        refine H_skip (i := 24) rfl (by as_aux_lemma => kernel_rfl) (by as_aux_lemma => kernel_rfl) (by as_aux_lemma => kernel_rfl) (fun _ _ _ h => h) (by rfl) hS3 ?_
        go_simp
        refine H_skip (i := 25) rfl (by as_aux_lemma => kernel_rfl) (by as_aux_lemma => kernel_rfl) (by as_aux_lemma => kernel_rfl) (fun _ _ _ h => h) (by rfl) hS3 ?_
        go_simp
        refine H_skip (i := 26) rfl (by as_aux_lemma => kernel_rfl) (by as_aux_lemma => kernel_rfl) (by as_aux_lemma => kernel_rfl) (fun _ _ _ h => h) (by rfl) hS3 ?_
        go_simp
        refine H_skip (i := 27) rfl (by as_aux_lemma => kernel_rfl) (by as_aux_lemma => kernel_rfl) (by as_aux_lemma => kernel_rfl) (fun _ _ _ h => h) (by rfl) hS3 ?_
        go_simp
        refine H_skip (i := 28) rfl (by as_aux_lemma => kernel_rfl) (by as_aux_lemma => kernel_rfl) (by as_aux_lemma => kernel_rfl) (fun _ _ _ h => h) (by rfl) hS3 ?_
        go_simp
        refine H_take (i := 29) (v := ?_) rfl (by as_aux_lemma => kernel_rfl) (by as_aux_lemma => kernel_rfl) (by as_aux_lemma => kernel_rfl) (fun _ _ _ h => h) (by rfl) hS3 ?_ ?_
        rotate_left
        · intro w' hw'; go_simp; with_reducible rfl
        go_simp
        refine H_take (i := 30) (v := ?_) rfl (by as_aux_lemma => kernel_rfl) (by as_aux_lemma => kernel_rfl) (by as_aux_lemma => kernel_rfl) (fun _ _ _ h => h) (by rfl) hS3 ?_ ?_
        rotate_left
        · intro w' hw'; go_simp; with_reducible rfl
        go_simp
        refine H_skip (i := 31) rfl (by as_aux_lemma => kernel_rfl) (by as_aux_lemma => kernel_rfl) (by as_aux_lemma => kernel_rfl) (fun _ _ _ h => h) (by rfl) hS3 ?_
        go_simp
        refine H_skip (i := 32) rfl (by as_aux_lemma => kernel_rfl) (by as_aux_lemma => kernel_rfl) (by as_aux_lemma => kernel_rfl) (fun _ _ _ h => h) (by rfl) hS3 ?_
        go_simp
        refine H_skip (i := 33) rfl (by as_aux_lemma => kernel_rfl) (by as_aux_lemma => kernel_rfl) (by as_aux_lemma => kernel_rfl) (fun _ _ _ h => h) (by rfl) hS3 ?_
        go_simp
        refine H_skip (i := 34) rfl (by as_aux_lemma => kernel_rfl) (by as_aux_lemma => kernel_rfl) (by as_aux_lemma => kernel_rfl) (fun _ _ _ h => h) (by rfl) hS3 ?_
        go_simp
        refine H_skip (i := 35) rfl (by as_aux_lemma => kernel_rfl) (by as_aux_lemma => kernel_rfl) (by as_aux_lemma => kernel_rfl) (fun _ _ _ h => h) (by rfl) hS3 ?_
        go_simp
        refine H_skip (i := 36) rfl (by as_aux_lemma => kernel_rfl) (by as_aux_lemma => kernel_rfl) (by as_aux_lemma => kernel_rfl) (fun _ _ _ h => h) (by rfl) hS3 ?_
        go_simp
        refine H_skip (i := 37) rfl (by as_aux_lemma => kernel_rfl) (by as_aux_lemma => kernel_rfl) (by as_aux_lemma => kernel_rfl) (fun _ _ _ h => h) (by rfl) hS3 ?_
        go_simp
        refine H_take (i := 38) (v := ?_) rfl (by as_aux_lemma => kernel_rfl) (by as_aux_lemma => kernel_rfl) (by as_aux_lemma => kernel_rfl) (fun _ _ _ h => h) (by rfl) hS3 ?_ ?_
        rotate_left
        · intro w' hw'; go_simp; with_reducible rfl
        go_simp
        refine H_take (i := 39) (v := ?_) rfl (by as_aux_lemma => kernel_rfl) (by as_aux_lemma => kernel_rfl) (by as_aux_lemma => kernel_rfl) (fun _ _ _ h => h) (by rfl) hS3 ?_ ?_
        rotate_left
        · intro w' hw'; go_simp; with_reducible rfl
        go_simp
        refine H_skip (i := 40) rfl (by as_aux_lemma => kernel_rfl) (by as_aux_lemma => kernel_rfl) (by as_aux_lemma => kernel_rfl) (fun _ _ _ h => h) (by rfl) hS3 ?_
        go_simp
        refine H_skip (i := 41) rfl (by as_aux_lemma => kernel_rfl) (by as_aux_lemma => kernel_rfl) (by as_aux_lemma => kernel_rfl) (fun _ _ _ h => h) (by rfl) hS3 ?_
        go_simp
        refine H_skip (i := 42) rfl (by as_aux_lemma => kernel_rfl) (by as_aux_lemma => kernel_rfl) (by as_aux_lemma => kernel_rfl) (fun _ _ _ h => h) (by rfl) hS3 ?_
        go_simp
        refine H_skip (i := 43) rfl (by as_aux_lemma => kernel_rfl) (by as_aux_lemma => kernel_rfl) (by as_aux_lemma => kernel_rfl) (fun _ _ _ h => h) (by rfl) hS3 ?_
        go_simp
        refine H_skip (i := 44) rfl (by as_aux_lemma => kernel_rfl) (by as_aux_lemma => kernel_rfl) (by as_aux_lemma => kernel_rfl) (fun _ _ _ h => h) (by rfl) hS3 ?_
        go_simp
        refine H_skip (i := 45) rfl (by as_aux_lemma => kernel_rfl) (by as_aux_lemma => kernel_rfl) (by as_aux_lemma => kernel_rfl) (fun _ _ _ h => h) (by rfl) hS3 ?_
        go_simp
        refine H_skip (i := 46) rfl (by as_aux_lemma => kernel_rfl) (by as_aux_lemma => kernel_rfl) (by as_aux_lemma => kernel_rfl) (fun _ _ _ h => h) (by rfl) hS3 ?_
        go_simp
        refine H_take (i := 47) (v := ?_) rfl (by as_aux_lemma => kernel_rfl) (by as_aux_lemma => kernel_rfl) (by as_aux_lemma => kernel_rfl) (fun _ _ _ h => h) (by rfl) hS3 ?_ ?_
        rotate_left
        · intro w' hw'; go_simp; with_reducible rfl
        go_simp
        refine wpAnyH_done (by as_aux_lemma => kernel_rfl) ?_ _
        go_wp2_with fail
        go_meet
        case rel => exact ⟨by rw [HOK.out]; rfl, Lib.hid hS3⟩
      · have q2 : decide (o < 0) = false := decide_eq_false h2
        by_cases h3 : most < o
        · have q3 : decide (most < o) = true := decide_eq_true h3
          have HOK : Hid (ok = false) := Lib.hid (by rw [HO1.out]; exact decide_eq_false (by omega))
          refine wp_region_held (S := fun w' => Below W1.heap.size W1 w') (by kernel_rfl) ?_
          have hS : Below W1.heap.size W1 W1.drew := (Below.refl _ _).drew
          refine H_take (i := 0) (v := ?_) rfl (by as_aux_lemma => kernel_rfl) (by as_aux_lemma => kernel_rfl) (by as_aux_lemma => kernel_rfl) (fun _ _ _ h => h) (by rfl) hS ?_ ?_
          rotate_left
          · intro w' hw'; go_simp; with_reducible rfl
          go_simp
          refine H_take (i := 1) (v := ?_) rfl (by as_aux_lemma => kernel_rfl) (by as_aux_lemma => kernel_rfl) (by as_aux_lemma => kernel_rfl) (fun _ _ _ h => h) (by rfl) hS ?_ ?_
          rotate_left
          · intro w' hw'; go_simp; with_reducible rfl
          go_simp
          refine H_one (i := 2) (by as_aux_lemma => kernel_rfl) rfl (by rfl) ?_
          go_simp
          refine (HRR.out _).mono ?_
          rintro e w3 ⟨rfl, hb3⟩
          have hS3 : Below W1.heap.size W1 w3 := hS.trans (hb3.mono hS.size)
          clear hb3
          refine ⟨hS3, ?_⟩
          go_simp
          refine H_take (i := 3) (v := ?_) rfl (by as_aux_lemma => kernel_rfl) (by as_aux_lemma => kernel_rfl) (by as_aux_lemma => kernel_rfl) (fun _ _ _ h => h) (by rfl) hS3 ?_ ?_
          rotate_left
          · intro w' hw'; go_simp; with_reducible rfl
          go_simp
          refine H_take (i := 4) (v := ?_) rfl (by as_aux_lemma => kernel_rfl) (by as_aux_lemma => kernel_rfl) (by as_aux_lemma => kernel_rfl) (fun _ _ _ h => h) (by rfl) hS3 ?_ ?_
          rotate_left
          · intro w' hw'; go_simp; with_reducible rfl
          go_simp
          refine H_take (i := 5) (v := ?_) rfl (by as_aux_lemma => kernel_rfl) (by as_aux_lemma => kernel_rfl) (by as_aux_lemma => kernel_rfl) (fun _ _ _ h => h) (by rfl) hS3 ?_ ?_
          rotate_left
          · intro w' hw'; go_simp; with_reducible rfl
          go_simp
          refine H_take (i := 6) (v := ?_) rfl (by as_aux_lemma => kernel_rfl) (by as_aux_lemma => kernel_rfl) (by as_aux_lemma => kernel_rfl) (fun _ _ _ h => h) (by rfl) hS3 ?_ ?_
          rotate_left
          · intro w' hw'; go_simp; with_reducible rfl
          go_simp
          refine H_take (i := 7) (v := ?_) rfl (by as_aux_lemma => kernel_rfl) (by as_aux_lemma => kernel_rfl) (by as_aux_lemma => kernel_rfl) (fun _ _ _ h => h) (by rfl) hS3 ?_ ?_
          rotate_left
          · intro w' hw'; go_simp; with_reducible rfl
          go_simp
          refine H_take (i := 8) (v := ?_) rfl (by as_aux_lemma => kernel_rfl) (by as_aux_lemma => kernel_rfl) (by as_aux_lemma => kernel_rfl) (fun _ _ _ h => h) (by rfl) hS3 ?_ ?_
          rotate_left
          · intro w' hw'; go_simp; with_reducible rfl
          go_simp
          refine H_take (i := 9) (v := ?_) rfl (by as_aux_lemma => kernel_rfl) (by as_aux_lemma => kernel_rfl) (by as_aux_lemma => kernel_rfl) (fun _ _ _ h => h) (by rfl) hS3 ?_ ?_
          rotate_left
          · intro w' hw'; go_simp; with_reducible rfl
          go_simp
          refine H_take (i := 10) (v := ?_) rfl (by as_aux_lemma => kernel_rfl) (by as_aux_lemma => kernel_rfl) (by as_aux_lemma => kernel_rfl) (fun _ _ _ h => h) (by rfl) hS3 ?_ ?_
          rotate_left
          · intro w' hw'; go_simp; with_reducible rfl
          go_simp
          refine H_take (i := 11) (v := ?_) rfl (by as_aux_lemma => kernel_rfl) (by as_aux_lemma => kernel_rfl) (by as_aux_lemma => kernel_rfl) (fun _ _ _ h => h) (by rfl) hS3 ?_ ?_
          rotate_left
          · intro w' hw'; go_simp; with_reducible rfl
          go_simp
          refine H_take (i := 12) (v := ?_) rfl (by as_aux_lemma => kernel_rfl) (by as_aux_lemma => kernel_rfl) (by as_aux_lemma => kernel_rfl) (fun _ _ _ h => h) (by rfl) hS3 ?_ ?_
          rotate_left
          · intro w' hw'; go_simp; with_reducible rfl
          go_simp
          refine H_take (i := 13) (v := ?_) rfl (by as_aux_lemma => kernel_rfl) (by as_aux_lemma => kernel_rfl) (by as_aux_lemma => kernel_rfl) (fun _ _ _ h => h) (by rfl) hS3 ?_ ?_
          rotate_left
          · intro w' hw'; go_simp; with_reducible rfl
          go_simp
          refine H_take (i := 14) (v := ?_) rfl (by as_aux_lemma => kernel_rfl) (by as_aux_lemma => kernel_rfl) (by as_aux_lemma => kernel_rfl) (fun _ _ _ h => h) (by rfl) hS3 ?_ ?_
          rotate_left
          · intro w' hw'; go_simp; with_reducible rfl
          go_simp
          refine H_take (i := 15) (v := ?_) rfl (by as_aux_lemma => kernel_rfl) (by as_aux_lemma => kernel_rfl) (by as_aux_lemma => kernel_rfl) (fun _ _ _ h => h) (by rfl) hS3 ?_ ?_
          rotate_left
          · intro w' hw'; go_simp; with_reducible rfl
          go_simp
          refine H_take (i := 16) (v := ?_) rfl (by as_aux_lemma => kernel_rfl) (by as_aux_lemma => kernel_rfl) (by as_aux_lemma => kernel_rfl) (fun _ _ _ h => h) (by rfl) hS3 ?_ ?_
          rotate_left
          · intro w' hw'; go_simp; with_reducible rfl
          go_simp
          refine H_take (i := 17) (v := ?_) rfl (by as_aux_lemma => kernel_rfl) (by as_aux_lemma => kernel_rfl) (by as_aux_lemma => kernel_rfl) (fun _ _ _ h => h) (by rfl) hS3 ?_ ?_
          rotate_left
          · intro w' hw'; go_simp; with_reducible rfl
          go_simp
          refine H_take (i := 18) (v := ?_) rfl (by as_aux_lemma => kernel_rfl) (by as_aux_lemma => kernel_rfl) (by as_aux_lemma => kernel_rfl) (fun _ _ _ h => h) (by rfl) hS3 ?_ ?_
          rotate_left
          · intro w' hw'; go_simp; with_reducible rfl
          go_simp
          refine H_skip (i := 19) rfl (by as_aux_lemma => kernel_rfl) (by as_aux_lemma => kernel_rfl) (by as_aux_lemma => kernel_rfl) (fun _ _ _ h => h) (by rfl) hS3 ?_
          go_simp
          refine H_skip (i := 20) rfl (by as_aux_lemma => kernel_rfl) (by as_aux_lemma => kernel_rfl) (by as_aux_lemma => kernel_rfl) (fun _ _ _ h => h) (by rfl) hS3 ?_
          go_simp
          refine H_skip (i := 21) rfl (by as_aux_lemma => kernel_rfl) (by as_aux_lemma => kernel_rfl) (by as_aux_lemma => kernel_rfl) (fun _ _ _ h => h) (by rfl) hS3 ?_
          go_simp
          refine H_take (i := 22) (v := ?_) rfl (by as_aux_lemma => kernel_rfl) (by as_aux_lemma => kernel_rfl) (by as_aux_lemma => kernel_rfl) (fun _ _ _ h => h) (by rfl) hS3 ?_ ?_
          rotate_left
          · intro w' hw'; go_simp; with_reducible rfl
          go_simp
          refine H_take (i := 23) (v := ?_) rfl (by as_aux_lemma => kernel_rfl) (by as_aux_lemma => kernel_rfl) (by as_aux_lemma => kernel_rfl) (fun _ _ _ h => h) (by rfl) hS3 ?_ ?_
          rotate_left
          · intro w' hw'; go_simp; with_reducible rfl
          go_simp
          refine H_skip (i := 24) rfl (by as_aux_lemma => kernel_rfl) (by as_aux_lemma => kernel_rfl) (by as_aux_lemma => kernel_rfl) (fun _ _ _ h => h) (by rfl) hS3 ?_
          go_simp
          refine H_skip (i := 25) rfl (by as_aux_lemma => kernel_rfl) (by as_aux_lemma => kernel_rfl) (by as_aux_lemma => kernel_rfl) (fun _ _ _ h => h) (by rfl) hS3 ?_
          go_simp
          refine H_skip (i := 26) rfl (by as_aux_lemma => kernel_rfl) (by as_aux_lemma => kernel_rfl) (by as_aux_lemma => kernel_rfl) (fun _ _ _ h => h) (by rfl) hS3 ?_
          go_simp
          refine H_skip (i := 27) rfl (by as_aux_lemma => kernel_rfl) (by as_aux_lemma => kernel_rfl) (by as_aux_lemma => kernel_rfl) (fun _ _ _ h => h) (by rfl) hS3 ?_
          go_simp
          refine H_skip (i := 28) rfl (by as_aux_lemma => kernel_rfl) (by as_aux_lemma => kernel_rfl) (by as_aux_lemma => kernel_rfl) (fun _ _ _ h => h) (by rfl) hS3 ?_
          go_simp
          refine H_take (i := 29) (v := ?_) rfl (by as_aux_lemma => kernel_rfl) (by as_aux_lemma => kernel_rfl) (by as_aux_lemma => kernel_rfl) (fun _ _ _ h => h) (by rfl) hS3 ?_ ?_
          rotate_left
          · intro w' hw'; go_simp; with_reducible rfl
          go_simp
          refine H_take (i := 30) (v := ?_) rfl (by as_aux_lemma => kernel_rfl) (by as_aux_lemma => kernel_rfl) (by as_aux_lemma => kernel_rfl) (fun _ _ _ h => h) (by rfl) hS3 ?_ ?_
          rotate_left
          · intro w' hw'; go_simp; with_reducible rfl
          go_simp
          refine H_skip (i := 31) rfl (by as_aux_lemma => kernel_rfl) (by as_aux_lemma => kernel_rfl) (by as_aux_lemma => kernel_rfl) (fun _ _ _ h => h) (by rfl) hS3 ?_
          go_simp
          refine H_skip (i := 32) rfl (by as_aux_lemma => kernel_rfl) (by as_aux_lemma => kernel_rfl) (by as_aux_lemma => kernel_rfl) (fun _ _ _ h => h) (by rfl) hS3 ?_
          go_simp
          refine H_skip (i := 33) rfl (by as_aux_lemma => kernel_rfl) (by as_aux_lemma => kernel_rfl) (by as_aux_lemma => kernel_rfl) (fun _ _ _ h => h) (by rfl) hS3 ?_
          go_simp
          refine H_skip (i := 34) rfl (by as_aux_lemma => kernel_rfl) (by as_aux_lemma => kernel_rfl) (by as_aux_lemma => kernel_rfl) (fun _ _ _ h => h) (by rfl) hS3 ?_
          go_simp
          refine H_skip (i := 35) rfl (by as_aux_lemma => kernel_rfl) (by as_aux_lemma => kernel_rfl) (by as_aux_lemma => kernel_rfl) (fun _ _ _ h => h) (by rfl) hS3 ?_
          go_simp
          refine H_skip (i := 36) rfl (by as_aux_lemma => kernel_rfl) (by as_aux_lemma => kernel_rfl) (by as_aux_lemma => kernel_rfl) (fun _ _ _ h => h) (by rfl) hS3 ?_
          go_simp
          refine H_skip (i := 37) rfl (by as_aux_lemma => kernel_rfl) (by as_aux_lemma => kernel_rfl) (by as_aux_lemma => kernel_rfl) (fun _ _ _ h => h) (by rfl) hS3 ?_
          go_simp
          refine H_take (i := 38) (v := ?_) rfl (by as_aux_lemma => kernel_rfl) (by as_aux_lemma => kernel_rfl) (by as_aux_lemma => kernel_rfl) (fun _ _ _ h => h) (by rfl) hS3 ?_ ?_
          rotate_left
          · intro w' hw'; go_simp; with_reducible rfl
          go_simp
          refine H_take (i := 39) (v := ?_) rfl (by as_aux_lemma => kernel_rfl) (by as_aux_lemma => kernel_rfl) (by as_aux_lemma => kernel_rfl) (fun _ _ _ h => h) (by rfl) hS3 ?_ ?_
          rotate_left
          · intro w' hw'; go_simp; with_reducible rfl
          go_simp
          refine H_skip (i := 40) rfl (by as_aux_lemma => kernel_rfl) (by as_aux_lemma => kernel_rfl) (by as_aux_lemma => kernel_rfl) (fun _ _ _ h => h) (by rfl) hS3 ?_
          go_simp
          refine H_skip (i := 41) rfl (by as_aux_lemma => kernel_rfl) (by as_aux_lemma => kernel_rfl) (by as_aux_lemma => kernel_rfl) (fun _ _ _ h => h) (by rfl) hS3 ?_
          go_simp
          refine H_skip (i := 42) rfl (by as_aux_lemma => kernel_rfl) (by as_aux_lemma => kernel_rfl) (by as_aux_lemma => kernel_rfl) (fun _ _ _ h => h) (by rfl) hS3 ?_
          go_simp
          refine H_skip (i := 43) rfl (by as_aux_lemma => kernel_rfl) (by as_aux_lemma => kernel_rfl) (by as_aux_lemma => kernel_rfl) (fun _ _ _ h => h) (by rfl) hS3 ?_
          go_simp
          refine H_skip (i := 44) rfl (by as_aux_lemma => kernel_rfl) (by as_aux_lemma => kernel_rfl) (by as_aux_lemma => kernel_rfl) (fun _ _ _ h => h) (by rfl) hS3 ?_
          go_simp
          refine H_skip (i := 45) rfl (by as_aux_lemma => kernel_rfl) (by as_aux_lemma => kernel_rfl) (by as_aux_lemma => kernel_rfl) (fun _ _ _ h => h) (by rfl) hS3 ?_
          go_simp
          refine H_skip (i := 46) rfl (by as_aux_lemma => kernel_rfl) (by as_aux_lemma => kernel_rfl) (by as_aux_lemma => kernel_rfl) (fun _ _ _ h => h) (by rfl) hS3 ?_
          go_simp
          refine H_take (i := 47) (v := ?_) rfl (by as_aux_lemma => kernel_rfl) (by as_aux_lemma => kernel_rfl) (by as_aux_lemma => kernel_rfl) (fun _ _ _ h => h) (by rfl) hS3 ?_ ?_
          rotate_left
          · intro w' hw'; go_simp; with_reducible rfl
          go_simp
          refine wpAnyH_done (by as_aux_lemma => kernel_rfl) ?_ _
          go_wp2_with fail
          go_meet
          case rel => exact ⟨by rw [HOK.out]; rfl, Lib.hid hS3⟩
        · have q3 : decide (most < o) = false := decide_eq_false h3
          by_cases h4 : q < 0
          · have q4 : decide (q < 0) = true := decide_eq_true h4
            have HOK : Hid (ok = false) := Lib.hid (by rw [HO1.out]; exact decide_eq_false (by omega))
            refine wp_region_held (S := fun w' => Below W1.heap.size W1 w') (by kernel_rfl) ?_
            have hS : Below W1.heap.size W1 W1.drew := (Below.refl _ _).drew
            refine H_take (i := 0) (v := ?_) rfl (by as_aux_lemma => kernel_rfl) (by as_aux_lemma => kernel_rfl) (by as_aux_lemma => kernel_rfl) (fun _ _ _ h => h) (by rfl) hS ?_ ?_
            rotate_left
            · intro w' hw'; go_simp; with_reducible rfl
            go_simp
            refine H_take (i := 1) (v := ?_) rfl (by as_aux_lemma => kernel_rfl) (by as_aux_lemma => kernel_rfl) (by as_aux_lemma => kernel_rfl) (fun _ _ _ h => h) (by rfl) hS ?_ ?_
            rotate_left
            · intro w' hw'; go_simp; with_reducible rfl
            go_simp
            refine H_one (i := 2) (by as_aux_lemma => kernel_rfl) rfl (by rfl) ?_
            go_simp
            refine (HRR.out _).mono ?_
            rintro e w3 ⟨rfl, hb3⟩
            have hS3 : Below W1.heap.size W1 w3 := hS.trans (hb3.mono hS.size)
            clear hb3
            refine ⟨hS3, ?_⟩
            go_simp
            refine H_take (i := 3) (v := ?_) rfl (by as_aux_lemma => kernel_rfl) (by as_aux_lemma => kernel_rfl) (by as_aux_lemma => kernel_rfl) (fun _ _ _ h => h) (by rfl) hS3 ?_ ?_
            rotate_left
            · intro w' hw'; go_simp; with_reducible rfl
            go_simp
            refine H_take (i := 4) (v := ?_) rfl (by as_aux_lemma => kernel_rfl) (by as_aux_lemma => kernel_rfl) (by as_aux_lemma => kernel_rfl) (fun _ _ _ h => h) (by rfl) hS3 ?_ ?_
            rotate_left
            · intro w' hw'; go_simp; with_reducible rfl
            go_simp
            refine H_take (i := 5) (v := ?_) rfl (by as_aux_lemma => kernel_rfl) (by as_aux_lemma => kernel_rfl) (by as_aux_lemma => kernel_rfl) (fun _ _ _ h => h) (by rfl) hS3 ?_ ?_
            rotate_left
            · intro w' hw'; go_simp; with_reducible rfl
            go_simp
            refine H_take (i := 6) (v := ?_) rfl (by as_aux_lemma => kernel_rfl) (by as_aux_lemma => kernel_rfl) (by as_aux_lemma => kernel_rfl) (fun _ _ _ h => h) (by rfl) hS3 ?_ ?_
            rotate_left
            · intro w' hw'; go_simp; with_reducible rfl
            go_simp
            refine H_take (i := 7) (v := ?_) rfl (by as_aux_lemma => kernel_rfl) (by as_aux_lemma => kernel_rfl) (by as_aux_lemma => kernel_rfl) (fun _ _ _ h => h) (by rfl) hS3 ?_ ?_
            rotate_left
            · intro w' hw'; go_simp; with_reducible rfl
            go_simp
            refine H_take (i := 8) (v := ?_) rfl (by as_aux_lemma => kernel_rfl) (by as_aux_lemma => kernel_rfl) (by as_aux_lemma => kernel_rfl) (fun _ _ _ h => h) (by rfl) hS3 ?_ ?_
            rotate_left
            · intro w' hw'; go_simp; with_reducible rfl
            go_simp
            refine H_take (i := 9) (v := ?_) rfl (by as_aux_lemma => kernel_rfl) (by as_aux_lemma => kernel_rfl) (by as_aux_lemma => kernel_rfl) (fun _ _ _ h => h) (by rfl) hS3 ?_ ?_
            rotate_left
            · intro w' hw'; go_simp; with_reducible rfl
            go_simp
            refine H_take (i := 10) (v := ?_) rfl (by as_aux_lemma => kernel_rfl) (by as_aux_lemma => kernel_rfl) (by as_aux_lemma => kernel_rfl) (fun _ _ _ h => h) (by rfl) hS3 ?_ ?_
            rotate_left
            · intro w' hw'; go_simp; with_reducible rfl
            go_simp
            refine H_take (i := 11) (v := ?_) rfl (by as_aux_lemma => kernel_rfl) (by as_aux_lemma => kernel_rfl) (by as_aux_lemma => kernel_rfl) (fun _ _ _ h => h) (by rfl) hS3 ?_ ?_
            rotate_left
            · intro w' hw'; go_simp; with_reducible rfl
            go_simp
            refine H_take (i := 12) (v := ?_) rfl (by as_aux_lemma => kernel_rfl) (by as_aux_lemma => kernel_rfl) (by as_aux_lemma => kernel_rfl) (fun _ _ _ h => h) (by rfl) hS3 ?_ ?_
            rotate_left
            · intro w' hw'; go_simp; with_reducible rfl
            go_simp
            refine H_take (i := 13) (v := ?_) rfl (by as_aux_lemma => kernel_rfl) (by as_aux_lemma => kernel_rfl) (by as_aux_lemma => kernel_rfl) (fun _ _ _ h => h) (by rfl) hS3 ?_ ?_
            rotate_left
            · intro w' hw'; go_simp; with_reducible rfl
            go_simp
            refine H_take (i := 14) (v := ?_) rfl (by as_aux_lemma => kernel_rfl) (by as_aux_lemma => kernel_rfl) (by as_aux_lemma => kernel_rfl) (fun _ _ _ h => h) (by rfl) hS3 ?_ ?_
            rotate_left
            · intro w' hw'; go_simp; with_reducible rfl
            go_simp
            refine H_take (i := 15) (v := ?_) rfl (by as_aux_lemma => kernel_rfl) (by as_aux_lemma => kernel_rfl) (by as_aux_lemma => kernel_rfl) (fun _ _ _ h => h) (by rfl) hS3 ?_ ?_
            rotate_left
            · intro w' hw'; go_simp; with_reducible rfl
            go_simp
            refine H_take (i := 16) (v := ?_) rfl (by as_aux_lemma => kernel_rfl) (by as_aux_lemma => kernel_rfl) (by as_aux_lemma => kernel_rfl) (fun _ _ _ h => h) (by rfl) hS3 ?_ ?_
            rotate_left
            · intro w' hw'; go_simp; with_reducible rfl
            go_simp
            refine H_take (i := 17) (v := ?_) rfl (by as_aux_lemma => kernel_rfl) (by as_aux_lemma => kernel_rfl) (by as_aux_lemma => kernel_rfl) (fun _ _ _ h => h) (by rfl) hS3 ?_ ?_
            rotate_left
            · intro w' hw'; go_simp; with_reducible rfl
            go_simp
            refine H_take (i := 18) (v := ?_) rfl (by as_aux_lemma => kernel_rfl) (by as_aux_lemma => kernel_rfl) (by as_aux_lemma => kernel_rfl) (fun _ _ _ h => h) (by rfl) hS3 ?_ ?_
            rotate_left
            · intro w' hw'; go_simp; with_reducible rfl
            go_simp
            refine H_take (i := 19) (v := ?_) rfl (by as_aux_lemma => kernel_rfl) (by as_aux_lemma => kernel_rfl) (by as_aux_lemma => kernel_rfl) (fun _ _ _ h => h) (by rfl) hS3 ?_ ?_
            rotate_left
            · intro w' hw'; go_simp; with_reducible rfl
            go_simp
            refine H_take (i := 20) (v := ?_) rfl (by as_aux_lemma => kernel_rfl) (by as_aux_lemma => kernel_rfl) (by as_aux_lemma => kernel_rfl) (fun _ _ _ h => h) (by rfl) hS3 ?_ ?_
            rotate_left
            · intro w' hw'; go_simp; with_reducible rfl
            go_simp
            refine H_take (i := 21) (v := ?_) rfl (by as_aux_lemma => kernel_rfl) (by as_aux_lemma => kernel_rfl) (by as_aux_lemma => kernel_rfl) (fun _ _ _ h => h) (by rfl) hS3 ?_ ?_
            rotate_left
            · intro w' hw'; go_simp; with_reducible rfl
            go_simp
            refine H_take (i := 22) (v := ?_) rfl (by as_aux_lemma => kernel_rfl) (by as_aux_lemma => kernel_rfl) (by as_aux_lemma => kernel_rfl) (fun _ _ _ h => h) (by rfl) hS3 ?_ ?_
            rotate_left
            · intro w' hw'; go_simp; with_reducible rfl
            go_simp
            refine H_take (i := 23) (v := ?_) rfl (by as_aux_lemma => kernel_rfl) (by as_aux_lemma => kernel_rfl) (by as_aux_lemma => kernel_rfl) (fun _ _ _ h => h) (by rfl) hS3 ?_ ?_
            rotate_left
            · intro w' hw'; go_simp; with_reducible rfl
            go_simp
            refine H_skip (i := 24) rfl (by as_aux_lemma => kernel_rfl) (by as_aux_lemma => kernel_rfl) (by as_aux_lemma => kernel_rfl) (fun _ _ _ h => h) (by rfl) hS3 ?_
            go_simp
            refine H_skip (i := 25) rfl (by as_aux_lemma => kernel_rfl) (by as_aux_lemma => kernel_rfl) (by as_aux_lemma => kernel_rfl) (fun _ _ _ h => h) (by rfl) hS3 ?_
            go_simp
            refine H_skip (i := 26) rfl (by as_aux_lemma => kernel_rfl) (by as_aux_lemma => kernel_rfl) (by as_aux_lemma => kernel_rfl) (fun _ _ _ h => h) (by rfl) hS3 ?_
            go_simp
            refine H_skip (i := 27) rfl (by as_aux_lemma => kernel_rfl) (by as_aux_lemma => kernel_rfl) (by as_aux_lemma => kernel_rfl) (fun _ _ _ h => h) (by rfl) hS3 ?_
            go_simp
            refine H_skip (i := 28) rfl (by as_aux_lemma => kernel_rfl) (by as_aux_lemma => kernel_rfl) (by as_aux_lemma => kernel_rfl) (fun _ _ _ h => h) (by rfl) hS3 ?_
            go_simp
            refine H_take (i := 29) (v := ?_) rfl (by as_aux_lemma => kernel_rfl) (by as_aux_lemma => kernel_rfl) (by as_aux_lemma => kernel_rfl) (fun _ _ _ h => h) (by rfl) hS3 ?_ ?_
            rotate_left
            · intro w' hw'; go_simp; with_reducible rfl
            go_simp
            refine H_take (i := 30) (v := ?_) rfl (by as_aux_lemma => kernel_rfl) (by as_aux_lemma => kernel_rfl) (by as_aux_lemma => kernel_rfl) (fun _ _ _ h => h) (by rfl) hS3 ?_ ?_
            rotate_left
            · intro w' hw'; go_simp; with_reducible rfl
            go_simp
            refine H_skip (i := 31) rfl (by as_aux_lemma => kernel_rfl) (by as_aux_lemma => kernel_rfl) (by as_aux_lemma => kernel_rfl) (fun _ _ _ h => h) (by rfl) hS3 ?_
            go_simp
            refine H_skip (i := 32) rfl (by as_aux_lemma => kernel_rfl) (by as_aux_lemma => kernel_rfl) (by as_aux_lemma => kernel_rfl) (fun _ _ _ h => h) (by rfl) hS3 ?_
            go_simp
            refine H_skip (i := 33) rfl (by as_aux_lemma => kernel_rfl) (by as_aux_lemma => kernel_rfl) (by as_aux_lemma => kernel_rfl) (fun _ _ _ h => h) (by rfl) hS3 ?_
            go_simp
            refine H_skip (i := 34) rfl (by as_aux_lemma => kernel_rfl) (by as_aux_lemma => kernel_rfl) (by as_aux_lemma => kernel_rfl) (fun _ _ _ h => h) (by rfl) hS3 ?_
            go_simp
            refine H_skip (i := 35) rfl (by as_aux_lemma => kernel_rfl) (by as_aux_lemma => kernel_rfl) (by as_aux_lemma => kernel_rfl) (fun _ _ _ h => h) (by rfl) hS3 ?_
            go_simp
            refine H_skip (i := 36) rfl (by as_aux_lemma => kernel_rfl) (by as_aux_lemma => kernel_rfl) (by as_aux_lemma => kernel_rfl) (fun _ _ _ h => h) (by rfl) hS3 ?_
            go_simp
            refine H_skip (i := 37) rfl (by as_aux_lemma => kernel_rfl) (by as_aux_lemma => kernel_rfl) (by as_aux_lemma => kernel_rfl) (fun _ _ _ h => h) (by rfl) hS3 ?_
            go_simp
            refine H_take (i := 38) (v := ?_) rfl (by as_aux_lemma => kernel_rfl) (by as_aux_lemma => kernel_rfl) (by as_aux_lemma => kernel_rfl) (fun _ _ _ h => h) (by rfl) hS3 ?_ ?_
            rotate_left
            · intro w' hw'; go_simp; with_reducible rfl
            go_simp
            refine H_take (i := 39) (v := ?_) rfl (by as_aux_lemma => kernel_rfl) (by as_aux_lemma => kernel_rfl) (by as_aux_lemma => kernel_rfl) (fun _ _ _ h => h) (by rfl) hS3 ?_ ?_
            rotate_left
            · intro w' hw'; go_simp; with_reducible rfl
            go_simp
            refine H_skip (i := 40) rfl (by as_aux_lemma => kernel_rfl) (by as_aux_lemma => kernel_rfl) (by as_aux_lemma => kernel_rfl) (fun _ _ _ h => h) (by rfl) hS3 ?_
            go_simp
            refine H_skip (i := 41) rfl (by as_aux_lemma => kernel_rfl) (by as_aux_lemma => kernel_rfl) (by as_aux_lemma => kernel_rfl) (fun _ _ _ h => h) (by rfl) hS3 ?_
            go_simp
            refine H_skip (i := 42) rfl (by as_aux_lemma => kernel_rfl) (by as_aux_lemma => kernel_rfl) (by as_aux_lemma => kernel_rfl) (fun _ _ _ h => h) (by rfl) hS3 ?_
            go_simp
            refine H_skip (i := 43) rfl (by as_aux_lemma => kernel_rfl) (by as_aux_lemma => kernel_rfl) (by as_aux_lemma => kernel_rfl) (fun _ _ _ h => h) (by rfl) hS3 ?_
            go_simp
            refine H_skip (i := 44) rfl (by as_aux_lemma => kernel_rfl) (by as_aux_lemma => kernel_rfl) (by as_aux_lemma => kernel_rfl) (fun _ _ _ h => h) (by rfl) hS3 ?_
            go_simp
            refine H_skip (i := 45) rfl (by as_aux_lemma => kernel_rfl) (by as_aux_lemma => kernel_rfl) (by as_aux_lemma => kernel_rfl) (fun _ _ _ h => h) (by rfl) hS3 ?_
            go_simp
            refine H_skip (i := 46) rfl (by as_aux_lemma => kernel_rfl) (by as_aux_lemma => kernel_rfl) (by as_aux_lemma => kernel_rfl) (fun _ _ _ h => h) (by rfl) hS3 ?_
            go_simp
            refine H_take (i := 47) (v := ?_) rfl (by as_aux_lemma => kernel_rfl) (by as_aux_lemma => kernel_rfl) (by as_aux_lemma => kernel_rfl) (fun _ _ _ h => h) (by rfl) hS3 ?_ ?_
            rotate_left
            · intro w' hw'; go_simp; with_reducible rfl
            go_simp
            refine wpAnyH_done (by as_aux_lemma => kernel_rfl) ?_ _
            go_wp2_with fail
            go_meet
            case rel => exact ⟨by rw [HOK.out]; rfl, Lib.hid hS3⟩
          · have q4 : decide (q < 0) = false := decide_eq_false h4
            by_cases h5 : o < q
            · have q5 : decide (o < q) = true := decide_eq_true h5
              have HOK : Hid (ok = false) := Lib.hid (by rw [HO1.out]; exact decide_eq_false (by omega))
              refine wp_region_held (S := fun w' => Below W1.heap.size W1 w') (by kernel_rfl) ?_
              have hS : Below W1.heap.size W1 W1.drew := (Below.refl _ _).drew
              refine H_take (i := 0) (v := ?_) rfl (by as_aux_lemma => kernel_rfl) (by as_aux_lemma => kernel_rfl) (by as_aux_lemma => kernel_rfl) (fun _ _ _ h => h) (by rfl) hS ?_ ?_
              rotate_left
              · intro w' hw'; go_simp; with_reducible rfl
              go_simp
              refine H_take (i := 1) (v := ?_) rfl (by as_aux_lemma => kernel_rfl) (by as_aux_lemma => kernel_rfl) (by as_aux_lemma => kernel_rfl) (fun _ _ _ h => h) (by rfl) hS ?_ ?_
              rotate_left
              · intro w' hw'; go_simp; with_reducible rfl
              go_simp
              refine H_one (i := 2) (by as_aux_lemma => kernel_rfl) rfl (by rfl) ?_
              go_simp
              refine (HRR.out _).mono ?_
              rintro e w3 ⟨rfl, hb3⟩
              have hS3 : Below W1.heap.size W1 w3 := hS.trans (hb3.mono hS.size)
              clear hb3
              refine ⟨hS3, ?_⟩
              go_simp
              refine H_take (i := 3) (v := ?_) rfl (by as_aux_lemma => kernel_rfl) (by as_aux_lemma => kernel_rfl) (by as_aux_lemma => kernel_rfl) (fun _ _ _ h => h) (by rfl) hS3 ?_ ?_
              rotate_left
              · intro w' hw'; go_simp; with_reducible rfl
              go_simp
              refine H_take (i := 4) (v := ?_) rfl (by as_aux_lemma => kernel_rfl) (by as_aux_lemma => kernel_rfl) (by as_aux_lemma => kernel_rfl) (fun _ _ _ h => h) (by rfl) hS3 ?_ ?_
              rotate_left
              · intro w' hw'; go_simp; with_reducible rfl
              go_simp
              refine H_take (i := 5) (v := ?_) rfl (by as_aux_lemma => kernel_rfl) (by as_aux_lemma => kernel_rfl) (by as_aux_lemma => kernel_rfl) (fun _ _ _ h => h) (by rfl) hS3 ?_ ?_
              rotate_left
              · intro w' hw'; go_simp; with_reducible rfl
              go_simp
              refine H_take (i := 6) (v := ?_) rfl (by as_aux_lemma => kernel_rfl) (by as_aux_lemma => kernel_rfl) (by as_aux_lemma => kernel_rfl) (fun _ _ _ h => h) (by rfl) hS3 ?_ ?_
              rotate_left
              · intro w' hw'; go_simp; with_reducible rfl
              go_simp
              refine H_take (i := 7) (v := ?_) rfl (by as_aux_lemma => kernel_rfl) (by as_aux_lemma => kernel_rfl) (by as_aux_lemma => kernel_rfl) (fun _ _ _ h => h) (by rfl) hS3 ?_ ?_
              rotate_left
              · intro w' hw'; go_simp; with_reducible rfl
              go_simp
              refine H_take (i := 8) (v := ?_) rfl (by as_aux_lemma => kernel_rfl) (by as_aux_lemma => kernel_rfl) (by as_aux_lemma => kernel_rfl) (fun _ _ _ h => h) (by rfl) hS3 ?_ ?_
              rotate_left
              · intro w' hw'; go_simp; with_reducible rfl
              go_simp
              refine H_take (i := 9) (v := ?_) rfl (by as_aux_lemma => kernel_rfl) (by as_aux_lemma => kernel_rfl) (by as_aux_lemma => kernel_rfl) (fun _ _ _ h => h) (by rfl) hS3 ?_ ?_
              rotate_left
              · intro w' hw'; go_simp; with_reducible rfl
              go_simp
              refine H_take (i := 10) (v := ?_) rfl (by as_aux_lemma => kernel_rfl) (by as_aux_lemma => kernel_rfl) (by as_aux_lemma => kernel_rfl) (fun _ _ _ h => h) (by rfl) hS3 ?_ ?_
              rotate_left
              · intro w' hw'; go_simp; with_reducible rfl
              go_simp
              refine H_take (i := 11) (v := ?_) rfl (by as_aux_lemma => kernel_rfl) (by as_aux_lemma => kernel_rfl) (by as_aux_lemma => kernel_rfl) (fun _ _ _ h => h) (by rfl) hS3 ?_ ?_
              rotate_left
              · intro w' hw'; go_simp; with_reducible rfl
              go_simp
              refine H_take (i := 12) (v := ?_) rfl (by as_aux_lemma => kernel_rfl) (by as_aux_lemma => kernel_rfl) (by as_aux_lemma => kernel_rfl) (fun _ _ _ h => h) (by rfl) hS3 ?_ ?_
              rotate_left
              · intro w' hw'; go_simp; with_reducible rfl
              go_simp
              refine H_take (i := 13) (v := ?_) rfl (by as_aux_lemma => kernel_rfl) (by as_aux_lemma => kernel_rfl) (by as_aux_lemma => kernel_rfl) (fun _ _ _ h => h) (by rfl) hS3 ?_ ?_
              rotate_left
              · intro w' hw'; go_simp; with_reducible rfl
              go_simp
              refine H_take (i := 14) (v := ?_) rfl (by as_aux_lemma => kernel_rfl) (by as_aux_lemma => kernel_rfl) (by as_aux_lemma => kernel_rfl) (fun _ _ _ h => h) (by rfl) hS3 ?_ ?_
              rotate_left
              · intro w' hw'; go_simp; with_reducible rfl
              go_simp
              refine H_take (i := 15) (v := ?_) rfl (by as_aux_lemma => kernel_rfl) (by as_aux_lemma => kernel_rfl) (by as_aux_lemma => kernel_rfl) (fun _ _ _ h => h) (by rfl) hS3 ?_ ?_
              rotate_left
              · intro w' hw'; go_simp; with_reducible rfl
              go_simp
              refine H_take (i := 16) (v := ?_) rfl (by as_aux_lemma => kernel_rfl) (by as_aux_lemma => kernel_rfl) (by as_aux_lemma => kernel_rfl) (fun _ _ _ h => h) (by rfl) hS3 ?_ ?_
              rotate_left
              · intro w' hw'; go_simp; with_reducible rfl
              go_simp
              refine H_take (i := 17) (v := ?_) rfl (by as_aux_lemma => kernel_rfl) (by as_aux_lemma => kernel_rfl) (by as_aux_lemma => kernel_rfl) (fun _ _ _ h => h) (by rfl) hS3 ?_ ?_
              rotate_left
              · intro w' hw'; go_simp; with_reducible rfl
              go_simp
              refine H_take (i := 18) (v := ?_) rfl (by as_aux_lemma => kernel_rfl) (by as_aux_lemma => kernel_rfl) (by as_aux_lemma => kernel_rfl) (fun _ _ _ h => h) (by rfl) hS3 ?_ ?_
              rotate_left
              · intro w' hw'; go_simp; with_reducible rfl
              go_simp
              refine H_take (i := 19) (v := ?_) rfl (by as_aux_lemma => kernel_rfl) (by as_aux_lemma => kernel_rfl) (by as_aux_lemma => kernel_rfl) (fun _ _ _ h => h) (by rfl) hS3 ?_ ?_
              rotate_left
              · intro w' hw'; go_simp; with_reducible rfl
              go_simp
              refine H_take (i := 20) (v := ?_) rfl (by as_aux_lemma => kernel_rfl) (by as_aux_lemma => kernel_rfl) (by as_aux_lemma => kernel_rfl) (fun _ _ _ h => h) (by rfl) hS3 ?_ ?_
              rotate_left
              · intro w' hw'; go_simp; with_reducible rfl
              go_simp
              refine H_take (i := 21) (v := ?_) rfl (by as_aux_lemma => kernel_rfl) (by as_aux_lemma => kernel_rfl) (by as_aux_lemma => kernel_rfl) (fun _ _ _ h => h) (by rfl) hS3 ?_ ?_
              rotate_left
              · intro w' hw'; go_simp; with_reducible rfl
              go_simp
              refine H_take (i := 22) (v := ?_) rfl (by as_aux_lemma => kernel_rfl) (by as_aux_lemma => kernel_rfl) (by as_aux_lemma => kernel_rfl) (fun _ _ _ h => h) (by rfl) hS3 ?_ ?_
              rotate_left
              · intro w' hw'; go_simp; with_reducible rfl
              go_simp
              refine H_take (i := 23) (v := ?_) rfl (by as_aux_lemma => kernel_rfl) (by as_aux_lemma => kernel_rfl) (by as_aux_lemma => kernel_rfl) (fun _ _ _ h => h) (by rfl) hS3 ?_ ?_
              rotate_left
              · intro w' hw'; go_simp; with_reducible rfl
              go_simp
              refine H_take (i := 24) (v := ?_) rfl (by as_aux_lemma => kernel_rfl) (by as_aux_lemma => kernel_rfl) (by as_aux_lemma => kernel_rfl) (fun _ _ _ h => h) (by rfl) hS3 ?_ ?_
              rotate_left
              · intro w' hw'; go_simp; with_reducible rfl
              go_simp
              refine H_take (i := 25) (v := ?_) rfl (by as_aux_lemma => kernel_rfl) (by as_aux_lemma => kernel_rfl) (by as_aux_lemma => kernel_rfl) (fun _ _ _ h => h) (by rfl) hS3 ?_ ?_
              rotate_left
              · intro w' hw'; go_simp; with_reducible rfl
              go_simp
              refine H_take (i := 26) (v := ?_) rfl (by as_aux_lemma => kernel_rfl) (by as_aux_lemma => kernel_rfl) (by as_aux_lemma => kernel_rfl) (fun _ _ _ h => h) (by rfl) hS3 ?_ ?_
              rotate_left
              · intro w' hw'; go_simp; with_reducible rfl
              go_simp
              refine H_take (i := 27) (v := ?_) rfl (by as_aux_lemma => kernel_rfl) (by as_aux_lemma => kernel_rfl) (by as_aux_lemma => kernel_rfl) (fun _ _ _ h => h) (by rfl) hS3 ?_ ?_
              rotate_left
              · intro w' hw'; go_simp; with_reducible rfl
              go_simp
              refine H_take (i := 28) (v := ?_) rfl (by as_aux_lemma => kernel_rfl) (by as_aux_lemma => kernel_rfl) (by as_aux_lemma => kernel_rfl) (fun _ _ _ h => h) (by rfl) hS3 ?_ ?_
              rotate_left
              · intro w' hw'; go_simp; with_reducible rfl
              go_simp
              refine H_take (i := 29) (v := ?_) rfl (by as_aux_lemma => kernel_rfl) (by as_aux_lemma => kernel_rfl) (by as_aux_lemma => kernel_rfl) (fun _ _ _ h => h) (by rfl) hS3 ?_ ?_
              rotate_left
              · intro w' hw'; go_simp; with_reducible rfl
              go_simp
              refine H_take (i := 30) (v := ?_) rfl (by as_aux_lemma => kernel_rfl) (by as_aux_lemma => kernel_rfl) (by as_aux_lemma => kernel_rfl) (fun _ _ _ h => h) (by rfl) hS3 ?_ ?_
              rotate_left
              · intro w' hw'; go_simp; with_reducible rfl
              go_simp
              refine H_skip (i := 31) rfl (by as_aux_lemma => kernel_rfl) (by as_aux_lemma => kernel_rfl) (by as_aux_lemma => kernel_rfl) (fun _ _ _ h => h) (by rfl) hS3 ?_
              go_simp
              refine H_skip (i := 32) rfl (by as_aux_lemma => kernel_rfl) (by as_aux_lemma => kernel_rfl) (by as_aux_lemma => kernel_rfl) (fun _ _ _ h => h) (by rfl) hS3 ?_
              go_simp
              refine H_skip (i := 33) rfl (by as_aux_lemma => kernel_rfl) (by as_aux_lemma => kernel_rfl) (by as_aux_lemma => kernel_rfl) (fun _ _ _ h => h) (by rfl) hS3 ?_
              go_simp
              refine H_skip (i := 34) rfl (by as_aux_lemma => kernel_rfl) (by as_aux_lemma => kernel_rfl) (by as_aux_lemma => kernel_rfl) (fun _ _ _ h => h) (by rfl) hS3 ?_
              go_simp
              refine H_skip (i := 35) rfl (by as_aux_lemma => kernel_rfl) (by as_aux_lemma => kernel_rfl) (by as_aux_lemma => kernel_rfl) (fun _ _ _ h => h) (by rfl) hS3 ?_
              go_simp
              refine H_skip (i := 36) rfl (by as_aux_lemma => kernel_rfl) (by as_aux_lemma => kernel_rfl) (by as_aux_lemma => kernel_rfl) (fun _ _ _ h => h) (by rfl) hS3 ?_
              go_simp
              refine H_skip (i := 37) rfl (by as_aux_lemma => kernel_rfl) (by as_aux_lemma => kernel_rfl) (by as_aux_lemma => kernel_rfl) (fun _ _ _ h => h) (by rfl) hS3 ?_
              go_simp
              refine H_take (i := 38) (v := ?_) rfl (by as_aux_lemma => kernel_rfl) (by as_aux_lemma => kernel_rfl) (by as_aux_lemma => kernel_rfl) (fun _ _ _ h => h) (by rfl) hS3 ?_ ?_
              rotate_left
              · intro w' hw'; go_simp; with_reducible rfl
              go_simp
              refine H_take (i := 39) (v := ?_) rfl (by as_aux_lemma => kernel_rfl) (by as_aux_lemma => kernel_rfl) (by as_aux_lemma => kernel_rfl) (fun _ _ _ h => h) (by rfl) hS3 ?_ ?_
              rotate_left
              · intro w' hw'; go_simp; with_reducible rfl
              go_simp
              refine H_skip (i := 40) rfl (by as_aux_lemma => kernel_rfl) (by as_aux_lemma => kernel_rfl) (by as_aux_lemma => kernel_rfl) (fun _ _ _ h => h) (by rfl) hS3 ?_
              go_simp
              refine H_skip (i := 41) rfl (by as_aux_lemma => kernel_rfl) (by as_aux_lemma => kernel_rfl) (by as_aux_lemma => kernel_rfl) (fun _ _ _ h => h) (by rfl) hS3 ?_
              go_simp
              refine H_skip (i := 42) rfl (by as_aux_lemma => kernel_rfl) (by as_aux_lemma => kernel_rfl) (by as_aux_lemma => kernel_rfl) (fun _ _ _ h => h) (by rfl) hS3 ?_
              go_simp
              refine H_skip (i := 43) rfl (by as_aux_lemma => kernel_rfl) (by as_aux_lemma => kernel_rfl) (by as_aux_lemma => kernel_rfl) (fun _ _ _ h => h) (by rfl) hS3 ?_
              go_simp
              refine H_skip (i := 44) rfl (by as_aux_lemma => kernel_rfl) (by as_aux_lemma => kernel_rfl) (by as_aux_lemma => kernel_rfl) (fun _ _ _ h => h) (by rfl) hS3 ?_
              go_simp
              refine H_skip (i := 45) rfl (by as_aux_lemma => kernel_rfl) (by as_aux_lemma => kernel_rfl) (by as_aux_lemma => kernel_rfl) (fun _ _ _ h => h) (by rfl) hS3 ?_
              go_simp
              refine H_skip (i := 46) rfl (by as_aux_lemma => kernel_rfl) (by as_aux_lemma => kernel_rfl) (by as_aux_lemma => kernel_rfl) (fun _ _ _ h => h) (by rfl) hS3 ?_
              go_simp
              refine H_take (i := 47) (v := ?_) rfl (by as_aux_lemma => kernel_rfl) (by as_aux_lemma => kernel_rfl) (by as_aux_lemma => kernel_rfl) (fun _ _ _ h => h) (by rfl) hS3 ?_ ?_
              rotate_left
              · intro w' hw'; go_simp; with_reducible rfl
              go_simp
              refine wpAnyH_done (by as_aux_lemma => kernel_rfl) ?_ _
              go_wp2_with fail
              go_meet
              case rel => exact ⟨by rw [HOK.out]; rfl, Lib.hid hS3⟩
            · have q5 : decide (o < q) = false := decide_eq_false h5
              have hw5 : IntKind.i64.wrap (o - q) = o - q := IntWalk.i64_in _ (by omega)
              by_cases h6 : o - q < (n : Int)
              · have q6 : decide (o - q < (n : Int)) = true := decide_eq_true h6
                have HOK : Hid (ok = false) := Lib.hid (by rw [HO1.out]; exact decide_eq_false (by omega))
                refine wp_region_held (S := fun w' => Below W1.heap.size W1 w') (by kernel_rfl) ?_
                have hS : Below W1.heap.size W1 W1.drew := (Below.refl _ _).drew
                refine H_take (i := 0) (v := ?_) rfl (by as_aux_lemma => kernel_rfl) (by as_aux_lemma => kernel_rfl) (by as_aux_lemma => kernel_rfl) (fun _ _ _ h => h) (by rfl) hS ?_ ?_
                rotate_left
                · intro w' hw'; go_simp; with_reducible rfl
                go_simp
                refine H_take (i := 1) (v := ?_) rfl (by as_aux_lemma => kernel_rfl) (by as_aux_lemma => kernel_rfl) (by as_aux_lemma => kernel_rfl) (fun _ _ _ h => h) (by rfl) hS ?_ ?_
                rotate_left
                · intro w' hw'; go_simp; with_reducible rfl
                go_simp
                refine H_one (i := 2) (by as_aux_lemma => kernel_rfl) rfl (by rfl) ?_
                go_simp
                refine (HRR.out _).mono ?_
                rintro e w3 ⟨rfl, hb3⟩
                have hS3 : Below W1.heap.size W1 w3 := hS.trans (hb3.mono hS.size)
                clear hb3
                refine ⟨hS3, ?_⟩
                go_simp
                refine H_take (i := 3) (v := ?_) rfl (by as_aux_lemma => kernel_rfl) (by as_aux_lemma => kernel_rfl) (by as_aux_lemma => kernel_rfl) (fun _ _ _ h => h) (by rfl) hS3 ?_ ?_
                rotate_left
                · intro w' hw'; go_simp; with_reducible rfl
                go_simp
                refine H_take (i := 4) (v := ?_) rfl (by as_aux_lemma => kernel_rfl) (by as_aux_lemma => kernel_rfl) (by as_aux_lemma => kernel_rfl) (fun _ _ _ h => h) (by rfl) hS3 ?_ ?_
                rotate_left
                · intro w' hw'; go_simp; with_reducible rfl
                go_simp
                refine H_take (i := 5) (v := ?_) rfl (by as_aux_lemma => kernel_rfl) (by as_aux_lemma => kernel_rfl) (by as_aux_lemma => kernel_rfl) (fun _ _ _ h => h) (by rfl) hS3 ?_ ?_
                rotate_left
                · intro w' hw'; go_simp; with_reducible rfl
                go_simp
                refine H_take (i := 6) (v := ?_) rfl (by as_aux_lemma => kernel_rfl) (by as_aux_lemma => kernel_rfl) (by as_aux_lemma => kernel_rfl) (fun _ _ _ h => h) (by rfl) hS3 ?_ ?_
                rotate_left
                · intro w' hw'; go_simp; with_reducible rfl
                go_simp
                refine H_take (i := 7) (v := ?_) rfl (by as_aux_lemma => kernel_rfl) (by as_aux_lemma => kernel_rfl) (by as_aux_lemma => kernel_rfl) (fun _ _ _ h => h) (by rfl) hS3 ?_ ?_
                rotate_left
                · intro w' hw'; go_simp; with_reducible rfl
                go_simp
                refine H_take (i := 8) (v := ?_) rfl (by as_aux_lemma => kernel_rfl) (by as_aux_lemma => kernel_rfl) (by as_aux_lemma => kernel_rfl) (fun _ _ _ h => h) (by rfl) hS3 ?_ ?_
                rotate_left
                · intro w' hw'; go_simp; with_reducible rfl
                go_simp
                refine H_take (i := 9) (v := ?_) rfl (by as_aux_lemma => kernel_rfl) (by as_aux_lemma => kernel_rfl) (by as_aux_lemma => kernel_rfl) (fun _ _ _ h => h) (by rfl) hS3 ?_ ?_
                rotate_left
                · intro w' hw'; go_simp; with_reducible rfl
                go_simp
                refine H_take (i := 10) (v := ?_) rfl (by as_aux_lemma => kernel_rfl) (by as_aux_lemma => kernel_rfl) (by as_aux_lemma => kernel_rfl) (fun _ _ _ h => h) (by rfl) hS3 ?_ ?_
                rotate_left
                · intro w' hw'; go_simp; with_reducible rfl
                go_simp
                refine H_take (i := 11) (v := ?_) rfl (by as_aux_lemma => kernel_rfl) (by as_aux_lemma => kernel_rfl) (by as_aux_lemma => kernel_rfl) (fun _ _ _ h => h) (by rfl) hS3 ?_ ?_
                rotate_left
                · intro w' hw'; go_simp; with_reducible rfl
                go_simp
                refine H_take (i := 12) (v := ?_) rfl (by as_aux_lemma => kernel_rfl) (by as_aux_lemma => kernel_rfl) (by as_aux_lemma => kernel_rfl) (fun _ _ _ h => h) (by rfl) hS3 ?_ ?_
                rotate_left
                · intro w' hw'; go_simp; with_reducible rfl
                go_simp
                refine H_take (i := 13) (v := ?_) rfl (by as_aux_lemma => kernel_rfl) (by as_aux_lemma => kernel_rfl) (by as_aux_lemma => kernel_rfl) (fun _ _ _ h => h) (by rfl) hS3 ?_ ?_
                rotate_left
                · intro w' hw'; go_simp; with_reducible rfl
                go_simp
                refine H_take (i := 14) (v := ?_) rfl (by as_aux_lemma => kernel_rfl) (by as_aux_lemma => kernel_rfl) (by as_aux_lemma => kernel_rfl) (fun _ _ _ h => h) (by rfl) hS3 ?_ ?_
                rotate_left
                · intro w' hw'; go_simp; with_reducible rfl
                go_simp
                refine H_take (i := 15) (v := ?_) rfl (by as_aux_lemma => kernel_rfl) (by as_aux_lemma => kernel_rfl) (by as_aux_lemma => kernel_rfl) (fun _ _ _ h => h) (by rfl) hS3 ?_ ?_
                rotate_left
                · intro w' hw'; go_simp; with_reducible rfl
                go_simp
                refine H_take (i := 16) (v := ?_) rfl (by as_aux_lemma => kernel_rfl) (by as_aux_lemma => kernel_rfl) (by as_aux_lemma => kernel_rfl) (fun _ _ _ h => h) (by rfl) hS3 ?_ ?_
                rotate_left
                · intro w' hw'; go_simp; with_reducible rfl
                go_simp
                refine H_take (i := 17) (v := ?_) rfl (by as_aux_lemma => kernel_rfl) (by as_aux_lemma => kernel_rfl) (by as_aux_lemma => kernel_rfl) (fun _ _ _ h => h) (by rfl) hS3 ?_ ?_
                rotate_left
                · intro w' hw'; go_simp; with_reducible rfl
                go_simp
                refine H_take (i := 18) (v := ?_) rfl (by as_aux_lemma => kernel_rfl) (by as_aux_lemma => kernel_rfl) (by as_aux_lemma => kernel_rfl) (fun _ _ _ h => h) (by rfl) hS3 ?_ ?_
                rotate_left
                · intro w' hw'; go_simp; with_reducible rfl
                go_simp
                refine H_take (i := 19) (v := ?_) rfl (by as_aux_lemma => kernel_rfl) (by as_aux_lemma => kernel_rfl) (by as_aux_lemma => kernel_rfl) (fun _ _ _ h => h) (by rfl) hS3 ?_ ?_
                rotate_left
                · intro w' hw'; go_simp; with_reducible rfl
                go_simp
                refine H_take (i := 20) (v := ?_) rfl (by as_aux_lemma => kernel_rfl) (by as_aux_lemma => kernel_rfl) (by as_aux_lemma => kernel_rfl) (fun _ _ _ h => h) (by rfl) hS3 ?_ ?_
                rotate_left
                · intro w' hw'; go_simp; with_reducible rfl
                go_simp
                refine H_take (i := 21) (v := ?_) rfl (by as_aux_lemma => kernel_rfl) (by as_aux_lemma => kernel_rfl) (by as_aux_lemma => kernel_rfl) (fun _ _ _ h => h) (by rfl) hS3 ?_ ?_
                rotate_left
                · intro w' hw'; go_simp; with_reducible rfl
                go_simp
                refine H_take (i := 22) (v := ?_) rfl (by as_aux_lemma => kernel_rfl) (by as_aux_lemma => kernel_rfl) (by as_aux_lemma => kernel_rfl) (fun _ _ _ h => h) (by rfl) hS3 ?_ ?_
                rotate_left
                · intro w' hw'; go_simp; with_reducible rfl
                go_simp
                refine H_take (i := 23) (v := ?_) rfl (by as_aux_lemma => kernel_rfl) (by as_aux_lemma => kernel_rfl) (by as_aux_lemma => kernel_rfl) (fun _ _ _ h => h) (by rfl) hS3 ?_ ?_
                rotate_left
                · intro w' hw'; go_simp; with_reducible rfl
                go_simp
                refine H_take (i := 24) (v := ?_) rfl (by as_aux_lemma => kernel_rfl) (by as_aux_lemma => kernel_rfl) (by as_aux_lemma => kernel_rfl) (fun _ _ _ h => h) (by rfl) hS3 ?_ ?_
                rotate_left
                · intro w' hw'; go_simp; with_reducible rfl
                go_simp
                refine H_take (i := 25) (v := ?_) rfl (by as_aux_lemma => kernel_rfl) (by as_aux_lemma => kernel_rfl) (by as_aux_lemma => kernel_rfl) (fun _ _ _ h => h) (by rfl) hS3 ?_ ?_
                rotate_left
                · intro w' hw'; go_simp; with_reducible rfl
                go_simp
                refine H_take (i := 26) (v := ?_) rfl (by as_aux_lemma => kernel_rfl) (by as_aux_lemma => kernel_rfl) (by as_aux_lemma => kernel_rfl) (fun _ _ _ h => h) (by rfl) hS3 ?_ ?_
                rotate_left
                · intro w' hw'; go_simp; with_reducible rfl
                go_simp
                refine H_take (i := 27) (v := ?_) rfl (by as_aux_lemma => kernel_rfl) (by as_aux_lemma => kernel_rfl) (by as_aux_lemma => kernel_rfl) (fun _ _ _ h => h) (by rfl) hS3 ?_ ?_
                rotate_left
                · intro w' hw'; go_simp; with_reducible rfl
                go_simp
                refine H_take (i := 28) (v := ?_) rfl (by as_aux_lemma => kernel_rfl) (by as_aux_lemma => kernel_rfl) (by as_aux_lemma => kernel_rfl) (fun _ _ _ h => h) (by rfl) hS3 ?_ ?_
                rotate_left
                · intro w' hw'; go_simp; with_reducible rfl
                go_simp
                refine H_take (i := 29) (v := ?_) rfl (by as_aux_lemma => kernel_rfl) (by as_aux_lemma => kernel_rfl) (by as_aux_lemma => kernel_rfl) (fun _ _ _ h => h) (by rfl) hS3 ?_ ?_
                rotate_left
                · intro w' hw'; go_simp; with_reducible rfl
                go_simp
                refine H_take (i := 30) (v := ?_) rfl (by as_aux_lemma => kernel_rfl) (by as_aux_lemma => kernel_rfl) (by as_aux_lemma => kernel_rfl) (fun _ _ _ h => h) (by rfl) hS3 ?_ ?_
                rotate_left
                · intro w' hw'; go_simp; with_reducible rfl
                go_simp
                refine H_take (i := 31) (v := ?_) rfl (by as_aux_lemma => kernel_rfl) (by as_aux_lemma => kernel_rfl) (by as_aux_lemma => kernel_rfl) (fun _ _ _ h => h) (by rfl) hS3 ?_ ?_
                rotate_left
                · intro w' hw'; go_simp; with_reducible rfl
                go_simp
                refine H_take (i := 32) (v := ?_) rfl (by as_aux_lemma => kernel_rfl) (by as_aux_lemma => kernel_rfl) (by as_aux_lemma => kernel_rfl) (fun _ _ _ h => h) (by rfl) hS3 ?_ ?_
                rotate_left
                · intro w' hw'; go_simp; with_reducible rfl
                go_simp
                refine H_take (i := 33) (v := ?_) rfl (by as_aux_lemma => kernel_rfl) (by as_aux_lemma => kernel_rfl) (by as_aux_lemma => kernel_rfl) (fun _ _ _ h => h) (by rfl) hS3 ?_ ?_
                rotate_left
                · intro w' hw'; go_simp; with_reducible rfl
                go_simp
                refine H_take (i := 34) (v := ?_) rfl (by as_aux_lemma => kernel_rfl) (by as_aux_lemma => kernel_rfl) (by as_aux_lemma => kernel_rfl) (fun _ _ _ h => h) (by rfl) hS3 ?_ ?_
                rotate_left
                · intro w' hw'; go_simp; with_reducible rfl
                go_simp
                refine H_take (i := 35) (v := ?_) rfl (by as_aux_lemma => kernel_rfl) (by as_aux_lemma => kernel_rfl) (by as_aux_lemma => kernel_rfl) (fun _ _ _ h => h) (by rfl) hS3 ?_ ?_
                rotate_left
                · intro w' hw'; go_simp; with_reducible rfl
                go_simp
                refine H_take (i := 36) (v := ?_) rfl (by as_aux_lemma => kernel_rfl) (by as_aux_lemma => kernel_rfl) (by as_aux_lemma => kernel_rfl) (fun _ _ _ h => h) (by rfl) hS3 ?_ ?_
                rotate_left
                · intro w' hw'; go_simp; with_reducible rfl
                go_simp
                refine H_take (i := 37) (v := ?_) rfl (by as_aux_lemma => kernel_rfl) (by as_aux_lemma => kernel_rfl) (by as_aux_lemma => kernel_rfl) (fun _ _ _ h => h) (by rfl) hS3 ?_ ?_
                rotate_left
                · intro w' hw'; go_simp; with_reducible rfl
                go_simp
                refine H_take (i := 38) (v := ?_) rfl (by as_aux_lemma => kernel_rfl) (by as_aux_lemma => kernel_rfl) (by as_aux_lemma => kernel_rfl) (fun _ _ _ h => h) (by rfl) hS3 ?_ ?_
                rotate_left
                · intro w' hw'; go_simp; with_reducible rfl
                go_simp
                refine H_take (i := 39) (v := ?_) rfl (by as_aux_lemma => kernel_rfl) (by as_aux_lemma => kernel_rfl) (by as_aux_lemma => kernel_rfl) (fun _ _ _ h => h) (by rfl) hS3 ?_ ?_
                rotate_left
                · intro w' hw'; go_simp; with_reducible rfl
                go_simp
                refine H_skip (i := 40) rfl (by as_aux_lemma => kernel_rfl) (by as_aux_lemma => kernel_rfl) (by as_aux_lemma => kernel_rfl) (fun _ _ _ h => h) (by rfl) hS3 ?_
                go_simp
                refine H_skip (i := 41) rfl (by as_aux_lemma => kernel_rfl) (by as_aux_lemma => kernel_rfl) (by as_aux_lemma => kernel_rfl) (fun _ _ _ h => h) (by rfl) hS3 ?_
                go_simp
                refine H_skip (i := 42) rfl (by as_aux_lemma => kernel_rfl) (by as_aux_lemma => kernel_rfl) (by as_aux_lemma => kernel_rfl) (fun _ _ _ h => h) (by rfl) hS3 ?_
                go_simp
                refine H_skip (i := 43) rfl (by as_aux_lemma => kernel_rfl) (by as_aux_lemma => kernel_rfl) (by as_aux_lemma => kernel_rfl) (fun _ _ _ h => h) (by rfl) hS3 ?_
                go_simp
                refine H_skip (i := 44) rfl (by as_aux_lemma => kernel_rfl) (by as_aux_lemma => kernel_rfl) (by as_aux_lemma => kernel_rfl) (fun _ _ _ h => h) (by rfl) hS3 ?_
                go_simp
                refine H_skip (i := 45) rfl (by as_aux_lemma => kernel_rfl) (by as_aux_lemma => kernel_rfl) (by as_aux_lemma => kernel_rfl) (fun _ _ _ h => h) (by rfl) hS3 ?_
                go_simp
                refine H_skip (i := 46) rfl (by as_aux_lemma => kernel_rfl) (by as_aux_lemma => kernel_rfl) (by as_aux_lemma => kernel_rfl) (fun _ _ _ h => h) (by rfl) hS3 ?_
                go_simp
                refine H_take (i := 47) (v := ?_) rfl (by as_aux_lemma => kernel_rfl) (by as_aux_lemma => kernel_rfl) (by as_aux_lemma => kernel_rfl) (fun _ _ _ h => h) (by rfl) hS3 ?_ ?_
                rotate_left
                · intro w' hw'; go_simp; with_reducible rfl
                go_simp
                refine wpAnyH_done (by as_aux_lemma => kernel_rfl) ?_ _
                go_wp2_with fail
                go_meet
                case rel => exact ⟨by rw [HOK.out]; rfl, Lib.hid hS3⟩
              · have q6 : decide (o - q < (n : Int)) = false := decide_eq_false h6
                by_cases h7 : n = 0
                · have q7 : ((n : Int) == 0) = true := by simp [h7]
                  by_cases h8 : 0 < o
                  · have q8 : decide (0 < o) = true := decide_eq_true h8
                    have HOK : Hid (ok = false) := Lib.hid (by rw [HO1.out]; exact decide_eq_false (by omega))
                    clear h7
                    refine wp_region_held (S := fun w' => Below W1.heap.size W1 w') (by kernel_rfl) ?_
                    have hS : Below W1.heap.size W1 W1.drew := (Below.refl _ _).drew
                    refine H_take (i := 0) (v := ?_) rfl (by as_aux_lemma => kernel_rfl) (by as_aux_lemma => kernel_rfl) (by as_aux_lemma => kernel_rfl) (fun _ _ _ h => h) (by rfl) hS ?_ ?_
                    rotate_left
                    · intro w' hw'; go_simp; with_reducible rfl
                    go_simp
                    refine H_take (i := 1) (v := ?_) rfl (by as_aux_lemma => kernel_rfl) (by as_aux_lemma => kernel_rfl) (by as_aux_lemma => kernel_rfl) (fun _ _ _ h => h) (by rfl) hS ?_ ?_
                    rotate_left
                    · intro w' hw'; go_simp; with_reducible rfl
                    go_simp
                    refine H_one (i := 2) (by as_aux_lemma => kernel_rfl) rfl (by rfl) ?_
                    go_simp
                    refine (HRR.out _).mono ?_
                    rintro e w3 ⟨rfl, hb3⟩
                    have hS3 : Below W1.heap.size W1 w3 := hS.trans (hb3.mono hS.size)
                    clear hb3
                    refine ⟨hS3, ?_⟩
                    go_simp
                    refine H_take (i := 3) (v := ?_) rfl (by as_aux_lemma => kernel_rfl) (by as_aux_lemma => kernel_rfl) (by as_aux_lemma => kernel_rfl) (fun _ _ _ h => h) (by rfl) hS3 ?_ ?_
                    rotate_left
                    · intro w' hw'; go_simp; with_reducible rfl
                    go_simp
                    refine H_take (i := 4) (v := ?_) rfl (by as_aux_lemma => kernel_rfl) (by as_aux_lemma => kernel_rfl) (by as_aux_lemma => kernel_rfl) (fun _ _ _ h => h) (by rfl) hS3 ?_ ?_
                    rotate_left
                    · intro w' hw'; go_simp; with_reducible rfl
                    go_simp
                    refine H_take (i := 5) (v := ?_) rfl (by as_aux_lemma => kernel_rfl) (by as_aux_lemma => kernel_rfl) (by as_aux_lemma => kernel_rfl) (fun _ _ _ h => h) (by rfl) hS3 ?_ ?_
                    rotate_left
                    · intro w' hw'; go_simp; with_reducible rfl
                    go_simp
                    refine H_take (i := 6) (v := ?_) rfl (by as_aux_lemma => kernel_rfl) (by as_aux_lemma => kernel_rfl) (by as_aux_lemma => kernel_rfl) (fun _ _ _ h => h) (by rfl) hS3 ?_ ?_
                    rotate_left
                    · intro w' hw'; go_simp; with_reducible rfl
                    go_simp
                    refine H_take (i := 7) (v := ?_) rfl (by as_aux_lemma => kernel_rfl) (by as_aux_lemma => kernel_rfl) (by as_aux_lemma => kernel_rfl) (fun _ _ _ h => h) (by rfl) hS3 ?_ ?_
                    rotate_left
                    · intro w' hw'; go_simp; with_reducible rfl
                    go_simp
                    refine H_take (i := 8) (v := ?_) rfl (by as_aux_lemma => kernel_rfl) (by as_aux_lemma => kernel_rfl) (by as_aux_lemma => kernel_rfl) (fun _ _ _ h => h) (by rfl) hS3 ?_ ?_
                    rotate_left
                    · intro w' hw'; go_simp; with_reducible rfl
                    go_simp
                    refine H_take (i := 9) (v := ?_) rfl (by as_aux_lemma => kernel_rfl) (by as_aux_lemma => kernel_rfl) (by as_aux_lemma => kernel_rfl) (fun _ _ _ h => h) (by rfl) hS3 ?_ ?_
                    rotate_left
                    · intro w' hw'; go_simp; with_reducible rfl
                    go_simp
                    refine H_take (i := 10) (v := ?_) rfl (by as_aux_lemma => kernel_rfl) (by as_aux_lemma => kernel_rfl) (by as_aux_lemma => kernel_rfl) (fun _ _ _ h => h) (by rfl) hS3 ?_ ?_
                    rotate_left
                    · intro w' hw'; go_simp; with_reducible rfl
                    go_simp
                    refine H_take (i := 11) (v := ?_) rfl (by as_aux_lemma => kernel_rfl) (by as_aux_lemma => kernel_rfl) (by as_aux_lemma => kernel_rfl) (fun _ _ _ h => h) (by rfl) hS3 ?_ ?_
                    rotate_left
                    · intro w' hw'; go_simp; with_reducible rfl
                    go_simp
                    refine H_take (i := 12) (v := ?_) rfl (by as_aux_lemma => kernel_rfl) (by as_aux_lemma => kernel_rfl) (by as_aux_lemma => kernel_rfl) (fun _ _ _ h => h) (by rfl) hS3 ?_ ?_
                    rotate_left
                    · intro w' hw'; go_simp; with_reducible rfl
                    go_simp
                    refine H_take (i := 13) (v := ?_) rfl (by as_aux_lemma => kernel_rfl) (by as_aux_lemma => kernel_rfl) (by as_aux_lemma => kernel_rfl) (fun _ _ _ h => h) (by rfl) hS3 ?_ ?_
                    rotate_left
                    · intro w' hw'; go_simp; with_reducible rfl
                    go_simp
                    refine H_take (i := 14) (v := ?_) rfl (by as_aux_lemma => kernel_rfl) (by as_aux_lemma => kernel_rfl) (by as_aux_lemma => kernel_rfl) (fun _ _ _ h => h) (by rfl) hS3 ?_ ?_
                    rotate_left
                    · intro w' hw'; go_simp; with_reducible rfl
                    go_simp
                    refine H_take (i := 15) (v := ?_) rfl (by as_aux_lemma => kernel_rfl) (by as_aux_lemma => kernel_rfl) (by as_aux_lemma => kernel_rfl) (fun _ _ _ h => h) (by rfl) hS3 ?_ ?_
                    rotate_left
                    · intro w' hw'; go_simp; with_reducible rfl
                    go_simp
                    refine H_take (i := 16) (v := ?_) rfl (by as_aux_lemma => kernel_rfl) (by as_aux_lemma => kernel_rfl) (by as_aux_lemma => kernel_rfl) (fun _ _ _ h => h) (by rfl) hS3 ?_ ?_
                    rotate_left
                    · intro w' hw'; go_simp; with_reducible rfl
                    go_simp
                    refine H_take (i := 17) (v := ?_) rfl (by as_aux_lemma => kernel_rfl) (by as_aux_lemma => kernel_rfl) (by as_aux_lemma => kernel_rfl) (fun _ _ _ h => h) (by rfl) hS3 ?_ ?_
                    rotate_left
                    · intro w' hw'; go_simp; with_reducible rfl
                    go_simp
                    refine H_take (i := 18) (v := ?_) rfl (by as_aux_lemma => kernel_rfl) (by as_aux_lemma => kernel_rfl) (by as_aux_lemma => kernel_rfl) (fun _ _ _ h => h) (by rfl) hS3 ?_ ?_
                    rotate_left
                    · intro w' hw'; go_simp; with_reducible rfl
                    go_simp
                    refine H_take (i := 19) (v := ?_) rfl (by as_aux_lemma => kernel_rfl) (by as_aux_lemma => kernel_rfl) (by as_aux_lemma => kernel_rfl) (fun _ _ _ h => h) (by rfl) hS3 ?_ ?_
                    rotate_left
                    · intro w' hw'; go_simp; with_reducible rfl
                    go_simp
                    refine H_take (i := 20) (v := ?_) rfl (by as_aux_lemma => kernel_rfl) (by as_aux_lemma => kernel_rfl) (by as_aux_lemma => kernel_rfl) (fun _ _ _ h => h) (by rfl) hS3 ?_ ?_
                    rotate_left
                    · intro w' hw'; go_simp; with_reducible rfl
                    go_simp
                    refine H_take (i := 21) (v := ?_) rfl (by as_aux_lemma => kernel_rfl) (by as_aux_lemma => kernel_rfl) (by as_aux_lemma => kernel_rfl) (fun _ _ _ h => h) (by rfl) hS3 ?_ ?_
                    rotate_left
                    · intro w' hw'; go_simp; with_reducible rfl
                    go_simp
                    refine H_take (i := 22) (v := ?_) rfl (by as_aux_lemma => kernel_rfl) (by as_aux_lemma => kernel_rfl) (by as_aux_lemma => kernel_rfl) (fun _ _ _ h => h) (by rfl) hS3 ?_ ?_
                    rotate_left
                    · intro w' hw'; go_simp; with_reducible rfl
                    go_simp
                    refine H_take (i := 23) (v := ?_) rfl (by as_aux_lemma => kernel_rfl) (by as_aux_lemma => kernel_rfl) (by as_aux_lemma => kernel_rfl) (fun _ _ _ h => h) (by rfl) hS3 ?_ ?_
                    rotate_left
                    · intro w' hw'; go_simp; with_reducible rfl
                    go_simp
                    refine H_take (i := 24) (v := ?_) rfl (by as_aux_lemma => kernel_rfl) (by as_aux_lemma => kernel_rfl) (by as_aux_lemma => kernel_rfl) (fun _ _ _ h => h) (by rfl) hS3 ?_ ?_
                    rotate_left
                    · intro w' hw'; go_simp; with_reducible rfl
                    go_simp
                    refine H_take (i := 25) (v := ?_) rfl (by as_aux_lemma => kernel_rfl) (by as_aux_lemma => kernel_rfl) (by as_aux_lemma => kernel_rfl) (fun _ _ _ h => h) (by rfl) hS3 ?_ ?_
                    rotate_left
                    · intro w' hw'; go_simp; with_reducible rfl
                    go_simp
                    refine H_take (i := 26) (v := ?_) rfl (by as_aux_lemma => kernel_rfl) (by as_aux_lemma => kernel_rfl) (by as_aux_lemma => kernel_rfl) (fun _ _ _ h => h) (by rfl) hS3 ?_ ?_
                    rotate_left
                    · intro w' hw'; go_simp; with_reducible rfl
                    go_simp
                    refine H_take (i := 27) (v := ?_) rfl (by as_aux_lemma => kernel_rfl) (by as_aux_lemma => kernel_rfl) (by as_aux_lemma => kernel_rfl) (fun _ _ _ h => h) (by rfl) hS3 ?_ ?_
                    rotate_left
                    · intro w' hw'; go_simp; with_reducible rfl
                    go_simp
                    refine H_take (i := 28) (v := ?_) rfl (by as_aux_lemma => kernel_rfl) (by as_aux_lemma => kernel_rfl) (by as_aux_lemma => kernel_rfl) (fun _ _ _ h => h) (by rfl) hS3 ?_ ?_
                    rotate_left
                    · intro w' hw'; go_simp; with_reducible rfl
                    go_simp
                    refine H_take (i := 29) (v := ?_) rfl (by as_aux_lemma => kernel_rfl) (by as_aux_lemma => kernel_rfl) (by as_aux_lemma => kernel_rfl) (fun _ _ _ h => h) (by rfl) hS3 ?_ ?_
                    rotate_left
                    · intro w' hw'; go_simp; with_reducible rfl
                    go_simp
                    refine H_take (i := 30) (v := ?_) rfl (by as_aux_lemma => kernel_rfl) (by as_aux_lemma => kernel_rfl) (by as_aux_lemma => kernel_rfl) (fun _ _ _ h => h) (by rfl) hS3 ?_ ?_
                    rotate_left
                    · intro w' hw'; go_simp; with_reducible rfl
                    go_simp
                    refine H_take (i := 31) (v := ?_) rfl (by as_aux_lemma => kernel_rfl) (by as_aux_lemma => kernel_rfl) (by as_aux_lemma => kernel_rfl) (fun _ _ _ h => h) (by rfl) hS3 ?_ ?_
                    rotate_left
                    · intro w' hw'; go_simp; with_reducible rfl
                    go_simp
                    refine H_take (i := 32) (v := ?_) rfl (by as_aux_lemma => kernel_rfl) (by as_aux_lemma => kernel_rfl) (by as_aux_lemma => kernel_rfl) (fun _ _ _ h => h) (by rfl) hS3 ?_ ?_
                    rotate_left
                    · intro w' hw'; go_simp; with_reducible rfl
                    go_simp
                    refine H_take (i := 33) (v := ?_) rfl (by as_aux_lemma => kernel_rfl) (by as_aux_lemma => kernel_rfl) (by as_aux_lemma => kernel_rfl) (fun _ _ _ h => h) (by rfl) hS3 ?_ ?_
                    rotate_left
                    · intro w' hw'; go_simp; with_reducible rfl
                    go_simp
                    refine H_take (i := 34) (v := ?_) rfl (by as_aux_lemma => kernel_rfl) (by as_aux_lemma => kernel_rfl) (by as_aux_lemma => kernel_rfl) (fun _ _ _ h => h) (by rfl) hS3 ?_ ?_
                    rotate_left
                    · intro w' hw'; go_simp; with_reducible rfl
                    go_simp
                    refine H_take (i := 35) (v := ?_) rfl (by as_aux_lemma => kernel_rfl) (by as_aux_lemma => kernel_rfl) (by as_aux_lemma => kernel_rfl) (fun _ _ _ h => h) (by rfl) hS3 ?_ ?_
                    rotate_left
                    · intro w' hw'; go_simp; with_reducible rfl
                    go_simp
                    refine H_take (i := 36) (v := ?_) rfl (by as_aux_lemma => kernel_rfl) (by as_aux_lemma => kernel_rfl) (by as_aux_lemma => kernel_rfl) (fun _ _ _ h => h) (by rfl) hS3 ?_ ?_
                    rotate_left
                    · intro w' hw'; go_simp; with_reducible rfl
                    go_simp
                    refine H_take (i := 37) (v := ?_) rfl (by as_aux_lemma => kernel_rfl) (by as_aux_lemma => kernel_rfl) (by as_aux_lemma => kernel_rfl) (fun _ _ _ h => h) (by rfl) hS3 ?_ ?_
                    rotate_left
                    · intro w' hw'; go_simp; with_reducible rfl
                    go_simp
                    refine H_take (i := 38) (v := ?_) rfl (by as_aux_lemma => kernel_rfl) (by as_aux_lemma => kernel_rfl) (by as_aux_lemma => kernel_rfl) (fun _ _ _ h => h) (by rfl) hS3 ?_ ?_
                    rotate_left
                    · intro w' hw'; go_simp; with_reducible rfl
                    go_simp
                    refine H_take (i := 39) (v := ?_) rfl (by as_aux_lemma => kernel_rfl) (by as_aux_lemma => kernel_rfl) (by as_aux_lemma => kernel_rfl) (fun _ _ _ h => h) (by rfl) hS3 ?_ ?_
                    rotate_left
                    · intro w' hw'; go_simp; with_reducible rfl
                    go_simp
                    refine H_take (i := 40) (v := ?_) rfl (by as_aux_lemma => kernel_rfl) (by as_aux_lemma => kernel_rfl) (by as_aux_lemma => kernel_rfl) (fun _ _ _ h => h) (by rfl) hS3 ?_ ?_
                    rotate_left
                    · intro w' hw'; go_simp; with_reducible rfl
                    go_simp
                    refine H_take (i := 41) (v := ?_) rfl (by as_aux_lemma => kernel_rfl) (by as_aux_lemma => kernel_rfl) (by as_aux_lemma => kernel_rfl) (fun _ _ _ h => h) (by rfl) hS3 ?_ ?_
                    rotate_left
                    · intro w' hw'; go_simp; with_reducible rfl
                    go_simp
                    refine H_take (i := 42) (v := ?_) rfl (by as_aux_lemma => kernel_rfl) (by as_aux_lemma => kernel_rfl) (by as_aux_lemma => kernel_rfl) (fun _ _ _ h => h) (by rfl) hS3 ?_ ?_
                    rotate_left
                    · intro w' hw'; go_simp; with_reducible rfl
                    go_simp
                    refine H_take (i := 43) (v := ?_) rfl (by as_aux_lemma => kernel_rfl) (by as_aux_lemma => kernel_rfl) (by as_aux_lemma => kernel_rfl) (fun _ _ _ h => h) (by rfl) hS3 ?_ ?_
                    rotate_left
                    · intro w' hw'; go_simp; with_reducible rfl
                    go_simp
                    refine H_take (i := 44) (v := ?_) rfl (by as_aux_lemma => kernel_rfl) (by as_aux_lemma => kernel_rfl) (by as_aux_lemma => kernel_rfl) (fun _ _ _ h => h) (by rfl) hS3 ?_ ?_
                    rotate_left
                    · intro w' hw'; go_simp; with_reducible rfl
                    go_simp
                    refine H_take (i := 45) (v := ?_) rfl (by as_aux_lemma => kernel_rfl) (by as_aux_lemma => kernel_rfl) (by as_aux_lemma => kernel_rfl) (fun _ _ _ h => h) (by rfl) hS3 ?_ ?_
                    rotate_left
                    · intro w' hw'; go_simp; with_reducible rfl
                    go_simp
                    refine H_take (i := 46) (v := ?_) rfl (by as_aux_lemma => kernel_rfl) (by as_aux_lemma => kernel_rfl) (by as_aux_lemma => kernel_rfl) (fun _ _ _ h => h) (by rfl) hS3 ?_ ?_
                    rotate_left
                    · intro w' hw'; go_simp; with_reducible rfl
                    go_simp
                    refine H_take (i := 47) (v := ?_) rfl (by as_aux_lemma => kernel_rfl) (by as_aux_lemma => kernel_rfl) (by as_aux_lemma => kernel_rfl) (fun _ _ _ h => h) (by rfl) hS3 ?_ ?_
                    rotate_left
                    · intro w' hw'; go_simp; with_reducible rfl
                    go_simp
                    refine wpAnyH_done (by as_aux_lemma => kernel_rfl) ?_ _
                    go_wp2_with fail
                    go_meet
                    case rel => exact ⟨by rw [HOK.out]; rfl, Lib.hid hS3⟩
                  · have q8 : decide (0 < o) = false := decide_eq_false h8
                    have HOK : Hid (ok = true) := Lib.hid (by rw [HO1.out]; exact decide_eq_true (by omega))
                    clear h7
                    refine wp_region_held (S := fun w' => Below W1.heap.size W1 w') (by kernel_rfl) ?_
                    have hS : Below W1.heap.size W1 W1.drew := (Below.refl _ _).drew
                    refine H_take (i := 0) (v := ?_) rfl (by as_aux_lemma => kernel_rfl) (by as_aux_lemma => kernel_rfl) (by as_aux_lemma => kernel_rfl) (fun _ _ _ h => h) (by rfl) hS ?_ ?_
                    rotate_left
                    · intro w' hw'; go_simp; with_reducible rfl
                    go_simp
                    refine H_take (i := 1) (v := ?_) rfl (by as_aux_lemma => kernel_rfl) (by as_aux_lemma => kernel_rfl) (by as_aux_lemma => kernel_rfl) (fun _ _ _ h => h) (by rfl) hS ?_ ?_
                    rotate_left
                    · intro w' hw'; go_simp; with_reducible rfl
                    go_simp
                    refine H_one (i := 2) (by as_aux_lemma => kernel_rfl) rfl (by rfl) ?_
                    go_simp
                    refine (HRR.out _).mono ?_
                    rintro e w3 ⟨rfl, hb3⟩
                    have hS3 : Below W1.heap.size W1 w3 := hS.trans (hb3.mono hS.size)
                    clear hb3
                    refine ⟨hS3, ?_⟩
                    go_simp
                    refine H_take (i := 3) (v := ?_) rfl (by as_aux_lemma => kernel_rfl) (by as_aux_lemma => kernel_rfl) (by as_aux_lemma => kernel_rfl) (fun _ _ _ h => h) (by rfl) hS3 ?_ ?_
                    rotate_left
                    · intro w' hw'; go_simp; with_reducible rfl
                    go_simp
                    refine H_take (i := 4) (v := ?_) rfl (by as_aux_lemma => kernel_rfl) (by as_aux_lemma => kernel_rfl) (by as_aux_lemma => kernel_rfl) (fun _ _ _ h => h) (by rfl) hS3 ?_ ?_
                    rotate_left
                    · intro w' hw'; go_simp; with_reducible rfl
                    go_simp
                    refine H_take (i := 5) (v := ?_) rfl (by as_aux_lemma => kernel_rfl) (by as_aux_lemma => kernel_rfl) (by as_aux_lemma => kernel_rfl) (fun _ _ _ h => h) (by rfl) hS3 ?_ ?_
                    rotate_left
                    · intro w' hw'; go_simp; with_reducible rfl
                    go_simp
                    refine H_take (i := 6) (v := ?_) rfl (by as_aux_lemma => kernel_rfl) (by as_aux_lemma => kernel_rfl) (by as_aux_lemma => kernel_rfl) (fun _ _ _ h => h) (by rfl) hS3 ?_ ?_
                    rotate_left
                    · intro w' hw'; go_simp; with_reducible rfl
                    go_simp
                    refine H_take (i := 7) (v := ?_) rfl (by as_aux_lemma => kernel_rfl) (by as_aux_lemma => kernel_rfl) (by as_aux_lemma => kernel_rfl) (fun _ _ _ h => h) (by rfl) hS3 ?_ ?_
                    rotate_left
                    · intro w' hw'; go_simp; with_reducible rfl
                    go_simp
                    refine H_take (i := 8) (v := ?_) rfl (by as_aux_lemma => kernel_rfl) (by as_aux_lemma => kernel_rfl) (by as_aux_lemma => kernel_rfl) (fun _ _ _ h => h) (by rfl) hS3 ?_ ?_
                    rotate_left
                    · intro w' hw'; go_simp; with_reducible rfl
                    go_simp
                    refine H_take (i := 9) (v := ?_) rfl (by as_aux_lemma => kernel_rfl) (by as_aux_lemma => kernel_rfl) (by as_aux_lemma => kernel_rfl) (fun _ _ _ h => h) (by rfl) hS3 ?_ ?_
                    rotate_left
                    · intro w' hw'; go_simp; with_reducible rfl
                    go_simp
                    refine H_take (i := 10) (v := ?_) rfl (by as_aux_lemma => kernel_rfl) (by as_aux_lemma => kernel_rfl) (by as_aux_lemma => kernel_rfl) (fun _ _ _ h => h) (by rfl) hS3 ?_ ?_
                    rotate_left
                    · intro w' hw'; go_simp; with_reducible rfl
                    go_simp
                    refine H_take (i := 11) (v := ?_) rfl (by as_aux_lemma => kernel_rfl) (by as_aux_lemma => kernel_rfl) (by as_aux_lemma => kernel_rfl) (fun _ _ _ h => h) (by rfl) hS3 ?_ ?_
                    rotate_left
                    · intro w' hw'; go_simp; with_reducible rfl
                    go_simp
                    refine H_take (i := 12) (v := ?_) rfl (by as_aux_lemma => kernel_rfl) (by as_aux_lemma => kernel_rfl) (by as_aux_lemma => kernel_rfl) (fun _ _ _ h => h) (by rfl) hS3 ?_ ?_
                    rotate_left
                    · intro w' hw'; go_simp; with_reducible rfl
                    go_simp
                    refine H_take (i := 13) (v := ?_) rfl (by as_aux_lemma => kernel_rfl) (by as_aux_lemma => kernel_rfl) (by as_aux_lemma => kernel_rfl) (fun _ _ _ h => h) (by rfl) hS3 ?_ ?_
                    rotate_left
                    · intro w' hw'; go_simp; with_reducible rfl
                    go_simp
                    refine H_take (i := 14) (v := ?_) rfl (by as_aux_lemma => kernel_rfl) (by as_aux_lemma => kernel_rfl) (by as_aux_lemma => kernel_rfl) (fun _ _ _ h => h) (by rfl) hS3 ?_ ?_
                    rotate_left
                    · intro w' hw'; go_simp; with_reducible rfl
                    go_simp
                    refine H_take (i := 15) (v := ?_) rfl (by as_aux_lemma => kernel_rfl) (by as_aux_lemma => kernel_rfl) (by as_aux_lemma => kernel_rfl) (fun _ _ _ h => h) (by rfl) hS3 ?_ ?_
                    rotate_left
                    · intro w' hw'; go_simp; with_reducible rfl
                    go_simp
                    refine H_take (i := 16) (v := ?_) rfl (by as_aux_lemma => kernel_rfl) (by as_aux_lemma => kernel_rfl) (by as_aux_lemma => kernel_rfl) (fun _ _ _ h => h) (by rfl) hS3 ?_ ?_
                    rotate_left
                    · intro w' hw'; go_simp; with_reducible rfl
                    go_simp
                    refine H_take (i := 17) (v := ?_) rfl (by as_aux_lemma => kernel_rfl) (by as_aux_lemma => kernel_rfl) (by as_aux_lemma => kernel_rfl) (fun _ _ _ h => h) (by rfl) hS3 ?_ ?_
                    rotate_left
                    · intro w' hw'; go_simp; with_reducible rfl
                    go_simp
                    refine H_take (i := 18) (v := ?_) rfl (by as_aux_lemma => kernel_rfl) (by as_aux_lemma => kernel_rfl) (by as_aux_lemma => kernel_rfl) (fun _ _ _ h => h) (by rfl) hS3 ?_ ?_
                    rotate_left
                    · intro w' hw'; go_simp; with_reducible rfl
                    go_simp
                    refine H_take (i := 19) (v := ?_) rfl (by as_aux_lemma => kernel_rfl) (by as_aux_lemma => kernel_rfl) (by as_aux_lemma => kernel_rfl) (fun _ _ _ h => h) (by rfl) hS3 ?_ ?_
                    rotate_left
                    · intro w' hw'; go_simp; with_reducible rfl
                    go_simp
                    refine H_take (i := 20) (v := ?_) rfl (by as_aux_lemma => kernel_rfl) (by as_aux_lemma => kernel_rfl) (by as_aux_lemma => kernel_rfl) (fun _ _ _ h => h) (by rfl) hS3 ?_ ?_
                    rotate_left
                    · intro w' hw'; go_simp; with_reducible rfl
                    go_simp
                    refine H_take (i := 21) (v := ?_) rfl (by as_aux_lemma => kernel_rfl) (by as_aux_lemma => kernel_rfl) (by as_aux_lemma => kernel_rfl) (fun _ _ _ h => h) (by rfl) hS3 ?_ ?_
                    rotate_left
                    · intro w' hw'; go_simp; with_reducible rfl
                    go_simp
                    refine H_take (i := 22) (v := ?_) rfl (by as_aux_lemma => kernel_rfl) (by as_aux_lemma => kernel_rfl) (by as_aux_lemma => kernel_rfl) (fun _ _ _ h => h) (by rfl) hS3 ?_ ?_
                    rotate_left
                    · intro w' hw'; go_simp; with_reducible rfl
                    go_simp
                    refine H_take (i := 23) (v := ?_) rfl (by as_aux_lemma => kernel_rfl) (by as_aux_lemma => kernel_rfl) (by as_aux_lemma => kernel_rfl) (fun _ _ _ h => h) (by rfl) hS3 ?_ ?_
                    rotate_left
                    · intro w' hw'; go_simp; with_reducible rfl
                    go_simp
                    refine H_take (i := 24) (v := ?_) rfl (by as_aux_lemma => kernel_rfl) (by as_aux_lemma => kernel_rfl) (by as_aux_lemma => kernel_rfl) (fun _ _ _ h => h) (by rfl) hS3 ?_ ?_
                    rotate_left
                    · intro w' hw'; go_simp; with_reducible rfl
                    go_simp
                    refine H_take (i := 25) (v := ?_) rfl (by as_aux_lemma => kernel_rfl) (by as_aux_lemma => kernel_rfl) (by as_aux_lemma => kernel_rfl) (fun _ _ _ h => h) (by rfl) hS3 ?_ ?_
                    rotate_left
                    · intro w' hw'; go_simp; with_reducible rfl
                    go_simp
                    refine H_take (i := 26) (v := ?_) rfl (by as_aux_lemma => kernel_rfl) (by as_aux_lemma => kernel_rfl) (by as_aux_lemma => kernel_rfl) (fun _ _ _ h => h) (by rfl) hS3 ?_ ?_
                    rotate_left
                    · intro w' hw'; go_simp; with_reducible rfl
                    go_simp
                    refine H_take (i := 27) (v := ?_) rfl (by as_aux_lemma => kernel_rfl) (by as_aux_lemma => kernel_rfl) (by as_aux_lemma => kernel_rfl) (fun _ _ _ h => h) (by rfl) hS3 ?_ ?_
                    rotate_left
                    · intro w' hw'; go_simp; with_reducible rfl
                    go_simp
                    refine H_take (i := 28) (v := ?_) rfl (by as_aux_lemma => kernel_rfl) (by as_aux_lemma => kernel_rfl) (by as_aux_lemma => kernel_rfl) (fun _ _ _ h => h) (by rfl) hS3 ?_ ?_
                    rotate_left
                    · intro w' hw'; go_simp; with_reducible rfl
                    go_simp
                    refine H_take (i := 29) (v := ?_) rfl (by as_aux_lemma => kernel_rfl) (by as_aux_lemma => kernel_rfl) (by as_aux_lemma => kernel_rfl) (fun _ _ _ h => h) (by rfl) hS3 ?_ ?_
                    rotate_left
                    · intro w' hw'; go_simp; with_reducible rfl
                    go_simp
                    refine H_take (i := 30) (v := ?_) rfl (by as_aux_lemma => kernel_rfl) (by as_aux_lemma => kernel_rfl) (by as_aux_lemma => kernel_rfl) (fun _ _ _ h => h) (by rfl) hS3 ?_ ?_
                    rotate_left
                    · intro w' hw'; go_simp; with_reducible rfl
                    go_simp
                    refine H_take (i := 31) (v := ?_) rfl (by as_aux_lemma => kernel_rfl) (by as_aux_lemma => kernel_rfl) (by as_aux_lemma => kernel_rfl) (fun _ _ _ h => h) (by rfl) hS3 ?_ ?_
                    rotate_left
                    · intro w' hw'; go_simp; with_reducible rfl
                    go_simp
                    refine H_take (i := 32) (v := ?_) rfl (by as_aux_lemma => kernel_rfl) (by as_aux_lemma => kernel_rfl) (by as_aux_lemma => kernel_rfl) (fun _ _ _ h => h) (by rfl) hS3 ?_ ?_
                    rotate_left
                    · intro w' hw'; go_simp; with_reducible rfl
                    go_simp
                    refine H_take (i := 33) (v := ?_) rfl (by as_aux_lemma => kernel_rfl) (by as_aux_lemma => kernel_rfl) (by as_aux_lemma => kernel_rfl) (fun _ _ _ h => h) (by rfl) hS3 ?_ ?_
                    rotate_left
                    · intro w' hw'; go_simp; with_reducible rfl
                    go_simp
                    refine H_take (i := 34) (v := ?_) rfl (by as_aux_lemma => kernel_rfl) (by as_aux_lemma => kernel_rfl) (by as_aux_lemma => kernel_rfl) (fun _ _ _ h => h) (by rfl) hS3 ?_ ?_
                    rotate_left
                    · intro w' hw'; go_simp; with_reducible rfl
                    go_simp
                    refine H_take (i := 35) (v := ?_) rfl (by as_aux_lemma => kernel_rfl) (by as_aux_lemma => kernel_rfl) (by as_aux_lemma => kernel_rfl) (fun _ _ _ h => h) (by rfl) hS3 ?_ ?_
                    rotate_left
                    · intro w' hw'; go_simp; with_reducible rfl
                    go_simp
                    refine H_take (i := 36) (v := ?_) rfl (by as_aux_lemma => kernel_rfl) (by as_aux_lemma => kernel_rfl) (by as_aux_lemma => kernel_rfl) (fun _ _ _ h => h) (by rfl) hS3 ?_ ?_
                    rotate_left
                    · intro w' hw'; go_simp; with_reducible rfl
                    go_simp
                    refine H_take (i := 37) (v := ?_) rfl (by as_aux_lemma => kernel_rfl) (by as_aux_lemma => kernel_rfl) (by as_aux_lemma => kernel_rfl) (fun _ _ _ h => h) (by rfl) hS3 ?_ ?_
                    rotate_left
                    · intro w' hw'; go_simp; with_reducible rfl
                    go_simp
                    refine H_take (i := 38) (v := ?_) rfl (by as_aux_lemma => kernel_rfl) (by as_aux_lemma => kernel_rfl) (by as_aux_lemma => kernel_rfl) (fun _ _ _ h => h) (by rfl) hS3 ?_ ?_
                    rotate_left
                    · intro w' hw'; go_simp; with_reducible rfl
                    go_simp
                    refine H_take (i := 39) (v := ?_) rfl (by as_aux_lemma => kernel_rfl) (by as_aux_lemma => kernel_rfl) (by as_aux_lemma => kernel_rfl) (fun _ _ _ h => h) (by rfl) hS3 ?_ ?_
                    rotate_left
                    · intro w' hw'; go_simp; with_reducible rfl
                    go_simp
                    refine H_take (i := 40) (v := ?_) rfl (by as_aux_lemma => kernel_rfl) (by as_aux_lemma => kernel_rfl) (by as_aux_lemma => kernel_rfl) (fun _ _ _ h => h) (by rfl) hS3 ?_ ?_
                    rotate_left
                    · intro w' hw'; go_simp; with_reducible rfl
                    go_simp
                    refine H_take (i := 41) (v := ?_) rfl (by as_aux_lemma => kernel_rfl) (by as_aux_lemma => kernel_rfl) (by as_aux_lemma => kernel_rfl) (fun _ _ _ h => h) (by rfl) hS3 ?_ ?_
                    rotate_left
                    · intro w' hw'; go_simp; with_reducible rfl
                    go_simp
                    refine H_take (i := 42) (v := ?_) rfl (by as_aux_lemma => kernel_rfl) (by as_aux_lemma => kernel_rfl) (by as_aux_lemma => kernel_rfl) (fun _ _ _ h => h) (by rfl) hS3 ?_ ?_
                    rotate_left
                    · intro w' hw'; go_simp; with_reducible rfl
                    go_simp
                    refine H_take (i := 43) (v := ?_) rfl (by as_aux_lemma => kernel_rfl) (by as_aux_lemma => kernel_rfl) (by as_aux_lemma => kernel_rfl) (fun _ _ _ h => h) (by rfl) hS3 ?_ ?_
                    rotate_left
                    · intro w' hw'; go_simp; with_reducible rfl
                    go_simp
                    refine H_take (i := 44) (v := ?_) rfl (by as_aux_lemma => kernel_rfl) (by as_aux_lemma => kernel_rfl) (by as_aux_lemma => kernel_rfl) (fun _ _ _ h => h) (by rfl) hS3 ?_ ?_
                    rotate_left
                    · intro w' hw'; go_simp; with_reducible rfl
                    go_simp
                    refine H_take (i := 45) (v := ?_) rfl (by as_aux_lemma => kernel_rfl) (by as_aux_lemma => kernel_rfl) (by as_aux_lemma => kernel_rfl) (fun _ _ _ h => h) (by rfl) hS3 ?_ ?_
                    rotate_left
                    · intro w' hw'; go_simp; with_reducible rfl
                    go_simp
                    refine H_take (i := 46) (v := ?_) rfl (by as_aux_lemma => kernel_rfl) (by as_aux_lemma => kernel_rfl) (by as_aux_lemma => kernel_rfl) (fun _ _ _ h => h) (by rfl) hS3 ?_ ?_
                    rotate_left
                    · intro w' hw'; go_simp; with_reducible rfl
                    go_simp
                    refine H_take (i := 47) (v := ?_) rfl (by as_aux_lemma => kernel_rfl) (by as_aux_lemma => kernel_rfl) (by as_aux_lemma => kernel_rfl) (fun _ _ _ h => h) (by rfl) hS3 ?_ ?_
                    rotate_left
                    · intro w' hw'; go_simp; with_reducible rfl
                    go_simp
                    refine wpAnyH_done (by as_aux_lemma => kernel_rfl) ?_ _
                    go_wp2_with fail
                    go_meet
                    case rel => exact ⟨by rw [HOK.out]; rfl, Lib.hid hS3⟩
                · have q7 : ((n : Int) == 0) = false := by simp; omega
                  have HOK : Hid (ok = true) := Lib.hid (by rw [HO1.out]; exact decide_eq_true (by omega))
                  refine wp_region_held (S := fun w' => Below W1.heap.size W1 w') (by kernel_rfl) ?_
                  have hS : Below W1.heap.size W1 W1.drew := (Below.refl _ _).drew
                  refine H_take (i := 0) (v := ?_) rfl (by as_aux_lemma => kernel_rfl) (by as_aux_lemma => kernel_rfl) (by as_aux_lemma => kernel_rfl) (fun _ _ _ h => h) (by rfl) hS ?_ ?_
                  rotate_left
                  · intro w' hw'; go_simp; with_reducible rfl
                  go_simp
                  refine H_take (i := 1) (v := ?_) rfl (by as_aux_lemma => kernel_rfl) (by as_aux_lemma => kernel_rfl) (by as_aux_lemma => kernel_rfl) (fun _ _ _ h => h) (by rfl) hS ?_ ?_
                  rotate_left
                  · intro w' hw'; go_simp; with_reducible rfl
                  go_simp
                  refine H_one (i := 2) (by as_aux_lemma => kernel_rfl) rfl (by rfl) ?_
                  go_simp
                  refine (HRR.out _).mono ?_
                  rintro e w3 ⟨rfl, hb3⟩
                  have hS3 : Below W1.heap.size W1 w3 := hS.trans (hb3.mono hS.size)
                  clear hb3
                  refine ⟨hS3, ?_⟩
                  go_simp
                  refine H_take (i := 3) (v := ?_) rfl (by as_aux_lemma => kernel_rfl) (by as_aux_lemma => kernel_rfl) (by as_aux_lemma => kernel_rfl) (fun _ _ _ h => h) (by rfl) hS3 ?_ ?_
                  rotate_left
                  · intro w' hw'; go_simp; with_reducible rfl
                  go_simp
                  refine H_take (i := 4) (v := ?_) rfl (by as_aux_lemma => kernel_rfl) (by as_aux_lemma => kernel_rfl) (by as_aux_lemma => kernel_rfl) (fun _ _ _ h => h) (by rfl) hS3 ?_ ?_
                  rotate_left
                  · intro w' hw'; go_simp; with_reducible rfl
                  go_simp
                  refine H_take (i := 5) (v := ?_) rfl (by as_aux_lemma => kernel_rfl) (by as_aux_lemma => kernel_rfl) (by as_aux_lemma => kernel_rfl) (fun _ _ _ h => h) (by rfl) hS3 ?_ ?_
                  rotate_left
                  · intro w' hw'; go_simp; with_reducible rfl
                  go_simp
                  refine H_take (i := 6) (v := ?_) rfl (by as_aux_lemma => kernel_rfl) (by as_aux_lemma => kernel_rfl) (by as_aux_lemma => kernel_rfl) (fun _ _ _ h => h) (by rfl) hS3 ?_ ?_
                  rotate_left
                  · intro w' hw'; go_simp; with_reducible rfl
                  go_simp
                  refine H_take (i := 7) (v := ?_) rfl (by as_aux_lemma => kernel_rfl) (by as_aux_lemma => kernel_rfl) (by as_aux_lemma => kernel_rfl) (fun _ _ _ h => h) (by rfl) hS3 ?_ ?_
                  rotate_left
                  · intro w' hw'; go_simp; with_reducible rfl
                  go_simp
                  refine H_take (i := 8) (v := ?_) rfl (by as_aux_lemma => kernel_rfl) (by as_aux_lemma => kernel_rfl) (by as_aux_lemma => kernel_rfl) (fun _ _ _ h => h) (by rfl) hS3 ?_ ?_
                  rotate_left
                  · intro w' hw'; go_simp; with_reducible rfl
                  go_simp
                  refine H_take (i := 9) (v := ?_) rfl (by as_aux_lemma => kernel_rfl) (by as_aux_lemma => kernel_rfl) (by as_aux_lemma => kernel_rfl) (fun _ _ _ h => h) (by rfl) hS3 ?_ ?_
                  rotate_left
                  · intro w' hw'; go_simp; with_reducible rfl
                  go_simp
                  refine H_take (i := 10) (v := ?_) rfl (by as_aux_lemma => kernel_rfl) (by as_aux_lemma => kernel_rfl) (by as_aux_lemma => kernel_rfl) (fun _ _ _ h => h) (by rfl) hS3 ?_ ?_
                  rotate_left
                  · intro w' hw'; go_simp; with_reducible rfl
                  go_simp
                  refine H_take (i := 11) (v := ?_) rfl (by as_aux_lemma => kernel_rfl) (by as_aux_lemma => kernel_rfl) (by as_aux_lemma => kernel_rfl) (fun _ _ _ h => h) (by rfl) hS3 ?_ ?_
                  rotate_left
                  · intro w' hw'; go_simp; with_reducible rfl
                  go_simp
                  refine H_take (i := 12) (v := ?_) rfl (by as_aux_lemma => kernel_rfl) (by as_aux_lemma => kernel_rfl) (by as_aux_lemma => kernel_rfl) (fun _ _ _ h => h) (by rfl) hS3 ?_ ?_
                  rotate_left
                  · intro w' hw'; go_simp; with_reducible rfl
                  go_simp
                  refine H_take (i := 13) (v := ?_) rfl (by as_aux_lemma => kernel_rfl) (by as_aux_lemma => kernel_rfl) (by as_aux_lemma => kernel_rfl) (fun _ _ _ h => h) (by rfl) hS3 ?_ ?_
                  rotate_left
                  · intro w' hw'; go_simp; with_reducible rfl
                  go_simp
                  refine H_take (i := 14) (v := ?_) rfl (by as_aux_lemma => kernel_rfl) (by as_aux_lemma => kernel_rfl) (by as_aux_lemma => kernel_rfl) (fun _ _ _ h => h) (by rfl) hS3 ?_ ?_
                  rotate_left
                  · intro w' hw'; go_simp; with_reducible rfl
                  go_simp
                  refine H_take (i := 15) (v := ?_) rfl (by as_aux_lemma => kernel_rfl) (by as_aux_lemma => kernel_rfl) (by as_aux_lemma => kernel_rfl) (fun _ _ _ h => h) (by rfl) hS3 ?_ ?_
                  rotate_left
                  · intro w' hw'; go_simp; with_reducible rfl
                  go_simp
                  refine H_take (i := 16) (v := ?_) rfl (by as_aux_lemma => kernel_rfl) (by as_aux_lemma => kernel_rfl) (by as_aux_lemma => kernel_rfl) (fun _ _ _ h => h) (by rfl) hS3 ?_ ?_
                  rotate_left
                  · intro w' hw'; go_simp; with_reducible rfl
                  go_simp
                  refine H_take (i := 17) (v := ?_) rfl (by as_aux_lemma => kernel_rfl) (by as_aux_lemma => kernel_rfl) (by as_aux_lemma => kernel_rfl) (fun _ _ _ h => h) (by rfl) hS3 ?_ ?_
                  rotate_left
                  · intro w' hw'; go_simp; with_reducible rfl
                  go_simp
                  refine H_take (i := 18) (v := ?_) rfl (by as_aux_lemma => kernel_rfl) (by as_aux_lemma => kernel_rfl) (by as_aux_lemma => kernel_rfl) (fun _ _ _ h => h) (by rfl) hS3 ?_ ?_
                  rotate_left
                  · intro w' hw'; go_simp; with_reducible rfl
                  go_simp
                  refine H_take (i := 19) (v := ?_) rfl (by as_aux_lemma => kernel_rfl) (by as_aux_lemma => kernel_rfl) (by as_aux_lemma => kernel_rfl) (fun _ _ _ h => h) (by rfl) hS3 ?_ ?_
                  rotate_left
                  · intro w' hw'; go_simp; with_reducible rfl
                  go_simp
                  refine H_take (i := 20) (v := ?_) rfl (by as_aux_lemma => kernel_rfl) (by as_aux_lemma => kernel_rfl) (by as_aux_lemma => kernel_rfl) (fun _ _ _ h => h) (by rfl) hS3 ?_ ?_
                  rotate_left
                  · intro w' hw'; go_simp; with_reducible rfl
                  go_simp
                  refine H_take (i := 21) (v := ?_) rfl (by as_aux_lemma => kernel_rfl) (by as_aux_lemma => kernel_rfl) (by as_aux_lemma => kernel_rfl) (fun _ _ _ h => h) (by rfl) hS3 ?_ ?_
                  rotate_left
                  · intro w' hw'; go_simp; with_reducible rfl
                  go_simp
                  refine H_take (i := 22) (v := ?_) rfl (by as_aux_lemma => kernel_rfl) (by as_aux_lemma => kernel_rfl) (by as_aux_lemma => kernel_rfl) (fun _ _ _ h => h) (by rfl) hS3 ?_ ?_
                  rotate_left
                  · intro w' hw'; go_simp; with_reducible rfl
                  go_simp
                  refine H_take (i := 23) (v := ?_) rfl (by as_aux_lemma => kernel_rfl) (by as_aux_lemma => kernel_rfl) (by as_aux_lemma => kernel_rfl) (fun _ _ _ h => h) (by rfl) hS3 ?_ ?_
                  rotate_left
                  · intro w' hw'; go_simp; with_reducible rfl
                  go_simp
                  refine H_take (i := 24) (v := ?_) rfl (by as_aux_lemma => kernel_rfl) (by as_aux_lemma => kernel_rfl) (by as_aux_lemma => kernel_rfl) (fun _ _ _ h => h) (by rfl) hS3 ?_ ?_
                  rotate_left
                  · intro w' hw'; go_simp; with_reducible rfl
                  go_simp
                  refine H_take (i := 25) (v := ?_) rfl (by as_aux_lemma => kernel_rfl) (by as_aux_lemma => kernel_rfl) (by as_aux_lemma => kernel_rfl) (fun _ _ _ h => h) (by rfl) hS3 ?_ ?_
                  rotate_left
                  · intro w' hw'; go_simp; with_reducible rfl
                  go_simp
                  refine H_take (i := 26) (v := ?_) rfl (by as_aux_lemma => kernel_rfl) (by as_aux_lemma => kernel_rfl) (by as_aux_lemma => kernel_rfl) (fun _ _ _ h => h) (by rfl) hS3 ?_ ?_
                  rotate_left
                  · intro w' hw'; go_simp; with_reducible rfl
                  go_simp
                  refine H_take (i := 27) (v := ?_) rfl (by as_aux_lemma => kernel_rfl) (by as_aux_lemma => kernel_rfl) (by as_aux_lemma => kernel_rfl) (fun _ _ _ h => h) (by rfl) hS3 ?_ ?_
                  rotate_left
                  · intro w' hw'; go_simp; with_reducible rfl
                  go_simp
                  refine H_take (i := 28) (v := ?_) rfl (by as_aux_lemma => kernel_rfl) (by as_aux_lemma => kernel_rfl) (by as_aux_lemma => kernel_rfl) (fun _ _ _ h => h) (by rfl) hS3 ?_ ?_
                  rotate_left
                  · intro w' hw'; go_simp; with_reducible rfl
                  go_simp
                  refine H_take (i := 29) (v := ?_) rfl (by as_aux_lemma => kernel_rfl) (by as_aux_lemma => kernel_rfl) (by as_aux_lemma => kernel_rfl) (fun _ _ _ h => h) (by rfl) hS3 ?_ ?_
                  rotate_left
                  · intro w' hw'; go_simp; with_reducible rfl
                  go_simp
                  refine H_take (i := 30) (v := ?_) rfl (by as_aux_lemma => kernel_rfl) (by as_aux_lemma => kernel_rfl) (by as_aux_lemma => kernel_rfl) (fun _ _ _ h => h) (by rfl) hS3 ?_ ?_
                  rotate_left
                  · intro w' hw'; go_simp; with_reducible rfl
                  go_simp
                  refine H_take (i := 31) (v := ?_) rfl (by as_aux_lemma => kernel_rfl) (by as_aux_lemma => kernel_rfl) (by as_aux_lemma => kernel_rfl) (fun _ _ _ h => h) (by rfl) hS3 ?_ ?_
                  rotate_left
                  · intro w' hw'; go_simp; with_reducible rfl
                  go_simp
                  refine H_take (i := 32) (v := ?_) rfl (by as_aux_lemma => kernel_rfl) (by as_aux_lemma => kernel_rfl) (by as_aux_lemma => kernel_rfl) (fun _ _ _ h => h) (by rfl) hS3 ?_ ?_
                  rotate_left
                  · intro w' hw'; go_simp; with_reducible rfl
                  go_simp
                  refine H_take (i := 33) (v := ?_) rfl (by as_aux_lemma => kernel_rfl) (by as_aux_lemma => kernel_rfl) (by as_aux_lemma => kernel_rfl) (fun _ _ _ h => h) (by rfl) hS3 ?_ ?_
                  rotate_left
                  · intro w' hw'; go_simp; with_reducible rfl
                  go_simp
                  refine H_take (i := 34) (v := ?_) rfl (by as_aux_lemma => kernel_rfl) (by as_aux_lemma => kernel_rfl) (by as_aux_lemma => kernel_rfl) (fun _ _ _ h => h) (by rfl) hS3 ?_ ?_
                  rotate_left
                  · intro w' hw'; go_simp; with_reducible rfl
                  go_simp
                  refine H_take (i := 35) (v := ?_) rfl (by as_aux_lemma => kernel_rfl) (by as_aux_lemma => kernel_rfl) (by as_aux_lemma => kernel_rfl) (fun _ _ _ h => h) (by rfl) hS3 ?_ ?_
                  rotate_left
                  · intro w' hw'; go_simp; with_reducible rfl
                  go_simp
                  refine H_take (i := 36) (v := ?_) rfl (by as_aux_lemma => kernel_rfl) (by as_aux_lemma => kernel_rfl) (by as_aux_lemma => kernel_rfl) (fun _ _ _ h => h) (by rfl) hS3 ?_ ?_
                  rotate_left
                  · intro w' hw'; go_simp; with_reducible rfl
                  go_simp
                  refine H_take (i := 37) (v := ?_) rfl (by as_aux_lemma => kernel_rfl) (by as_aux_lemma => kernel_rfl) (by as_aux_lemma => kernel_rfl) (fun _ _ _ h => h) (by rfl) hS3 ?_ ?_
                  rotate_left
                  · intro w' hw'; go_simp; with_reducible rfl
                  go_simp
                  refine H_take (i := 38) (v := ?_) rfl (by as_aux_lemma => kernel_rfl) (by as_aux_lemma => kernel_rfl) (by as_aux_lemma => kernel_rfl) (fun _ _ _ h => h) (by rfl) hS3 ?_ ?_
                  rotate_left
                  · intro w' hw'; go_simp; with_reducible rfl
                  go_simp
                  refine H_take (i := 39) (v := ?_) rfl (by as_aux_lemma => kernel_rfl) (by as_aux_lemma => kernel_rfl) (by as_aux_lemma => kernel_rfl) (fun _ _ _ h => h) (by rfl) hS3 ?_ ?_
                  rotate_left
                  · intro w' hw'; go_simp; with_reducible rfl
                  go_simp
                  refine H_take (i := 40) (v := ?_) rfl (by as_aux_lemma => kernel_rfl) (by as_aux_lemma => kernel_rfl) (by as_aux_lemma => kernel_rfl) (fun _ _ _ h => h) (by rfl) hS3 ?_ ?_
                  rotate_left
                  · intro w' hw'; go_simp; with_reducible rfl
                  go_simp
                  refine H_take (i := 41) (v := ?_) rfl (by as_aux_lemma => kernel_rfl) (by as_aux_lemma => kernel_rfl) (by as_aux_lemma => kernel_rfl) (fun _ _ _ h => h) (by rfl) hS3 ?_ ?_
                  rotate_left
                  · intro w' hw'; go_simp; with_reducible rfl
                  go_simp
                  refine H_take (i := 42) (v := ?_) rfl (by as_aux_lemma => kernel_rfl) (by as_aux_lemma => kernel_rfl) (by as_aux_lemma => kernel_rfl) (fun _ _ _ h => h) (by rfl) hS3 ?_ ?_
                  rotate_left
                  · intro w' hw'; go_simp; with_reducible rfl
                  go_simp
                  refine H_skip (i := 43) rfl (by as_aux_lemma => kernel_rfl) (by as_aux_lemma => kernel_rfl) (by as_aux_lemma => kernel_rfl) (fun _ _ _ h => h) (by rfl) hS3 ?_
                  go_simp
                  refine H_skip (i := 44) rfl (by as_aux_lemma => kernel_rfl) (by as_aux_lemma => kernel_rfl) (by as_aux_lemma => kernel_rfl) (fun _ _ _ h => h) (by rfl) hS3 ?_
                  go_simp
                  refine H_skip (i := 45) rfl (by as_aux_lemma => kernel_rfl) (by as_aux_lemma => kernel_rfl) (by as_aux_lemma => kernel_rfl) (fun _ _ _ h => h) (by rfl) hS3 ?_
                  go_simp
                  refine H_take (i := 46) (v := ?_) rfl (by as_aux_lemma => kernel_rfl) (by as_aux_lemma => kernel_rfl) (by as_aux_lemma => kernel_rfl) (fun _ _ _ h => h) (by rfl) hS3 ?_ ?_
                  rotate_left
                  · intro w' hw'; go_simp; with_reducible rfl
                  go_simp
                  refine H_take (i := 47) (v := ?_) rfl (by as_aux_lemma => kernel_rfl) (by as_aux_lemma => kernel_rfl) (by as_aux_lemma => kernel_rfl) (fun _ _ _ h => h) (by rfl) hS3 ?_ ?_
                  rotate_left
                  · intro w' hw'; go_simp; with_reducible rfl
                  go_simp
                  refine wpAnyH_done (by as_aux_lemma => kernel_rfl) ?_ _
                  go_wp2_with fail
                  go_meet
                  case rel => exact ⟨by rw [HOK.out]; rfl, Lib.hid hS3⟩
    · have h1' : om = false := by simpa using h1
      subst h1'
      have HOK : Hid (ok = false) := Lib.hid (by rw [HOK0.out]; rfl)
      refine wp_region_held (S := fun w' => Below W1.heap.size W1 w') (by kernel_rfl) ?_
      have hS : Below W1.heap.size W1 W1.drew := (Below.refl _ _).drew
      refine H_take (i := 0) (v := ?_) rfl (by as_aux_lemma => kernel_rfl) (by as_aux_lemma => kernel_rfl) (by as_aux_lemma => kernel_rfl) (fun _ _ _ h => h) (by rfl) hS ?_ ?_
      rotate_left
      · intro w' hw'; go_simp; with_reducible rfl
      go_simp
      refine H_take (i := 1) (v := ?_) rfl (by as_aux_lemma => kernel_rfl) (by as_aux_lemma => kernel_rfl) (by as_aux_lemma => kernel_rfl) (fun _ _ _ h => h) (by rfl) hS ?_ ?_
      rotate_left
      · intro w' hw'; go_simp; with_reducible rfl
      go_simp
      refine H_one (i := 2) (by as_aux_lemma => kernel_rfl) rfl (by rfl) ?_
      go_simp
      refine (HRR.out _).mono ?_
      rintro e w3 ⟨rfl, hb3⟩
      have hS3 : Below W1.heap.size W1 w3 := hS.trans (hb3.mono hS.size)
      clear hb3
      refine ⟨hS3, ?_⟩
      go_simp
      refine H_take (i := 3) (v := ?_) rfl (by as_aux_lemma => kernel_rfl) (by as_aux_lemma => kernel_rfl) (by as_aux_lemma => kernel_rfl) (fun _ _ _ h => h) (by rfl) hS3 ?_ ?_
      rotate_left
      · intro w' hw'; go_simp; with_reducible rfl
      go_simp
      refine H_take (i := 4) (v := ?_) rfl (by as_aux_lemma => kernel_rfl) (by as_aux_lemma => kernel_rfl) (by as_aux_lemma => kernel_rfl) (fun _ _ _ h => h) (by rfl) hS3 ?_ ?_
      rotate_left
      · intro w' hw'; go_simp; with_reducible rfl
      go_simp
      refine H_skip (i := 5) rfl (by as_aux_lemma => kernel_rfl) (by as_aux_lemma => kernel_rfl) (by as_aux_lemma => kernel_rfl) (fun _ _ _ h => h) (by rfl) hS3 ?_
      go_simp
      refine H_skip (i := 6) rfl (by as_aux_lemma => kernel_rfl) (by as_aux_lemma => kernel_rfl) (by as_aux_lemma => kernel_rfl) (fun _ _ _ h => h) (by rfl) hS3 ?_
      go_simp
      refine H_skip (i := 7) rfl (by as_aux_lemma => kernel_rfl) (by as_aux_lemma => kernel_rfl) (by as_aux_lemma => kernel_rfl) (fun _ _ _ h => h) (by rfl) hS3 ?_
      go_simp
      refine H_take (i := 8) (v := ?_) rfl (by as_aux_lemma => kernel_rfl) (by as_aux_lemma => kernel_rfl) (by as_aux_lemma => kernel_rfl) (fun _ _ _ h => h) (by rfl) hS3 ?_ ?_
      rotate_left
      · intro w' hw'; go_simp; with_reducible rfl
      go_simp
      refine H_take (i := 9) (v := ?_) rfl (by as_aux_lemma => kernel_rfl) (by as_aux_lemma => kernel_rfl) (by as_aux_lemma => kernel_rfl) (fun _ _ _ h => h) (by rfl) hS3 ?_ ?_
      rotate_left
      · intro w' hw'; go_simp; with_reducible rfl
      go_simp
      refine H_skip (i := 10) rfl (by as_aux_lemma => kernel_rfl) (by as_aux_lemma => kernel_rfl) (by as_aux_lemma => kernel_rfl) (fun _ _ _ h => h) (by rfl) hS3 ?_
      go_simp
      refine H_skip (i := 11) rfl (by as_aux_lemma => kernel_rfl) (by as_aux_lemma => kernel_rfl) (by as_aux_lemma => kernel_rfl) (fun _ _ _ h => h) (by rfl) hS3 ?_
      go_simp
      refine H_skip (i := 12) rfl (by as_aux_lemma => kernel_rfl) (by as_aux_lemma => kernel_rfl) (by as_aux_lemma => kernel_rfl) (fun _ _ _ h => h) (by rfl) hS3 ?_
      go_simp
      refine H_skip (i := 13) rfl (by as_aux_lemma => kernel_rfl) (by as_aux_lemma => kernel_rfl) (by as_aux_lemma => kernel_rfl) (fun _ _ _ h => h) (by rfl) hS3 ?_
      go_simp
      refine H_skip (i := 14) rfl (by as_aux_lemma => kernel_rfl) (by as_aux_lemma => kernel_rfl) (by as_aux_lemma => kernel_rfl) (fun _ _ _ h => h) (by rfl) hS3 ?_
      go_simp
      refine H_skip (i := 15) rfl (by as_aux_lemma => kernel_rfl) (by as_aux_lemma => kernel_rfl) (by as_aux_lemma => kernel_rfl) (fun _ _ _ h => h) (by rfl) hS3 ?_
      go_simp
      refine H_skip (i := 16) rfl (by as_aux_lemma => kernel_rfl) (by as_aux_lemma => kernel_rfl) (by as_aux_lemma => kernel_rfl) (fun _ _ _ h => h) (by rfl) hS3 ?_
      go_simp
      refine H_take (i := 17) (v := ?_) rfl (by as_aux_lemma => kernel_rfl) (by as_aux_lemma => kernel_rfl) (by as_aux_lemma => kernel_rfl) (fun _ _ _ h => h) (by rfl) hS3 ?_ ?_
      rotate_left
      · intro w' hw'; go_simp; with_reducible rfl
      go_simp
      refine H_take (i := 18) (v := ?_) rfl (by as_aux_lemma => kernel_rfl) (by as_aux_lemma => kernel_rfl) (by as_aux_lemma => kernel_rfl) (fun _ _ _ h => h) (by rfl) hS3 ?_ ?_
      rotate_left
      · intro w' hw'; go_simp; with_reducible rfl
      go_simp
      refine H_skip (i := 19) rfl (by as_aux_lemma => kernel_rfl) (by as_aux_lemma => kernel_rfl) (by as_aux_lemma => kernel_rfl) (fun _ _ _ h => h) (by rfl) hS3 ?_
      go_simp
      refine H_skip (i := 20) rfl (by as_aux_lemma => kernel_rfl) (by as_aux_lemma => kernel_rfl) (by as_aux_lemma => kernel_rfl) (fun _ _ _ h => h) (by rfl) hS3 ?_
      go_simp
      refine H_skip (i := 21) rfl (by as_aux_lemma => kernel_rfl) (by as_aux_lemma => kernel_rfl) (by as_aux_lemma => kernel_rfl) (fun _ _ _ h => h) (by rfl) hS3 ?_
      go_simp
      refine H_take (i := 22) (v := ?_) rfl (by as_aux_lemma => kernel_rfl) (by as_aux_lemma => kernel_rfl) (by as_aux_lemma => kernel_rfl) (fun _ _ _ h => h) (by rfl) hS3 ?_ ?_
      rotate_left
      · intro w' hw'; go_simp; with_reducible rfl
      go_simp
      refine H_take (i := 23) (v := ?_) rfl (by as_aux_lemma => kernel_rfl) (by as_aux_lemma => kernel_rfl) (by as_aux_lemma => kernel_rfl) (fun _ _ _ h => h) (by rfl) hS3 ?_ ?_
      rotate_left
      · intro w' hw'; go_simp; with_reducible rfl
      go_simp
      refine H_skip (i := 24) rfl (by as_aux_lemma => kernel_rfl) (by as_aux_lemma => kernel_rfl) (by as_aux_lemma => kernel_rfl) (fun _ _ _ h => h) (by rfl) hS3 ?_
      go_simp
      refine H_skip (i := 25) rfl (by as_aux_lemma => kernel_rfl) (by as_aux_lemma => kernel_rfl) (by as_aux_lemma => kernel_rfl) (fun _ _ _ h => h) (by rfl) hS3 ?_
      go_simp
      refine H_skip (i := 26) rfl (by as_aux_lemma => kernel_rfl) (by as_aux_lemma => kernel_rfl) (by as_aux_lemma => kernel_rfl) (fun _ _ _ h => h) (by rfl) hS3 ?_
      go_simp
      refine H_skip (i := 27) rfl (by as_aux_lemma => kernel_rfl) (by as_aux_lemma => kernel_rfl) (by as_aux_lemma => kernel_rfl) (fun _ _ _ h => h) (by rfl) hS3 ?_
      go_simp
      refine H_skip (i := 28) rfl (by as_aux_lemma => kernel_rfl) (by as_aux_lemma => kernel_rfl) (by as_aux_lemma => kernel_rfl) (fun _ _ _ h => h) (by rfl) hS3 ?_
      go_simp
      refine H_take (i := 29) (v := ?_) rfl (by as_aux_lemma => kernel_rfl) (by as_aux_lemma => kernel_rfl) (by as_aux_lemma => kernel_rfl) (fun _ _ _ h => h) (by rfl) hS3 ?_ ?_
      rotate_left
      · intro w' hw'; go_simp; with_reducible rfl
      go_simp
      refine H_take (i := 30) (v := ?_) rfl (by as_aux_lemma => kernel_rfl) (by as_aux_lemma => kernel_rfl) (by as_aux_lemma => kernel_rfl) (fun _ _ _ h => h) (by rfl) hS3 ?_ ?_
      rotate_left
      · intro w' hw'; go_simp; with_reducible rfl
      go_simp
      refine H_skip (i := 31) rfl (by as_aux_lemma => kernel_rfl) (by as_aux_lemma => kernel_rfl) (by as_aux_lemma => kernel_rfl) (fun _ _ _ h => h) (by rfl) hS3 ?_
      go_simp
      refine H_skip (i := 32) rfl (by as_aux_lemma => kernel_rfl) (by as_aux_lemma => kernel_rfl) (by as_aux_lemma => kernel_rfl) (fun _ _ _ h => h) (by rfl) hS3 ?_
      go_simp
      refine H_skip (i := 33) rfl (by as_aux_lemma => kernel_rfl) (by as_aux_lemma => kernel_rfl) (by as_aux_lemma => kernel_rfl) (fun _ _ _ h => h) (by rfl) hS3 ?_
      go_simp
      refine H_skip (i := 34) rfl (by as_aux_lemma => kernel_rfl) (by as_aux_lemma => kernel_rfl) (by as_aux_lemma => kernel_rfl) (fun _ _ _ h => h) (by rfl) hS3 ?_
      go_simp
      refine H_skip (i := 35) rfl (by as_aux_lemma => kernel_rfl) (by as_aux_lemma => kernel_rfl) (by as_aux_lemma => kernel_rfl) (fun _ _ _ h => h) (by rfl) hS3 ?_
      go_simp
      refine H_skip (i := 36) rfl (by as_aux_lemma => kernel_rfl) (by as_aux_lemma => kernel_rfl) (by as_aux_lemma => kernel_rfl) (fun _ _ _ h => h) (by rfl) hS3 ?_
      go_simp
      refine H_skip (i := 37) rfl (by as_aux_lemma => kernel_rfl) (by as_aux_lemma => kernel_rfl) (by as_aux_lemma => kernel_rfl) (fun _ _ _ h => h) (by rfl) hS3 ?_
      go_simp
      refine H_take (i := 38) (v := ?_) rfl (by as_aux_lemma => kernel_rfl) (by as_aux_lemma => kernel_rfl) (by as_aux_lemma => kernel_rfl) (fun _ _ _ h => h) (by rfl) hS3 ?_ ?_
      rotate_left
      · intro w' hw'; go_simp; with_reducible rfl
      go_simp
      refine H_take (i := 39) (v := ?_) rfl (by as_aux_lemma => kernel_rfl) (by as_aux_lemma => kernel_rfl) (by as_aux_lemma => kernel_rfl) (fun _ _ _ h => h) (by rfl) hS3 ?_ ?_
      rotate_left
      · intro w' hw'; go_simp; with_reducible rfl
      go_simp
      refine H_skip (i := 40) rfl (by as_aux_lemma => kernel_rfl) (by as_aux_lemma => kernel_rfl) (by as_aux_lemma => kernel_rfl) (fun _ _ _ h => h) (by rfl) hS3 ?_
      go_simp
      refine H_skip (i := 41) rfl (by as_aux_lemma => kernel_rfl) (by as_aux_lemma => kernel_rfl) (by as_aux_lemma => kernel_rfl) (fun _ _ _ h => h) (by rfl) hS3 ?_
      go_simp
      refine H_skip (i := 42) rfl (by as_aux_lemma => kernel_rfl) (by as_aux_lemma => kernel_rfl) (by as_aux_lemma => kernel_rfl) (fun _ _ _ h => h) (by rfl) hS3 ?_
      go_simp
      refine H_skip (i := 43) rfl (by as_aux_lemma => kernel_rfl) (by as_aux_lemma => kernel_rfl) (by as_aux_lemma => kernel_rfl) (fun _ _ _ h => h) (by rfl) hS3 ?_
      go_simp
      refine H_skip (i := 44) rfl (by as_aux_lemma => kernel_rfl) (by as_aux_lemma => kernel_rfl) (by as_aux_lemma => kernel_rfl) (fun _ _ _ h => h) (by rfl) hS3 ?_
      go_simp
      refine H_skip (i := 45) rfl (by as_aux_lemma => kernel_rfl) (by as_aux_lemma => kernel_rfl) (by as_aux_lemma => kernel_rfl) (fun _ _ _ h => h) (by rfl) hS3 ?_
      go_simp
      refine H_skip (i := 46) rfl (by as_aux_lemma => kernel_rfl) (by as_aux_lemma => kernel_rfl) (by as_aux_lemma => kernel_rfl) (fun _ _ _ h => h) (by rfl) hS3 ?_
      go_simp
      refine H_take (i := 47) (v := ?_) rfl (by as_aux_lemma => kernel_rfl) (by as_aux_lemma => kernel_rfl) (by as_aux_lemma => kernel_rfl) (fun _ _ _ h => h) (by rfl) hS3 ?_ ?_
      rotate_left
      · intro w' hw'; go_simp; with_reducible rfl
      go_simp
      refine wpAnyH_done (by as_aux_lemma => kernel_rfl) ?_ _
      go_wp2_with fail
      go_meet
      case rel => exact ⟨by rw [HOK.out]; rfl, Lib.hid hS3⟩
  case rest =>
    obtain ⟨rfl, HBC⟩ := hcut
    clear r0 r1 r3 r4 g0 xz cz
    cases ok with
    | false =>
      go_wp2_with fail
      go_ret
      have hbc := HB1.out.trans (HBC.out.mono HB1.out.size)
      exact RTPost.same (take_wrong HOKE.out.symm) (Only.of_below hbc) (HR1.out.next HBC.out) fun j hj => .inl hj
    | true =>
      have hok9 := HOKE.out.symm
      obtain ⟨-, ho0, hom, hno, hq0, hqn⟩ := okPc_iff.1 hok9
      simp only at ho0 hom hno hq0 hqn
      obtain ⟨ps, rfl⟩ : ∃ ps : Nat, q = (ps : Int) := ⟨q.toNat, by omega⟩
      have hps : ps ≤ 1000 := by omega
      have hpn : ps + n ≤ 1000 := by rw [HN.out]; omega
      have HOK9 := Lib.hid hok9
      have HFP : Hid (Fine7 ⟨i, t, s, o, (ps : Int), b⟩) := Lib.hid ⟨by show (0 : Int) ≤ (ps : Int); omega, by show (ps : Int) ≤ 1000000; omega, by show b.length ≤ 1000000; rw [← HN.out]; omega, ho0, by show o ≤ 100000; omega⟩
      have hbc := HBC.out
      have HBW : Hid (Below w.heap.size w wc) := Lib.hid (HB1.out.trans (hbc.mono HB1.out.size))
      have HRC : Hid (RH Y z gr most L wc) := Lib.hid (HR1.out.next hbc)
      have HBX : Hid (wc.heap[w.heap.size]? = some (.cells #[.int .i64 i, .int .i64 t, .int .u32 s, .int .i64 o, .int .i64 (ps : Int), .slice a n c] 35)) := Lib.hid (HXC.out wc hbc)
      have HYL : Hid (∀ j, Y j → j < W1.heap.size ∧ z ≤ j) := Lib.hid fun j hj => by
        obtain ⟨pv9, v9, -, -, -, -, h9⟩ := HR1.out
        exact ⟨(h9 j hj).2, (h9 j hj).1⟩
      have HYW : Hid (¬ Y w.heap.size) := Lib.hid HYW0.out
      clear ho0 hom hno hq0 hqn hbc
      obtain ⟨aL, cL, ⟨c0, c1, cz⟩, hel⟩ := HRC.out.cells
      obtain ⟨x0, x1, x2, x3, x4, x5, xz⟩ := six_cells HBX.out
      obtain ⟨ln, hln⟩ : ∃ ln, ln = L.length := ⟨_, rfl⟩
      rw [← hln] at c1
      have HEL := Lib.hid hel
      have HLN := Lib.hid hln
      clear c0 hel hln hok9
      go_upto_if 69 with fail
      go_cut [] from 13 (fun w' => Hid (staleB L ⟨i, t, s, o, (ps : Int), b⟩ = false) ∧ Hid (RTMid w W1 Y z gr most (keepL L ⟨i, t, s, o, (ps : Int), b⟩) (.cells #[.int .i64 i, .int .i64 t, .int .u32 s, .int .i64 o, .int .i64 (ps : Int), .slice a n c] 35) w'))
      case first =>
        cases L with
        | nil =>
          obtain rfl : ln = 0 := HLN.out
          go_wp2_with fail
          go_meet
          case rel => exact ⟨Lib.hid rfl, Lib.hid ⟨Y, HRC.out, fun _ h => h, Only.of_below HBC.out, HBX.out⟩⟩
        | cons f M =>
          obtain ⟨g, ua, uc, rfl, hlc, hgz, ⟨e0, e1, e2, e3, e4, e5⟩, -⟩ := HEL.out 0 (by simp)
          obtain ⟨fi, ft, fs, fo, fq, fb⟩ := f
          simp only [List.getElem_cons_zero, Nat.zero_mul, Nat.zero_add] at e0 e1 e2 e3 e4 e5
          obtain ⟨fl, hfl⟩ : ∃ fl, fl = fb.length := ⟨_, rfl⟩
          rw [← hfl] at e5
          rw [← HLN.out] at hlc
          have hl0 : (0 : Int) < (ln : Int) := by have := HLN.out; simp at this; omega
          have HSTL : Hid (staleB (⟨fi, ft, fs, fo, fq, fb⟩ :: M) ⟨i, t, s, o, (ps : Int), b⟩ = (decide (i ≤ fi) && !decide (i = fi ∧ t = ft ∧ s = fs ∧ o = fo))) := Lib.hid rfl
          have HKP : Hid (keepL (⟨fi, ft, fs, fo, fq, fb⟩ :: M) ⟨i, t, s, o, (ps : Int), b⟩ = if i > fi then [] else ⟨fi, ft, fs, fo, fq, fb⟩ :: M) := Lib.hid rfl
          clear hfl
          have hok9 := HOK9.out
          by_cases h1 : i < fi
          · have q1 : decide (i < fi) = true := decide_eq_true h1
            have HST : Hid (staleB (⟨fi, ft, fs, fo, fq, fb⟩ :: M) ⟨i, t, s, o, (ps : Int), b⟩ = true) := Lib.hid (by rw [HSTL.out, decide_eq_true (show i ≤ fi by omega), decide_eq_false (by omega)]; rfl)
            go_wp2_with fail
            go_ret
            exact RTPost.same (by rw [take_all hok9, if_pos HST.out]) (Only.of_below (HBW.out.trans ((below_alloc _ _).mono HBW.out.size))) (HRC.out.next (below_alloc _ _)) fun j hj => .inl hj
          · have q1 : decide (i < fi) = false := decide_eq_false h1
            by_cases h2 : i = fi
            · subst h2
              by_cases h3 : t = ft
              · subst h3
                by_cases h4 : s = fs
                · subst h4
                  by_cases h5 : o = fo
                  · subst h5
                    have HK2 : Hid (keepL (⟨i, t, s, o, fq, fb⟩ :: M) ⟨i, t, s, o, (ps : Int), b⟩ = ⟨i, t, s, o, fq, fb⟩ :: M) := Lib.hid (by rw [HKP.out, if_neg (by omega)])
                    have HST : Hid (staleB (⟨i, t, s, o, fq, fb⟩ :: M) ⟨i, t, s, o, (ps : Int), b⟩ = false) := Lib.hid (by rw [HSTL.out]; simp)
                    have q9 : decide (i > i) = false := decide_eq_false (by omega)
                    go_wp2_with fail
                    go_meet
                    case rel => exact ⟨HST, Lib.hid (by rw [HK2.out]; exact ⟨Y, HRC.out.next (below_alloc _ _), fun _ h => h, (Only.of_below HBC.out).alloc _, old_alloc HBX.out⟩)⟩
                  · have q5 : (o != fo) = true := by simpa using h5
                    have HST : Hid (staleB (⟨i, t, s, fo, fq, fb⟩ :: M) ⟨i, t, s, o, (ps : Int), b⟩ = true) := Lib.hid (by rw [HSTL.out, decide_eq_true (show i ≤ i by omega), decide_eq_false (fun h => h5 h.2.2.2)]; rfl)
                    go_wp2_with fail
                    go_ret
                    exact RTPost.same (by rw [take_all hok9, if_pos HST.out]) (Only.of_below (HBW.out.trans ((below_alloc _ _).mono HBW.out.size))) (HRC.out.next (below_alloc _ _)) fun j hj => .inl hj
                · have q4 : (s != fs) = true := by simpa using h4
                  have HST : Hid (staleB (⟨i, t, fs, fo, fq, fb⟩ :: M) ⟨i, t, s, o, (ps : Int), b⟩ = true) := Lib.hid (by rw [HSTL.out, decide_eq_true (show i ≤ i by omega), decide_eq_false (fun h => h4 h.2.2.1)]; rfl)
                  go_wp2_with fail
                  go_ret
                  exact RTPost.same (by rw [take_all hok9, if_pos HST.out]) (Only.of_below (HBW.out.trans ((below_alloc _ _).mono HBW.out.size))) (HRC.out.next (below_alloc _ _)) fun j hj => .inl hj
              · have q3 : (t != ft) = true := by simpa using h3
                have HST : Hid (staleB (⟨i, ft, fs, fo, fq, fb⟩ :: M) ⟨i, t, s, o, (ps : Int), b⟩ = true) := Lib.hid (by rw [HSTL.out, decide_eq_true (show i ≤ i by omega), decide_eq_false (fun h => h3 h.2.1)]; rfl)
                go_wp2_with fail
                go_ret
                exact RTPost.same (by rw [take_all hok9, if_pos HST.out]) (Only.of_below (HBW.out.trans ((below_alloc _ _).mono HBW.out.size))) (HRC.out.next (below_alloc _ _)) fun j hj => .inl hj
            · have q2 : (i == fi) = false := by simpa using h2
              have q9 : decide (i > fi) = true := decide_eq_true (by omega)
              have q9' : decide (fi < i) = true := decide_eq_true (by omega)
              have HST : Hid (staleB (⟨fi, ft, fs, fo, fq, fb⟩ :: M) ⟨i, t, s, o, (ps : Int), b⟩ = false) := Lib.hid (by rw [HSTL.out, decide_eq_false (show ¬ i ≤ fi by omega)]; rfl)
              have HK2 : Hid (keepL (⟨fi, ft, fs, fo, fq, fb⟩ :: M) ⟨i, t, s, o, (ps : Int), b⟩ = []) := Lib.hid (by rw [HKP.out, if_pos (by omega)])
              obtain ⟨pv9, v9, hg9, -⟩ := HRC.out
              have gfz := frozen_of_row _ _ 1 _ _ hg9
              clear hg9
              go_wp2_with fail
              go_meet
              case rel =>
                refine ⟨HST, Lib.hid ?_⟩
                rw [HK2.out]
                have hd := HRC.out.drop
                have hne : w.heap.size ≠ gr := by
                  intro e
                  exact HYW.out (by rw [e]; obtain ⟨_, _, -, -, -, h9, -⟩ := HR1.out; exact h9.1)
                exact ⟨_, hd.1.next (below_alloc _ _), fun j hj => by rw [hj]; obtain ⟨_, _, -, -, -, h9, -⟩ := HR1.out; exact h9.1, ((Only.of_below HBC.out).thn (fun _ h => .inl h) hd.2).alloc _, old_alloc (old_set HBX.out hne)⟩
      case rest =>
        obtain ⟨HST, HMID⟩ := hcut
        obtain ⟨w2, hw2⟩ : ∃ x : World, x = wc := ⟨_, rfl⟩
        subst hw2
        obtain ⟨L0, hL0⟩ : ∃ L0, L0 = keepL L ⟨i, t, s, o, (ps : Int), b⟩ := ⟨_, rfl⟩
        rw [← hL0] at HMID
        have HTK : Hid (takeE most L ⟨i, t, s, o, (ps : Int), b⟩ = if clashAt (byteL L0) ps b = true then (71, L0) else layE L0 ⟨i, t, s, o, (ps : Int), b⟩) := Lib.hid (by rw [take_all HOK9.out, if_neg (by rw [HST.out]; decide), ← hL0]; rfl)
        have HF0 : Hid (∀ x ∈ L0, Fine7 x) := Lib.hid fun x hx => HINV.out x (keepL_mem (hL0 ▸ hx))
        have HL0 : Hid (L0.length ≤ 1000) := Lib.hid (by rw [hL0]; exact Nat.le_trans (keepL_length _ _) HLL.out)
        clear hL0 xz x0 x1 x2 x3 x4 x5 c1 cz
        obtain ⟨Y0, hr0, hY0, ho0, hx0⟩ := HMID.out
        have HR0 := Lib.hid hr0
        have HY0 := Lib.hid hY0
        have HO0 : Hid (Only Y w w2) := Lib.hid ((Only.of_below HB1.out).thn (fun _ h => .inl h) ho0)
        have HX0 := Lib.hid hx0
        have HVB : Hid (RepB w2 F b (.slice a n c)) := Lib.hid (by
          have h9 := HVW.out W1 (Below.refl _ _)
          exact h9.same (fun _ h => h) fun k hk => ho0.block k (Nat.lt_of_lt_of_le (HF.out k hk).1 HB1.out.size) (HF.out k hk).2)
        obtain ⟨x0, x1, x2, x3, x4, x5, xz⟩ := six_cells hx0
        clear hr0 hY0 ho0 hx0 HMID HST
        go_wp2_with fail
        go_loopg [7, 8, 9] n (fun gk iv _ _ wr => ∃ k : Nat, k + gk = n ∧ iv = .int .i64 (k : Int) ∧ Hid (wr = w2) ∧ Hid (∀ j, j < k → ∀ y, byteL L0 (ps + j) = some y → b[j]? = some y))
        case atStart => exact ⟨0, by omega, rfl, Lib.hid rfl, Lib.hid fun j hj => by omega⟩
        case round =>
          obtain ⟨k, hgk, rfl, HW, HK⟩ := hrel
          have hw := HW.out
          clear HW
          subst hw
          by_cases hlt : k < n
          · have hkk : (k : Int) < (n : Int) := by omega
            have hby := RefByte_any Y0 z gr most L0 (ps + k) wr HR0.out (by omega) (by have := HL0.out; omega) HF0.out
            rw [show ((ps + k : Nat) : Int) = (ps : Int) + (k : Int) from by omega] at hby
            obtain ⟨y, hy⟩ : ∃ y, y = byteL L0 (ps + k) := ⟨_, rfl⟩
            rw [← hy] at hby
            have HY := Lib.hid hy
            clear hy
            cases y with
            | none =>
              simp only [Option.getD_none, Option.isSome_none] at hby
              have HB := Lib.hid hby
              clear hby
              go_wp2_with (go_at_call 25; refine (HB.out).mono ?_; rintro e w3 ⟨rfl, rfl⟩)
              go_roundg (gk - 1)
              case measure => omega
              case rel => exact ⟨k + 1, by omega, by push_cast; rfl, Lib.hid rfl, Lib.hid fun j hj y hyj => by
                by_cases e : j = k
                · subst e; rw [← HY.out] at hyj; cases hyj
                · exact HK.out j (by omega) y hyj⟩
            | some y =>
              simp only [Option.getD_some, Option.isSome_some] at hby
              have HB := Lib.hid hby
              obtain ⟨bb, off, rfl, -, -, -, hcl⟩ := (by have h9 := HVB.out; rw [HN.out] at h9; exact h9 : RepB wr F b (.slice a b.length c)).elem7 (i := k) (by rw [← HN.out]; exact hlt)
              have hcj := hcl k (by rw [← HN.out]; exact hlt)
              obtain ⟨x, hx⟩ : ∃ x, x = b[k]'(by rw [← HN.out]; exact hlt) := ⟨_, rfl⟩
              have HXB : Hid (b[k]? = some x) := Lib.hid (by rw [hx]; exact List.getElem?_eq_getElem _)
              rw [← hx] at hcj
              have hbz := (lt_of_cell hcj).1
              clear hby hcl hx
              by_cases hyx : y = x
              · subst hyx
                have q9 : ((y.toNat : Int) != (y.toNat : Int)) = false := by simp
                go_wp2_with (go_at_call 25; refine (HB.out).mono ?_; rintro e w3 ⟨rfl, rfl⟩)
                go_roundg (gk - 1)
                case measure => omega
                case rel => exact ⟨k + 1, by omega, by push_cast; rfl, Lib.hid rfl, Lib.hid fun j hj u hyj => by
                  by_cases e : j = k
                  · subst e; rw [← HY.out] at hyj; cases hyj; exact HXB.out
                  · exact HK.out j (by omega) u hyj⟩
              · have q9 : ((y.toNat : Int) != (x.toNat : Int)) = true := by rw [u8_eq]; exact decide_eq_true hyx
                have HC : Hid (clashAt (byteL L0) ps b = true) := Lib.hid (clashAt_iff.2 ⟨k, by rw [← HN.out]; exact hlt, by rw [← HY.out]; rfl, by rw [← HY.out, HXB.out]; exact fun e => hyx (Option.some.inj e)⟩)
                go_wp2_with (go_at_call 25; refine (HB.out).mono ?_; rintro e w3 ⟨rfl, rfl⟩)
                go_ret
                exact RTPost.same (by rw [HTK.out, if_pos HC.out]) HO0.out HR0.out fun j hj => .inl (HY0.out j hj)
          · obtain rfl : k = n := by omega
            have hkk : ¬ (k : Int) < (k : Int) := by omega
            have HLY : Hid (takeE most L ⟨i, t, s, o, (ps : Int), b⟩ = layE L0 ⟨i, t, s, o, (ps : Int), b⟩) := Lib.hid (by
              rw [HTK.out, if_neg]
              intro hc
              obtain ⟨j, hj, h1, h2⟩ := clashAt_iff.1 hc
              obtain ⟨y, hy⟩ := Option.isSome_iff_exists.1 h1
              exact h2 (by rw [hy, HK.out j (by rw [HN.out]; exact hj) y hy]))
            clear HTK HK
            have hzr := HO0.out.size
            have HB3 : Hid (RepB ((wr.alloc (.cells #[.int .i64 i, .int .i64 t, .int .u32 s, .int .i64 o, .int .i64 (ps : Int), .slice a k c] 35)).alloc (.cells #[] 5)) F b (.slice a k c)) := Lib.hid (HVB.out.same (fun _ h => h) fun j hj => by
              have hjl : j < wr.heap.size := Nat.lt_of_lt_of_le (HF.out j hj).1 hzr
              rw [Below.heap_alloc _ _ _ (by simp; omega), Below.heap_alloc _ _ _ hjl])
            go_wp2_with (at_builtin; go_loud (refine wpList_own_append (w := wr.alloc (.cells #[.int .i64 i, .int .i64 t, .int .u32 s, .int .i64 o, .int .i64 (ps : Int), .slice a k c] 35)) rfl (.tmp 150) (.tmp 152) rfl rfl (L := []) (L2 := b) rfl (Own.lit (Below.refl _ _) (by simp)) rfl HB3.out (by have := HN.out; simp; omega) ?_))
            intro v5 w5 hown
            obtain ⟨a5, c5, rfl⟩ := hown.slice
            rw [← HN.out]
            rw [← HN.out] at hown
            have hbq : Below wr.heap.size wr w5 := (below_alloc _ _).trans (hown.1.mono (by simp))
            have hx5 : w5.heap[wr.heap.size]? = some (.cells #[.int .i64 i, .int .i64 t, .int .u32 s, .int .i64 o, .int .i64 (ps : Int), .slice a k c] 35) := old_below (heap_new wr _ _ rfl) hown.1
            obtain ⟨y0, y1, y2, y3, y4, y5, yz⟩ := six_cells hx5
            have yf5 := frozen_of_row _ _ 5 _ _ hx5
            have HOWN := Lib.hid hown
            have HBQ := Lib.hid hbq
            have HX5 := Lib.hid hx5
            clear hown hbq hx5 x0 x1 x2 x3 x4 x5 xz
            go_upto_region 18 with fail
            obtain ⟨gq, hgq⟩ : ∃ gq, gq = wr.heap.size := ⟨_, rfl⟩
            rw [← hgq]
            rw [← hgq] at y0 y1 y2 y3 y4 y5 yz yf5
            obtain ⟨W6, hW6⟩ : ∃ W6, W6 = w5.setCell ⟨gq, 5, none⟩ (.slice a5 k c5) := ⟨_, rfl⟩
            rw [← hW6]
            have hoth : ∀ j, j ≠ gq → W6.heap[j]? = w5.heap[j]? := fun j hj => by rw [hW6]; exact Below.heap_setCell _ _ _ _ hj
            have hz6 : W6.heap.size = w5.heap.size := by rw [hW6]; simp
            have hx6 : W6.heap[gq]? = some (.cells #[.int .i64 i, .int .i64 t, .int .u32 s, .int .i64 o, .int .i64 (ps : Int), .slice a5 k c5] 35) := by
              have h9 := HX5.out
              rw [← hgq] at h9
              rw [hW6]
              simp [World.setCell, Array.getElem?_modify, h9]
            have hb6 : Below wr.heap.size wr W6 := by rw [hW6]; exact HBQ.out.setCell (by show wr.heap.size ≤ gq; omega) _
            have hr6 : RH Y0 z gr most L0 W6 := HR0.out.next hb6
            have HO6 : Hid (Only Y w W6) := Lib.hid (HO0.out.next hb6)
            have hbx6 : W6.heap[w.heap.size]? = some (.cells #[.int .i64 i, .int .i64 t, .int .u32 s, .int .i64 o, .int .i64 (ps : Int), .slice a k c] 35) := old_below HX0.out hb6
            obtain ⟨pv, vL, hg6, hrow6, hmap6, ⟨hYg, hvg, hvY, hxY⟩, hY9⟩ := hr6
            have hpl : pv.length = L0.length := by rw [← hmap6, List.length_map]
            have hgr6 := lt_of_heap hg6
            have hyr := fun j hj => (hY9 j hj).2
            have hzg : z ≤ gr := (hY9 gr hYg).1
            have hgrq : gr < gq := by
              obtain ⟨_, _, h9, -⟩ := HR0.out
              have := lt_of_heap h9
              omega
            have hu6 : W6.ownsRow z 5 1 (.slice a5 k c5) b.length (b.map byteV) := by
              refine own_base7 (own_same7 HOWN.out.2 fun j h1 _ _ => hoth j ?_) ?_
              · have : gq + 1 ≤ j := by rw [hgq]; simpa using h1
                omega
              · have := HZW.out
                simp
                omega
            have hlow : ∀ j, (Value.slice a5 k c5).ownBlock = some j → gq < j := fun j hj => by
              have h1 := (HOWN.out.2.lt j hj).1
              rw [hgq]
              simp at h1
              omega
            have hold : ∀ j, Y0 j → j < gq := fun j hj => by
              obtain ⟨_, _, -, -, -, -, h9⟩ := HR0.out
              rw [hgq]
              exact (h9 j hj).2
            have hne6 : ∀ j, (Value.slice a5 k c5).ownBlock = some j → vL.ownBlock ≠ some j ∧ ∀ x ∈ pv, x.2.ownBlock ≠ some j := fun j hj =>
              ⟨fun e => by have := hold j (hvY j e); have := hlow j hj; omega, fun x hx e => by have := hold j (hxY x hx j e).1; have := hlow j hj; omega⟩
            have hrow6d : PcRow z pv vL W6.drew := hrow6.same (Nat.le_refl _) fun _ _ _ => rfl
            obtain ⟨v7, w7, hrun7, hrow7, ho7, ⟨a7, c7, rfl⟩, hblk7⟩ := hrow6d.push2 (p := ⟨i, t, s, o, (ps : Int), b⟩) (a := a5) (n := k) (c := c5) hu6 hne6 (show z ≤ W6.heap.size by omega) (by have := HL0.out; omega) 26
            have hrun8 : (Builtin.append_ #[26, 26] 26 #[vL, .slice (some ⟨W6.heap.size, 0, none⟩) 1 1]).run Tryd.prog (W6.alloc (.cells #[.int .i64 i, .int .i64 t, .int .u32 s, .int .i64 o, .int .i64 (ps : Int), .slice a5 k c5] 35)).drew = .ok (.slice a7 (pv.length + 1) c7) w7 := hrun7
            have hS0 : Only (fun j => j = gr ∨ vL.ownBlock = some j) W6 W6.drew := Only.of_below (Below.refl _ _).drew
            have hS6 : Only (fun j => j = gr ∨ vL.ownBlock = some j) W6 (W6.alloc (.cells #[.int .i64 i, .int .i64 t, .int .u32 s, .int .i64 o, .int .i64 (ps : Int), .slice a5 k c5] 35)).drew := ((Only.refl _ _).alloc _).next (Below.refl _ _).drew
            have hS7 : Only (fun j => j = gr ∨ vL.ownBlock = some j) W6 w7 := hS0.thn (fun _ h => .inl h) (ho7.mono fun j hj => .inr hj)
            have hS8 := hS7.set (g := gr) (j := 1) (.inl (.inl rfl)) (.slice a7 (pv.length + 1) c7)
            have hqk : ∀ w', Only (fun j => j = gr ∨ vL.ownBlock = some j) W6 w' → w'.heap[gq]? = some (.cells #[.int .i64 i, .int .i64 t, .int .u32 s, .int .i64 o, .int .i64 (ps : Int), .slice a5 k c5] 35) := fun w' ho => (ho.block gq (lt_of_heap hx6) (by
              rintro (e | e)
              · omega
              · have := hold gq (hvY gq e); omega)).trans hx6
            have hg7 : w7.heap[gr]? = some (.cells #[.int .i64 most, vL] 42) := (ho7.block gr (show gr < W6.heap.size by omega) hvg).trans hg6
            have HR8 : Hid (∃ Y8, RH Y8 z gr most (L0 ++ [⟨i, t, s, o, (ps : Int), b⟩]) (w7.setCell ⟨gr, 1, none⟩ (.slice a7 (pv.length + 1) c7)) ∧ ∀ j, Y8 j → Y j ∨ w.heap.size ≤ j) := Lib.hid (by
              have hz7 := ho7.size
              have hwq : w.heap.size ≤ gq := by rw [hgq]; exact hzr
              have hne7 : (Value.slice a7 (pv.length + 1) c7).ownBlock ≠ some gr := fun e => by
                rcases hblk7 gr e with h9 | h9
                · exact hvg h9
                · have h10 : W6.heap.size ≤ gr := h9; omega
              have hnx7 : ∀ x ∈ pv ++ [(⟨i, t, s, o, (ps : Int), b⟩, Value.slice a5 k c5)], x.2.ownBlock ≠ some gr := fun x hx e => by
                rcases List.mem_append.1 hx with hx | hx
                · exact (hxY x hx gr e).2 rfl
                · rw [List.mem_singleton.1 hx] at e
                  have := hlow gr e
                  omega
              have hrow8 := hrow7.sameY (W' := w7.setCell ⟨gr, 1, none⟩ (.slice a7 (pv.length + 1) c7)) (fun j hj => Below.heap_setCell _ _ _ _ (by show j ≠ gr; exact fun e => hne7 (e ▸ hj))) (fun x hx j hj => Below.heap_setCell _ _ _ _ (by show j ≠ gr; exact fun e => hnx7 x hx (e ▸ hj)))
              have hR := RH.of (z := z) (gr := gr) (most := most) (by simp [World.setCell, Array.getElem?_modify, hg7]) hzg hrow8 hne7 hnx7
              rw [List.map_append, hmap6] at hR
              refine ⟨_, hR, fun j hj => ?_⟩
              rcases hj with rfl | hj | ⟨x, hx, hj⟩
              · exact .inl (HY0.out j hYg)
              · rcases hblk7 j hj with h9 | h9
                · exact .inl (HY0.out j (hvY j h9))
                · have h10 : W6.heap.size ≤ j := h9
                  exact .inr (by omega)
              · rcases List.mem_append.1 hx with hx | hx
                · exact .inl (HY0.out j (hxY x hx j hj).1)
                · rw [List.mem_singleton.1 hx] at hj
                  have := hlow j hj
                  exact .inr (by omega))
            have HO8 : Hid (Only Y w (w7.setCell ⟨gr, 1, none⟩ (.slice a7 (pv.length + 1) c7))) := Lib.hid (HO6.out.thn (fun j hj => by
              rcases hj with rfl | hj
              · exact .inl (HY0.out j hYg)
              · exact .inl (HY0.out j (hvY j hj))) hS8)
            have HX8 : Hid ((w7.setCell ⟨gr, 1, none⟩ (.slice a7 (pv.length + 1) c7)).heap[w.heap.size]? = some (.cells #[.int .i64 i, .int .i64 t, .int .u32 s, .int .i64 o, .int .i64 (ps : Int), .slice a k c] 35)) := Lib.hid ((hS8.block w.heap.size (lt_of_heap hbx6) (by
              rintro (e | e)
              · exact HYW.out (by rw [e]; exact HY0.out gr hYg)
              · exact HYW.out (HY0.out _ (hvY _ e)))).trans hbx6)
            have c1 := cell_of_row _ _ 1 _ _ _ hg6
            have gfz := frozen_of_row _ _ 1 _ _ hg7
            have gz7 := lt_of_heap hg7
            have gc7 := cell_of_row _ _ 1 _ _ _ hg7
            have r0 := fun w' ho => (six_cells (hqk w' ho)).1
            have r1 := fun w' ho => (six_cells (hqk w' ho)).2.1
            have r2 := fun w' ho => (six_cells (hqk w' ho)).2.2.1
            have r3 := fun w' ho => (six_cells (hqk w' ho)).2.2.2.1
            have r4 := fun w' ho => (six_cells (hqk w' ho)).2.2.2.2.1
            have r5 := fun w' ho => (six_cells (hqk w' ho)).2.2.2.2.2.1
            clear hpl hrow6 hrow6d hrow7 hrun7 ho7 hblk7 hmap6 hg6 hg7 hYg hvg hvY hxY hY9 hyr hzg hgrq hu6 hlow hold hne6 hqk hx6 hb6 hbx6 hoth hz6 y0 y1 y2 y3 y4 y5 yz yf5 hgq hW6
            obtain ⟨W8, hW8⟩ : ∃ W8, W8 = w7.setCell ⟨gr, 1, none⟩ (.slice a7 (pv.length + 1) c7) := ⟨_, rfl⟩
            rw [← hW8] at HR8 HO8 HX8 hS8
            have HW8 := Lib.hid hW8
            clear hW8
            go_cut [] from 13 (fun w' => w' = W8)
            case first =>
              refine wp_region_held (S := fun w' => Only (fun j => j = gr ∨ vL.ownBlock = some j) W6 w') (by kernel_rfl) ?_
              refine H_take (i := 0) (v := ?_) rfl (by as_aux_lemma => kernel_rfl) (by as_aux_lemma => kernel_rfl) (by as_aux_lemma => kernel_rfl) (fun _ _ _ h => h) (by rfl) hS0 ?_ ?_
              rotate_left
              · intro w' hw'; go_simp; with_reducible rfl
              go_simp
              refine H_take (i := 1) (v := ?_) rfl (by as_aux_lemma => kernel_rfl) (by as_aux_lemma => kernel_rfl) (by as_aux_lemma => kernel_rfl) (fun _ _ _ h => h) (by rfl) hS0 ?_ ?_
              rotate_left
              · intro w' hw'; go_simp; with_reducible rfl
              go_simp
              refine H_take (i := 2) (v := ?_) rfl (by as_aux_lemma => kernel_rfl) (by as_aux_lemma => kernel_rfl) (by as_aux_lemma => kernel_rfl) (fun _ _ _ h => h) (by rfl) hS0 ?_ ?_
              rotate_left
              · intro w' hw'; go_simp; with_reducible rfl
              go_simp
              refine H_take (i := 3) (v := ?_) rfl (by as_aux_lemma => kernel_rfl) (by as_aux_lemma => kernel_rfl) (by as_aux_lemma => kernel_rfl) (fun _ _ _ h => h) (by rfl) hS0 ?_ ?_
              rotate_left
              · intro w' hw'; go_simp; with_reducible rfl
              go_simp
              refine H_take (i := 5) (v := ?_) rfl (by as_aux_lemma => kernel_rfl) (by as_aux_lemma => kernel_rfl) (by as_aux_lemma => kernel_rfl) (fun _ _ _ h => h) (by rfl) hS0 ?_ ?_
              rotate_left
              · intro w' hw'; go_simp; with_reducible rfl
              go_simp
              refine H_both (i := 4) (j := 6) (by as_aux_lemma => kernel_rfl) rfl rfl (by rfl) (by rfl) ?_ ?_
              · go_simp
                refine H_one (i := 6) (by as_aux_lemma => kernel_rfl) rfl (by rfl) ?_
                go_simp
                refine H_one (i := 7) (by as_aux_lemma => kernel_rfl) rfl (by rfl) ?_
                refine wp_append_run7 (.tmp 159) (.tmp 161) 26 rfl _ _ _ _ rfl rfl hrun8 ?_
                refine ⟨hS7, ?_⟩
                go_simp
                refine H_take (i := 8) (v := ?_) rfl (by as_aux_lemma => kernel_rfl) (by as_aux_lemma => kernel_rfl) (by as_aux_lemma => kernel_rfl) (fun _ _ _ h => h) (by rfl) hS7 ?_ ?_
                rotate_left
                · intro w' hw'; go_simp; with_reducible rfl
                go_simp
                refine H_take (i := 9) (v := ?_) rfl (by as_aux_lemma => kernel_rfl) (by as_aux_lemma => kernel_rfl) (by as_aux_lemma => kernel_rfl) (fun _ _ _ h => h) (by rfl) hS7 ?_ ?_
                rotate_left
                · intro w' hw'; go_simp; with_reducible rfl
                go_simp
                refine H_one (i := 10) (by as_aux_lemma => kernel_rfl) rfl (by rfl) ?_
                go_simp
                rw [← HW8.out]
                refine ⟨hS8, ?_⟩
                refine wpAnyH_done (by as_aux_lemma => kernel_rfl) ?_ _
                go_wp2_with fail
                go_meet
                case rel => exact rfl
              · go_simp
                refine H_one (i := 4) (by as_aux_lemma => kernel_rfl) rfl (by rfl) ?_
                go_simp
                refine H_one (i := 7) (by as_aux_lemma => kernel_rfl) rfl (by rfl) ?_
                refine wp_append_run7 (.tmp 159) (.tmp 161) 26 rfl _ _ _ _ rfl rfl hrun8 ?_
                refine ⟨hS7, ?_⟩
                go_simp
                refine H_take (i := 8) (v := ?_) rfl (by as_aux_lemma => kernel_rfl) (by as_aux_lemma => kernel_rfl) (by as_aux_lemma => kernel_rfl) (fun _ _ _ h => h) (by rfl) hS7 ?_ ?_
                rotate_left
                · intro w' hw'; go_simp; with_reducible rfl
                go_simp
                refine H_take (i := 9) (v := ?_) rfl (by as_aux_lemma => kernel_rfl) (by as_aux_lemma => kernel_rfl) (by as_aux_lemma => kernel_rfl) (fun _ _ _ h => h) (by rfl) hS7 ?_ ?_
                rotate_left
                · intro w' hw'; go_simp; with_reducible rfl
                go_simp
                refine H_one (i := 10) (by as_aux_lemma => kernel_rfl) rfl (by rfl) ?_
                go_simp
                rw [← HW8.out]
                refine ⟨hS8, ?_⟩
                refine wpAnyH_done (by as_aux_lemma => kernel_rfl) ?_ _
                go_wp2_with fail
                go_meet
                case rel => exact rfl
            case rest =>
              have hw8 : wc = W8 := hcut
              subst hw8
              clear hS0 hS6 hS7 hS8 hrun8 c1 gfz gz7 gc7 r0 r1 r2 r3 r4 r5 HW8 HOWN HBQ HX5 HB3
              obtain ⟨Y8, hr8, hY8⟩ := HR8.out
              obtain ⟨L1, hL1⟩ : ∃ L1, L1 = L0 ++ [⟨i, t, s, o, (ps : Int), b⟩] := ⟨_, rfl⟩
              rw [← hL1] at hr8
              have HF1 : Hid (∀ x ∈ L1, Fine7 x) := Lib.hid fun x hx => by
                rw [hL1] at hx
                rcases List.mem_append.1 hx with h9 | h9
                · exact HF0.out x h9
                · rw [List.mem_singleton.1 h9]; exact HFP.out
              have HLE : Hid (takeE most L ⟨i, t, s, o, (ps : Int), b⟩ = if wholeB L1 && !decide ((C.sumOf (wholeL L1) : Int) = s) then (51, []) else (0, L1)) := Lib.hid (by
                rw [HLY.out]
                unfold layE
                rw [← hL1]
                cases hwb : wholeB L1 with
                | false => rfl
                | true => unfold wholeL; rw [hwb, if_pos rfl])
              have HWH := Lib.hid (RefWhole_any Y8 z gr most L1 wc hr8 (by rw [hL1]; have := HL0.out; simp; omega) HF1.out)
              have HR9 := Lib.hid hr8
              have HY8 := Lib.hid hY8
              clear hr8 hY8 HR8 hL1
              obtain ⟨wb, hwb⟩ : ∃ wb, wb = wholeB L1 := ⟨_, rfl⟩
              have HWB := Lib.hid hwb
              clear hwb
              cases wb with
              | false =>
                go_wp2_with (go_at_call 13; refine (HWH.out).mono ?_; rintro e w9 ⟨aw, cw, rfl, hb9, hrep9⟩; rw [← HWB.out]; have HB9 := Lib.hid hb9; clear hb9 hrep9)
                go_quiet (fail)
                go_wp2
                go_ret
                exact RTPost.same (by rw [HLE.out, ← HWB.out]; rfl) ((HO8.out.next HB9.out).next (below_dr7 _ _ _)) ((HR9.out.next HB9.out).next (below_dr7 _ _ _)) HY8.out
              | true =>
                obtain ⟨sm, hsm⟩ : ∃ sm, sm = C.sumOf (wholeL L1) := ⟨_, rfl⟩
                have HSM := Lib.hid hsm
                obtain ⟨lw, hlw⟩ : ∃ lw, lw = (wholeL L1).length := ⟨_, rfl⟩
                have HLW := Lib.hid hlw
                clear hsm hlw
                have HAFT : Hid (∀ w9 aw cw, Below wc.heap.size wc w9 → RepB w9 (fun k => wc.heap.size ≤ k ∧ k < w9.heap.size) (wholeL L1) (.slice aw (wholeL L1).length cw) → (∀ q, Calls Tryd.prog 23 #[.slice aw lw cw] (w9.drewN q) fun e w' => e = .returned (.int .u32 (sm : Int)) ∧ w' = w9.drewN q) ∧ w9.cell? ⟨w.heap.size, 2, none⟩ = some (.int .u32 s) ∧ w.heap.size < w9.heap.size ∧ w9.frozen? ⟨gr, 1, none⟩ = false ∧ gr < w9.heap.size ∧ ∃ vx, w9.cell? ⟨gr, 1, none⟩ = some vx) := Lib.hid fun w9 aw cw h1 h2 => by
                  have hx9 := old_below HX8.out h1
                  obtain ⟨-, -, h5, -, -, -, h6⟩ := six_cells hx9
                  obtain ⟨_, _, h7, -⟩ := HR9.out.next h1
                  refine ⟨fun q => (RefOf_any (wholeL L1) _ _ (w9.drewN q) (by rw [HLW.out]; exact h2.same (fun _ h => h) fun _ _ => rfl)).mono ?_, h5, h6, frozen_of_row _ _ 1 _ _ h7, lt_of_heap h7, _, cell_of_row _ _ 1 _ _ _ h7⟩
                  rintro e w' ⟨rfl, rfl⟩
                  exact ⟨by rw [HSM.out], rfl⟩
                by_cases hss : (sm : Int) = s
                · have q9 : ((sm : Int) != s) = false := by simpa using hss
                  have HRES : Hid (takeE most L ⟨i, t, s, o, (ps : Int), b⟩ = (0, L1)) := Lib.hid (by rw [HLE.out, ← HWB.out, ← HSM.out, decide_eq_true hss]; rfl)
                  clear hss
                  go_wp2_with (go_at_call 13; refine (HWH.out).mono ?_; rintro e w9 ⟨aw, cw, rfl, hb9, hrep9⟩; obtain ⟨HOF, k5, k6, -, -, -⟩ := HAFT.out w9 aw cw hb9 hrep9; rw [← HWB.out, ← HLW.out]; have HB9 := Lib.hid hb9; have HOF := Lib.hid HOF; clear hb9 hrep9)
                  go_quiet ((go_at_call 23; exact Calls.quiet_of_same (HOF.out _)))
                  go_wp2
                  go_ret
                  exact RTPost.same HRES.out ((HO8.out.next HB9.out).next (below_dr7 _ _ _)) ((HR9.out.next HB9.out).next (below_dr7 _ _ _)) HY8.out
                · have q9 : ((sm : Int) != s) = true := by simpa using hss
                  have HRES : Hid (takeE most L ⟨i, t, s, o, (ps : Int), b⟩ = (51, [])) := Lib.hid (by rw [HLE.out, ← HWB.out, ← HSM.out, decide_eq_false hss]; rfl)
                  clear hss
                  go_wp2_with (go_at_call 13; refine (HWH.out).mono ?_; rintro e w9 ⟨aw, cw, rfl, hb9, hrep9⟩; obtain ⟨HOF, k5, k6, k7, k8, vx, k9⟩ := HAFT.out w9 aw cw hb9 hrep9; rw [← HWB.out, ← HLW.out]; have HB9 := Lib.hid hb9; have HOF := Lib.hid HOF; clear hb9 hrep9)
                  go_quiet ((go_at_call 23; exact Calls.quiet_of_same (HOF.out _)))
                  go_wp2
                  go_ret
                  exact RTPost.same HRES.out (((HO8.out.next HB9.out).next (below_dr7 _ _ _)).thn HY8.out (RH.drop ((HR9.out.next HB9.out).next (below_dr7 _ _ _))).2) (RH.drop ((HR9.out.next HB9.out).next (below_dr7 _ _ _))).1 fun j hj => by subst hj; obtain ⟨_, _, -, -, -, h9, -⟩ := HR9.out; exact HY8.out _ h9.1
end Go.Proofs.YtdngfbljcmbniaaDoor.M
