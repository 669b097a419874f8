/- The law SumFixes: four bytes for any sum. -/
import Derived.Test.YtecgbnghapjfgaaDoorSumJoin2
import Derived.Test.YtecgbnghapjfgaaDoorSumFix
import Derived.Test.YtecgbnghapjfgaaDoorOwn
import Derived.Test.YtecgbnghapjfgaaDoorOpenBytes
import Derived.OrdersHeld
import Derived.Deep.RegionHeld
import Derived.Stop.BytesEq
import Derived.Laws.IdiomArrays
namespace Go.Proofs.YtecgbnghapjfgaaDoor.M
open Go.RowKit

theorem fix_other (A : List UInt8) {f o : List UInt8} (hf : f.length = 4) (ho : o.length = 4) (h : C.sumOf (A ++ f) = C.sumOf (A ++ o)) : f = o := by
  have h1 : C.lead (C.lead C.ones A) f = C.lead (C.lead C.ones A) o := by
    rw [← C.lead_append, ← C.lead_append, C.lead_sum, C.lead_sum, h]
  exact C.four_inj hf ho h1

def four (f0 f1 f2 f3 : UInt8) : Value := .agg #[.int .u8 (f0.toNat : Int), .int .u8 (f1.toNat : Int), .int .u8 (f2.toNat : Int), .int .u8 (f3.toNat : Int)]

theorem fix_four {n : Nat} (h : n < 4294967296) : ∃ f0 f1 f2 f3, fixL n = [f0, f1, f2, f3] ∧ fixV n = four f0 f1 f2 f3 := by
  refine ⟨_, _, _, _, rfl, ?_⟩
  rw [fixV_eq h]; rfl

theorem four_cells {w : World} {g : Nat} {a b c d : Value} {t : TypeId} (h : w.heap[g]? = some (.cells #[a, b, c, d] t)) :
    w.cell? ⟨g, 0, none⟩ = some a ∧ w.cell? ⟨g, 1, none⟩ = some b ∧ w.cell? ⟨g, 2, none⟩ = some c ∧ w.cell? ⟨g, 3, none⟩ = some d :=
  ⟨cell_of_row w g 0 _ t _ h, cell_of_row w g 1 _ t _ h, cell_of_row w g 2 _ t _ h, cell_of_row w g 3 _ t _ h⟩

set_option maxRecDepth 20000 in
set_option maxHeartbeats 3200000 in
theorem SumFixes_any (A : List UInt8) (t : Nat) (o0 o1 o2 o3 : UInt8) (F : Nat → Prop) (va : Value) (w : World) (ha : RepB w F A va) (hF : ∀ b, F b → b < w.heap.size) (htl : Hid (t < 4294967296)) (ht : Hid (Tab w)) :
    Calls Tryd.prog 4 #[va, .int .u32 (t : Int), .agg #[.int .u8 (o0.toNat : Int), .int .u8 (o1.toNat : Int), .int .u8 (o2.toNat : Int), .int .u8 (o3.toNat : Int)]] w fun e w' => e = .returned (.bool true) ∧ Below w.heap.size w w' := by
  obtain ⟨aa, ac, rfl, hla⟩ := ha.slice
  have HA := Lib.hid ha
  have HF := Lib.hid hF
  clear ha hF
  have HB0 : Hid (Below w.heap.size w (w.alloc (.cells #[.int .u8 (o0.toNat : Int), .int .u8 (o1.toNat : Int), .int .u8 (o2.toNat : Int), .int .u8 (o3.toNat : Int)] 30))) := Lib.hid (below_alloc _ _)
  by_cases h1 : A.length ≤ 5000
  · have t1 : decide ((5000 : Int) < (A.length : Int)) = false := by simp; omega
    go_enter Tryd.func4, Tryd.ntmps4
    go_wp2_with fail
    refine (awake_any _ (Lib.hid (ht.out.next HB0.out))).mono ?_
    rintro e w1 ⟨rfl, hB1⟩
    have hbo : w1.heap[w.heap.size]? = some (.cells #[.int .u8 (o0.toNat : Int), .int .u8 (o1.toNat : Int), .int .u8 (o2.toNat : Int), .int .u8 (o3.toNat : Int)] 30) := old_below (heap_new _ _ _ rfl) hB1
    have HBO := Lib.hid hbo
    have HB1 : Hid (Below w.heap.size w w1) := Lib.hid (HB0.out.trans (hB1.mono HB0.out.size))
    have T1 : Hid (Tab w1) := Lib.hid (ht.out.next HB1.out)
    clear hB1 hbo
    go_wp2_with fail
    refine (RefOf_any A _ _ _ (HA.out.later HF.out HB1.out)).mono ?_
    rintro e w' ⟨rfl, rfl⟩
    go_wp2_with fail
    refine (Fix_any (C.sumOf A) t _ (Lib.hid (sum_lt A)) htl).mono ?_
    rintro e w2 ⟨rfl, hB2⟩
    obtain ⟨f0, f1, f2, f3, hf, hfv⟩ := fix_four (fixN_lt (C.sumOf A) t)
    have HS : Hid (C.sumOf (A ++ [f0, f1, f2, f3]) = t) := Lib.hid (by rw [← hf]; exact fix_sum A htl.out)
    rw [hfv, four]
    have HBO2 := Lib.hid (old_below HBO.out hB2)
    have HB2 : Hid (Below w.heap.size w w2) := Lib.hid (HB1.out.trans (hB2.mono HB1.out.size))
    clear hf hfv hB2
    go_wp2_with fail
    obtain ⟨W, hW⟩ : ∃ W : World, W = w2.alloc (.cells #[.int .u8 (f0.toNat : Int), .int .u8 (f1.toNat : Int), .int .u8 (f2.toNat : Int), .int .u8 (f3.toNat : Int)] 30) := ⟨_, rfl⟩
    rw [← hW]
    have HWB : Hid (Below w.heap.size w W) := Lib.hid (by rw [hW]; exact HB2.out.alloc HB2.out.size _)
    have HWO : Hid (W.heap[w.heap.size]? = some (.cells #[.int .u8 (o0.toNat : Int), .int .u8 (o1.toNat : Int), .int .u8 (o2.toNat : Int), .int .u8 (o3.toNat : Int)] 30)) := Lib.hid (by rw [hW]; exact old_alloc HBO2.out)
    have HWF : Hid (W.heap[w2.heap.size]? = some (.cells #[.int .u8 (f0.toNat : Int), .int .u8 (f1.toNat : Int), .int .u8 (f2.toNat : Int), .int .u8 (f3.toNat : Int)] 30)) := Lib.hid (by rw [hW]; exact heap_new _ _ _ rfl)
    have HRF : Hid (RepB W (fun b => b < W.heap.size) [f0, f1, f2, f3] (.slice (some ⟨w2.heap.size, 0, none⟩) 4 4)) := Lib.hid (by
      rw [hW]
      exact (RepB.new (w := w2) (L := [f0, f1, f2, f3]) (t := 30) rfl (by simp)).weak fun b hb => by rw [hb]; simp)
    have TW : Hid (Tab W) := Lib.hid (ht.out.next HWB.out)
    have hzf : w2.heap.size < W.heap.size := by rw [hW]; simp
    have hzo : w.heap.size < W.heap.size := lt_of_heap HWO.out
    generalize w2.heap.size = gf at *
    clear hW
    refine wp_region_held (S := fun w' => Below W.heap.size W w') (by kernel_rfl) ?_
    have hS : Below W.heap.size W W.drew := (Below.refl _ _).drew
    refine H_take (i := 1) (v := ?_) rfl (by as_aux_lemma => kernel_rfl) (by as_aux_lemma => kernel_rfl) (by as_aux_lemma => kernel_rfl) (fun _ _ _ h => h) (by rfl) hS ?_ ?_
    rotate_left
    · intro w' hw'; go_simp; with_reducible rfl
    go_simp
    refine H_take (i := 3) (v := ?_) rfl (by as_aux_lemma => kernel_rfl) (by as_aux_lemma => kernel_rfl) (by as_aux_lemma => kernel_rfl) (fun _ _ _ h => h) (by rfl) hS ?_ ?_
    rotate_left
    · intro w' hw'; go_simp; with_reducible rfl
    go_simp
    refine H_take (i := 6) (v := ?_) rfl (by as_aux_lemma => kernel_rfl) (by as_aux_lemma => kernel_rfl) (by as_aux_lemma => kernel_rfl) (fun _ _ _ h => h) (by rfl) hS ?_ ?_
    rotate_left
    · intro w' hw'; go_simp; with_reducible rfl
    go_simp
    refine H_one (i := 0) (by as_aux_lemma => kernel_rfl) rfl (by rfl) ?_
    go_simp
    refine ⟨hS.alloc (by simp) _, ?_⟩
    go_simp
    refine H_one (i := 2) (by as_aux_lemma => kernel_rfl) rfl (by rfl) ?_
    refine wp_own_append (w := W) (L2 := A) _ _ rfl rfl rfl (Own.lit (wr := W.drew) hS rfl) rfl (F := fun _ => True) ?_ (by simp; omega) ?_
    · exact (HA.out.later HF.out ((HWB.out.drew).alloc HWB.out.size _)).weak fun _ _ => trivial
    intro v3 w3 hO3
    obtain ⟨a3, c3, rfl⟩ := hO3.slice
    refine ⟨hO3.1, ?_⟩
    go_simp
    have HO3 := Lib.hid hO3
    clear hO3
    refine H_one (i := 4) (by as_aux_lemma => kernel_rfl) rfl (by rfl) ?_
    refine wp_own_append (w := W) (L2 := [f0, f1, f2, f3]) _ _ rfl rfl rfl HO3.out rfl (F := fun _ => True) ?_ (by simp; omega) ?_
    · exact (HRF.out.later (fun _ h => h) HO3.out.1).weak fun _ _ => trivial
    intro v4 w4 hO4
    obtain ⟨X, hX⟩ : ∃ X, X = A ++ [f0, f1, f2, f3] := ⟨_, rfl⟩
    rw [List.nil_append, ← hX] at hO4
    have HX := Lib.hid hX
    clear hX
    obtain ⟨a4, c4, rfl⟩ := hO4.slice
    refine ⟨hO4.1, ?_⟩
    go_simp
    have HO4 := Lib.hid hO4
    clear hO4
    refine H_one (i := 5) (by as_aux_lemma => kernel_rfl) rfl (by rfl) ?_
    go_simp
    refine (RefOf_any X _ _ _ HO4.out.now).mono ?_
    rintro e w' ⟨rfl, rfl⟩
    rw [show C.sumOf X = t from by rw [HX.out]; exact HS.out]
    have hS4 : Below W.heap.size W w4 := HO4.out.1
    refine ⟨hS4, ?_⟩
    go_simp
    refine H_take (i := 7) (v := ?_) rfl (by as_aux_lemma => kernel_rfl) (by as_aux_lemma => kernel_rfl) (by as_aux_lemma => kernel_rfl) (fun _ _ _ h => h) (by rfl) hS4 ?_ ?_
    rotate_left
    · intro w' hw'; go_simp; with_reducible rfl
    go_simp
    refine wpAnyH_done (by as_aux_lemma => kernel_rfl) ?_ _
    clear hS
    have HS4 := Lib.hid hS4
    clear hS4
    go_wp2_with fail
    have hb4 := HS4.out
    have hzo4 : w.heap.size < w4.heap.size := Nat.lt_of_lt_of_le hzo hb4.size
    have hzf4 : gf < w4.heap.size := Nat.lt_of_lt_of_le hzf hb4.size
    have HW4 : Hid (Below w.heap.size w w4) := Lib.hid (HWB.out.trans (hb4.mono HWB.out.size))
    have HWO4 : Hid (w4.heap[w.heap.size]? = some (.cells #[.int .u8 (o0.toNat : Int), .int .u8 (o1.toNat : Int), .int .u8 (o2.toNat : Int), .int .u8 (o3.toNat : Int)] 30)) := Lib.hid ((hb4.block _ hzo).trans HWO.out)
    have HWF4 : Hid (w4.heap[gf]? = some (.cells #[.int .u8 (f0.toNat : Int), .int .u8 (f1.toNat : Int), .int .u8 (f2.toNat : Int), .int .u8 (f3.toNat : Int)] 30)) := Lib.hid ((hb4.block _ hzf).trans HWF.out)
    clear hb4
    obtain ⟨x0, x1, x2, x3⟩ := four_cells HWO4.out
    obtain ⟨y0, y1, y2, y3⟩ := four_cells HWF4.out
    have q0 : ∀ w', Below w4.heap.size w4 w' → w'.cell? ⟨w.heap.size, 0, none⟩ = some (.int .u8 (o0.toNat : Int)) := fun w' hw' => (hw'.cell (p := ⟨w.heap.size, 0, none⟩) hzo4).trans x0
    have q1 : ∀ w', Below w4.heap.size w4 w' → w'.cell? ⟨w.heap.size, 1, none⟩ = some (.int .u8 (o1.toNat : Int)) := fun w' hw' => (hw'.cell (p := ⟨w.heap.size, 1, none⟩) hzo4).trans x1
    have q2 : ∀ w', Below w4.heap.size w4 w' → w'.cell? ⟨w.heap.size, 2, none⟩ = some (.int .u8 (o2.toNat : Int)) := fun w' hw' => (hw'.cell (p := ⟨w.heap.size, 2, none⟩) hzo4).trans x2
    have q3 : ∀ w', Below w4.heap.size w4 w' → w'.cell? ⟨w.heap.size, 3, none⟩ = some (.int .u8 (o3.toNat : Int)) := fun w' hw' => (hw'.cell (p := ⟨w.heap.size, 3, none⟩) hzo4).trans x3
    have r0 : ∀ w', Below w4.heap.size w4 w' → w'.cell? ⟨gf, 0, none⟩ = some (.int .u8 (f0.toNat : Int)) := fun w' hw' => (hw'.cell (p := ⟨gf, 0, none⟩) hzf4).trans y0
    have r1 : ∀ w', Below w4.heap.size w4 w' → w'.cell? ⟨gf, 1, none⟩ = some (.int .u8 (f1.toNat : Int)) := fun w' hw' => (hw'.cell (p := ⟨gf, 1, none⟩) hzf4).trans y1
    have r2 : ∀ w', Below w4.heap.size w4 w' → w'.cell? ⟨gf, 2, none⟩ = some (.int .u8 (f2.toNat : Int)) := fun w' hw' => (hw'.cell (p := ⟨gf, 2, none⟩) hzf4).trans y2
    have r3 : ∀ w', Below w4.heap.size w4 w' → w'.cell? ⟨gf, 3, none⟩ = some (.int .u8 (f3.toNat : Int)) := fun w' hw' => (hw'.cell (p := ⟨gf, 3, none⟩) hzf4).trans y3
    clear x0 x1 x2 x3 y0 y1 y2 y3
    have heq0 : ∀ w', (binOp .eql 30 (.agg #[.int .u8 (o0.toNat : Int), .int .u8 (o1.toNat : Int), .int .u8 (o2.toNat : Int), .int .u8 (o3.toNat : Int)]) (.agg #[.int .u8 (f0.toNat : Int), .int .u8 (f1.toNat : Int), .int .u8 (f2.toNat : Int), .int .u8 (f3.toNat : Int)])).run Tryd.prog w' = .ok (.bool ([o0, o1, o2, o3] == [f0, f1, f2, f3])) w' :=
      fun w' => run_eql_bytes w' 30 5 4 Tryd.underlying30 Tryd.underlying5 (fun _ => by kernel_rfl) [o0, o1, o2, o3] [f0, f1, f2, f3] rfl rfl
    have hS : Below w4.heap.size w4 w4.drew := (Below.refl _ _).drew
    by_cases heq : [o0, o1, o2, o3] = [f0, f1, f2, f3]
    · rw [show ([o0, o1, o2, o3] == [f0, f1, f2, f3]) = true from by rw [heq]; simp] at heq0
      clear heq
      refine wp_region_held (S := fun w' => Below w4.heap.size w4 w') (by kernel_rfl) ?_
      refine H_take (i := 0) (v := ?_) rfl (by as_aux_lemma => kernel_rfl) (by as_aux_lemma => kernel_rfl) (by as_aux_lemma => kernel_rfl) (fun _ _ _ h => h) (by rfl) hS ?_ ?_
      rotate_left
      · intro w' hw'; go_simp; with_reducible rfl
      go_simp
      refine H_take (i := 1) (v := ?_) rfl (by as_aux_lemma => kernel_rfl) (by as_aux_lemma => kernel_rfl) (by as_aux_lemma => kernel_rfl) (fun _ _ _ h => h) (by rfl) hS ?_ ?_
      rotate_left
      · intro w' hw'; go_simp; with_reducible rfl
      go_simp
      refine H_take (i := 2) (v := ?_) rfl (by as_aux_lemma => kernel_rfl) (by as_aux_lemma => kernel_rfl) (by as_aux_lemma => kernel_rfl) (fun _ _ _ h => h) (by rfl) hS ?_ ?_
      rotate_left
      · intro w' hw'; go_simp; with_reducible rfl
      go_simp
      refine H_take (i := 3) (v := ?_) rfl (by as_aux_lemma => kernel_rfl) (by as_aux_lemma => kernel_rfl) (by as_aux_lemma => kernel_rfl) (fun _ _ _ h => h) (by rfl) hS ?_ ?_
      rotate_left
      · intro w' hw'; go_simp; with_reducible rfl
      go_simp
      refine H_skip (i := 4) rfl (by as_aux_lemma => kernel_rfl) (by as_aux_lemma => kernel_rfl) (by as_aux_lemma => kernel_rfl) (fun _ _ _ h => h) (by rfl) hS ?_
      go_simp
      refine H_skip (i := 5) rfl (by as_aux_lemma => kernel_rfl) (by as_aux_lemma => kernel_rfl) (by as_aux_lemma => kernel_rfl) (fun _ _ _ h => h) (by rfl) hS ?_
      go_simp
      refine H_skip (i := 6) rfl (by as_aux_lemma => kernel_rfl) (by as_aux_lemma => kernel_rfl) (by as_aux_lemma => kernel_rfl) (fun _ _ _ h => h) (by rfl) hS ?_
      go_simp
      refine H_skip (i := 7) rfl (by as_aux_lemma => kernel_rfl) (by as_aux_lemma => kernel_rfl) (by as_aux_lemma => kernel_rfl) (fun _ _ _ h => h) (by rfl) hS ?_
      go_simp
      refine H_skip (i := 8) rfl (by as_aux_lemma => kernel_rfl) (by as_aux_lemma => kernel_rfl) (by as_aux_lemma => kernel_rfl) (fun _ _ _ h => h) (by rfl) hS ?_
      go_simp
      refine H_skip (i := 9) rfl (by as_aux_lemma => kernel_rfl) (by as_aux_lemma => kernel_rfl) (by as_aux_lemma => kernel_rfl) (fun _ _ _ h => h) (by rfl) hS ?_
      go_simp
      refine H_skip (i := 10) rfl (by as_aux_lemma => kernel_rfl) (by as_aux_lemma => kernel_rfl) (by as_aux_lemma => kernel_rfl) (fun _ _ _ h => h) (by rfl) hS ?_
      go_simp
      refine H_skip (i := 11) rfl (by as_aux_lemma => kernel_rfl) (by as_aux_lemma => kernel_rfl) (by as_aux_lemma => kernel_rfl) (fun _ _ _ h => h) (by rfl) hS ?_
      go_simp
      refine H_take (i := 12) (v := ?_) rfl (by as_aux_lemma => kernel_rfl) (by as_aux_lemma => kernel_rfl) (by as_aux_lemma => kernel_rfl) (fun _ _ _ h => h) (by rfl) hS ?_ ?_
      rotate_left
      · intro w' hw'; go_simp; with_reducible rfl
      go_simp
      refine H_take (i := 13) (v := ?_) rfl (by as_aux_lemma => kernel_rfl) (by as_aux_lemma => kernel_rfl) (by as_aux_lemma => kernel_rfl) (fun _ _ _ h => h) (by rfl) hS ?_ ?_
      rotate_left
      · intro w' hw'; go_simp; with_reducible rfl
      go_simp
      refine wpAnyH_done (by as_aux_lemma => kernel_rfl) ?_ _
      clear q0 q1 q2 q3 r0 r1 r2 r3 heq0
      go_wp2_with fail
      go_ret
      exact ⟨rfl, HW4.out.drew⟩
    · rw [show ([o0, o1, o2, o3] == [f0, f1, f2, f3]) = false from by simpa using heq] at heq0
      have HNE : Hid (C.sumOf (A ++ [o0, o1, o2, o3]) ≠ t) := Lib.hid fun h => heq (fix_other A rfl rfl (h.trans HS.out.symm))
      clear heq
      refine wp_region_held (S := fun w' => Below w4.heap.size w4 w') (by kernel_rfl) ?_
      refine H_take (i := 0) (v := ?_) rfl (by as_aux_lemma => kernel_rfl) (by as_aux_lemma => kernel_rfl) (by as_aux_lemma => kernel_rfl) (fun _ _ _ h => h) (by rfl) hS ?_ ?_
      rotate_left
      · intro w' hw'; go_simp; with_reducible rfl
      go_simp
      refine H_take (i := 1) (v := ?_) rfl (by as_aux_lemma => kernel_rfl) (by as_aux_lemma => kernel_rfl) (by as_aux_lemma => kernel_rfl) (fun _ _ _ h => h) (by rfl) hS ?_ ?_
      rotate_left
      · intro w' hw'; go_simp; with_reducible rfl
      go_simp
      refine H_take (i := 2) (v := ?_) rfl (by as_aux_lemma => kernel_rfl) (by as_aux_lemma => kernel_rfl) (by as_aux_lemma => kernel_rfl) (fun _ _ _ h => h) (by rfl) hS ?_ ?_
      rotate_left
      · intro w' hw'; go_simp; with_reducible rfl
      go_simp
      refine H_take (i := 3) (v := ?_) rfl (by as_aux_lemma => kernel_rfl) (by as_aux_lemma => kernel_rfl) (by as_aux_lemma => kernel_rfl) (fun _ _ _ h => h) (by rfl) hS ?_ ?_
      rotate_left
      · intro w' hw'; go_simp; with_reducible rfl
      go_simp
      refine H_take (i := 5) (v := ?_) rfl (by as_aux_lemma => kernel_rfl) (by as_aux_lemma => kernel_rfl) (by as_aux_lemma => kernel_rfl) (fun _ _ _ h => h) (by rfl) hS ?_ ?_
      rotate_left
      · intro w' hw'; go_simp; with_reducible rfl
      go_simp
      refine H_take (i := 7) (v := ?_) rfl (by as_aux_lemma => kernel_rfl) (by as_aux_lemma => kernel_rfl) (by as_aux_lemma => kernel_rfl) (fun _ _ _ h => h) (by rfl) hS ?_ ?_
      rotate_left
      · intro w' hw'; go_simp; with_reducible rfl
      go_simp
      refine H_take (i := 10) (v := ?_) rfl (by as_aux_lemma => kernel_rfl) (by as_aux_lemma => kernel_rfl) (by as_aux_lemma => kernel_rfl) (fun _ _ _ h => h) (by rfl) hS ?_ ?_
      rotate_left
      · intro w' hw'; go_simp; with_reducible rfl
      go_simp
      clear q0 q1 q2 q3 r0 r1 r2 r3 heq0
      have HRO : Hid (RepB w4 (fun b => b < w4.heap.size) [o0, o1, o2, o3] (.slice (some ⟨w.heap.size, 0, none⟩) 4 4)) := Lib.hid (by
        refine .inr ⟨w.heap.size, 0, 4, rfl, hzo4, by simp, by omega, fun i hi => ?_⟩
        have hc := cell_of_row w4 w.heap.size (0 + i) _ _ _ HWO4.out
        rw [hc]
        match i, hi with
        | 0, _ => rfl
        | 1, _ => rfl
        | 2, _ => rfl
        | 3, _ => rfl)
      refine H_one (i := 4) (by as_aux_lemma => kernel_rfl) rfl (by rfl) ?_
      go_simp
      refine ⟨hS.alloc (by simp) _, ?_⟩
      go_simp
      refine H_one (i := 6) (by as_aux_lemma => kernel_rfl) rfl (by rfl) ?_
      refine wp_own_append (w := w4) (L2 := A) _ _ rfl rfl rfl (Own.lit (wr := w4.drew) hS rfl) rfl (F := fun _ => True) ?_ (by simp; omega) ?_
      · exact (HA.out.later HF.out ((HW4.out.drew).alloc HW4.out.size _)).weak fun _ _ => trivial
      intro v5 w5 hO5
      obtain ⟨a5, c5, rfl⟩ := hO5.slice
      refine ⟨hO5.1, ?_⟩
      go_simp
      have HO5 := Lib.hid hO5
      clear hO5
      refine H_one (i := 8) (by as_aux_lemma => kernel_rfl) rfl (by rfl) ?_
      refine wp_own_append (w := w4) (L2 := [o0, o1, o2, o3]) _ _ rfl rfl rfl HO5.out rfl (F := fun _ => True) ?_ (by simp; omega) ?_
      · exact (HRO.out.later (fun _ h => h) HO5.out.1).weak fun _ _ => trivial
      intro v6 w6 hO6
      obtain ⟨Y, hY⟩ : ∃ Y, Y = A ++ [o0, o1, o2, o3] := ⟨_, rfl⟩
      rw [List.nil_append, ← hY] at hO6
      have HY := Lib.hid hY
      clear hY
      obtain ⟨a6, c6, rfl⟩ := hO6.slice
      refine ⟨hO6.1, ?_⟩
      go_simp
      have HO6 := Lib.hid hO6
      clear hO6
      refine H_one (i := 9) (by as_aux_lemma => kernel_rfl) rfl (by rfl) ?_
      go_simp
      refine (RefOf_any Y _ _ _ HO6.out.now).mono ?_
      rintro e w' ⟨rfl, rfl⟩
      obtain ⟨s, hs⟩ : ∃ s, s = C.sumOf Y := ⟨_, rfl⟩
      rw [← hs]
      have hst : ((s : Int) == (t : Int)) = false := by
        have h := HNE.out
        rw [← HY.out, ← hs] at h
        rw [int_beq]; exact decide_eq_false h
      have hst2 : ((s : Int) != (t : Int)) = true := by rw [bne, hst]; rfl
      clear hs
      have hS6 : Below w4.heap.size w4 w6 := HO6.out.1
      refine ⟨hS6, ?_⟩
      go_simp
      refine H_take (i := 11) (v := ?_) rfl (by as_aux_lemma => kernel_rfl) (by as_aux_lemma => kernel_rfl) (by as_aux_lemma => kernel_rfl) (fun _ _ _ h => h) (by rfl) hS6 ?_ ?_
      rotate_left
      · intro w' hw'; go_simp; with_reducible rfl
      go_simp
      refine H_take (i := 12) (v := ?_) rfl (by as_aux_lemma => kernel_rfl) (by as_aux_lemma => kernel_rfl) (by as_aux_lemma => kernel_rfl) (fun _ _ _ h => h) (by rfl) hS6 ?_ ?_
      rotate_left
      · intro w' hw'; go_simp; with_reducible rfl
      go_simp
      refine H_take (i := 13) (v := ?_) rfl (by as_aux_lemma => kernel_rfl) (by as_aux_lemma => kernel_rfl) (by as_aux_lemma => kernel_rfl) (fun _ _ _ h => h) (by rfl) hS6 ?_ ?_
      rotate_left
      · intro w' hw'; go_simp; with_reducible rfl
      go_simp
      refine wpAnyH_done (by as_aux_lemma => kernel_rfl) ?_ _
      have HS6 := Lib.hid hS6
      clear hS hS6 hst hst2
      go_wp2_with fail
      go_ret
      exact ⟨rfl, HW4.out.trans (HS6.out.mono HW4.out.size)⟩
  · have t1 : (5000 : Int) < (A.length : Int) := by omega
    go_enter Tryd.func4, Tryd.ntmps4
    go_wp2_with fail
    refine (awake_any _ (Lib.hid (ht.out.next HB0.out))).mono ?_
    rintro e w1 ⟨rfl, hB1⟩
    have HB1 : Hid (Below w.heap.size w w1) := Lib.hid (HB0.out.trans (hB1.mono HB0.out.size))
    have T1 : Hid (Tab w1) := Lib.hid (ht.out.next HB1.out)
    clear hB1
    go_wp2_with fail
    refine (awake_any _ T1).mono ?_
    rintro e w2 ⟨rfl, hB2⟩
    have HB2 := Lib.hid hB2
    clear hB2
    go_wp2_with fail
    go_ret
    exact ⟨rfl, HB1.out.trans (HB2.out.mono HB1.out.size)⟩

open Go.ChangeShapes Go.WideShapes Go.ChangeAt in
theorem four_in {H : Type} {enc : TypeId × Value → H} {W : World} {base : Nat} {v : Value} {d : DataW H} {p : List MemPlace} (h : DataW.Trod enc Tryd.prog W 0 (fun _ => true) true 30 v d p)
    (hk : Value.okWide Tryd.prog W .any base 30 v) : ∃ o0 o1 o2 o3 : UInt8, v = four o0 o1 o2 o3 := by
  unfold Value.okWide at hk
  rw [Tryd.underlying30] at hk
  obtain ⟨cs, rfl, hs, -⟩ := hk
  rw [show Tryd.prog.cellsOf 30 = 4 from by kernel_rfl] at hs
  obtain ⟨fuel, hf⟩ := h
  obtain ⟨l⟩ := cs
  match l, hs with
  | [c0, c1, c2, c3], _ =>
    obtain ⟨y0, y1, y2, y3, n, -, h0, h1, h2, h3⟩ := trod_array4 Tryd.underlying30 (by kernel_rfl) hf
    obtain ⟨z0, e0, -, b0⟩ := DataW.trod_int Tryd.underlying5 h0
    obtain ⟨z1, e1, -, b1⟩ := DataW.trod_int Tryd.underlying5 h1
    obtain ⟨z2, e2, -, b2⟩ := DataW.trod_int Tryd.underlying5 h2
    obtain ⟨z3, e3, -, b3⟩ := DataW.trod_int Tryd.underlying5 h3
    cases e0; cases e1; cases e2; cases e3
    have a0 := bounds_u8 b0
    have a1 := bounds_u8 b1
    have a2 := bounds_u8 b2
    have a3 := bounds_u8 b3
    refine ⟨UInt8.ofNat z0.toNat, UInt8.ofNat z1.toNat, UInt8.ofNat z2.toNat, UInt8.ofNat z3.toNat, ?_⟩
    unfold four
    rw [ofNat_to (by omega), ofNat_to (by omega), ofNat_to (by omega), ofNat_to (by omega), Int.toNat_of_nonneg a0.1, Int.toNat_of_nonneg a1.1, Int.toNat_of_nonneg a2.1, Int.toNat_of_nonneg a3.1]
end Go.Proofs.YtecgbnghapjfgaaDoor.M
