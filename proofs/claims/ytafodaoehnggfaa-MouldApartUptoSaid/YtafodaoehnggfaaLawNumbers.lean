/- The walk of the law MouldNumbers. -/
import Derived.Test.YtafodaoehnggfaaRefNumber
import Derived.Test.YtafodaoehnggfaaMouldPure
import Derived.Deep.Cut
import Derived.OrdersHeld
import Derived.Deep.RegionHeld
import Derived.Deep.CutRange
namespace Go.Proofs.Ytafodaoehnggfaa.M
open Go.RowKit

theorem string_at {w : World} {F : Nat → Prop} {L : List UInt8} {v : Value} (h : RepB w F L v) : (convert 29 9 v).run Try.prog w = .ok (.string (strOf L)) w :=
  run_string (P := Try.prog) h 29 5 9 Try.underlying29 Try.underlying5 Try.underlying9

/-- Put of one number. -/
theorem put_one (n : Nat) (w : World) (hn : n < 18446744073709551616) :
    Calls Try.prog 12 #[.string ⟨#[110]⟩, .slice (some ⟨w.heap.size, 0, none⟩) 1 1] (w.alloc (.cells #[.int .u64 (n : Int), .slice none 0 0, .slice none 0 0] 31)) fun e w' =>
      ∃ v, e = .returned (.tuple #[v, .int .i64 0]) ∧ Below w.heap.size w w' ∧ RepB w' (fun b => w.heap.size ≤ b ∧ b < w'.heap.size) (num n) v := by
  have hv1 : RepVl (w.alloc (.cells #[.int .u64 (n : Int), .slice none 0 0, .slice none 0 0] 31)) (fun b => b = w.heap.size) [.mk n [] []] (.slice (some ⟨w.heap.size, 0, none⟩) 1 1) :=
    RepVl.one (w := w) (F := fun _ => False) (RepV_mk.2 ⟨_, _, rfl, hn, .inl ⟨rfl, Bare.nil⟩, .inl ⟨rfl, Bare.nil⟩⟩) (heap_new _ _ _ rfl) (fun _ h => h.elim) (fun _ h => h.elim) rfl
  refine (Put_any ⟨#[110]⟩ [.mk n [] []] _ _ _ (by decide) hv1 (fun b hb => by rw [hb]; simp) (by simp [vsizes, vsize])).mono ?_
  rintro e w1 ⟨hb1, hp⟩
  rw [show (⟨#[110]⟩ : ByteArray).data.toList = [110] from rfl, put_num] at hp
  obtain ⟨v1, rfl, hown1⟩ := hp
  exact ⟨v1, rfl, (below_alloc _ _).trans (hb1.mono (by simp)), (RepB.of_own hown1).same (fun b hb => by simp at hb; omega) fun _ _ => rfl⟩

/-- The bytes of the longer form. -/
theorem long_rep {W w' : World} {D : List UInt8} {n : Nat} {v' : Value} {z : Nat} (hz : z ≤ W.heap.size) (hl : Hid (D.length ≤ 8))
    (h : AppLeft (W.alloc (.cells #[.int .u8 ((D.length : Int) + 1), .int .u8 0] 5)).drew W.heap.size 5 1 (.slice (some ⟨W.heap.size, 0, none⟩) 2 2) 2 n [.int .u8 ((D.length : Int) + 1), .int .u8 0] (D.map byteV) v' w') :
    Below W.heap.size W w' ∧ RepB w' (fun b => b < w'.heap.size) ([UInt8.ofNat (D.length + 1), 0] ++ D) v' := by
  have h8 := hl.out
  have e : (UInt8.ofNat (D.length + 1)).toNat = D.length + 1 := UInt8.toNat_ofNat_of_lt' (by show _ < 256; omega)
  have h2 : AppLeft (W.alloc (.cells #[.int .u8 ((D.length : Int) + 1), .int .u8 0] 5)).drew W.heap.size 5 1 (.slice (some ⟨W.heap.size, 0, none⟩) 2 2) 2 n ([UInt8.ofNat (D.length + 1), 0].map byteV) (D.map byteV) v' w' := by
    have e1 : byteV (UInt8.ofNat (D.length + 1)) = .int .u8 ((D.length : Int) + 1) := by unfold byteV; rw [e]; rfl
    have e2 : byteV (0 : UInt8) = .int .u8 0 := rfl
    rw [List.map_cons, List.map_cons, List.map_nil, e1, e2]
    exact h
  have hacc := Acc.of_app h2
  have hg := hacc.2.1
  refine ⟨⟨hg.os, hg.tape, hg.output, Nat.le_trans (by simp) hg.size, fun k hk => ?_⟩, (RepB.of_own hacc.1).same (fun b hb => hb.2) fun _ _ => rfl⟩
  rw [hg.block k (by simp; omega) (by simp [Value.ownBlock]; omega)]
  exact Below.heap_alloc _ _ _ hk

set_option maxRecDepth 100000 in
set_option maxHeartbeats 1600000 in
theorem MouldNumbers_any (a b : Nat) (w : World) (ha : Hid (a < 18446744073709551616)) (hb : Hid (b < 18446744073709551616)) :
    Calls Try.prog 6 #[.int .u64 (a : Int), .int .u64 (b : Int)] w fun e w' => e = .returned (.bool true) ∧ Below w.heap.size w w' := by
  have HPA := Lib.hid (fun w => put_one a w ha.out)
  have HPB := Lib.hid (fun w => put_one b w hb.out)
  have HNA := Lib.hid (fun w => Number_any a w ha)
  have HNN : Hid (num a = UInt8.ofNat (dig 8 a).length :: dig 8 a) := Lib.hid rfl
  have HDF := Lib.hid (dig_fuel 8 a)
  have HTA := Lib.hid (takeAt_num a ha.out)
  have HTL := Lib.hid (takeAt_long a)
  have HLG : Hid (¬ ((num a).length < (num b).length ∧ b ≤ a)) := Lib.hid (by
    rintro ⟨h1, h2⟩
    have := num_longer ha.out hb.out h1
    omega)
  clear ha hb
  go_enter Try.func6, Try.ntmps6
  go_wp2_with fail
  refine (awake_any _).mono ?_
  rintro e w1 ⟨rfl, hB1⟩
  go_wp2_with fail
  refine (HPA.out _).mono ?_
  rintro e w2 ⟨vx, rfl, hB2, hx⟩
  go_wp2_with fail
  refine (HPB.out _).mono ?_
  rintro e w3 ⟨vy, rfl, hB3, hy⟩
  have HB3 : Hid (Below w.heap.size w w3) := Lib.hid (hB1.trans ((hB2.mono hB1.size).trans (hB3.mono (Nat.le_trans hB1.size hB2.size))))
  have hx3 : RepB w3 (fun b => b < w3.heap.size) (num a) vx := hx.same (fun b hb => by have := hB3.size; omega) fun b hb => hB3.block b hb.2
  obtain ⟨xa, xc, rfl, hxl⟩ := hx.slice
  obtain ⟨ya, yc, rfl, hyl⟩ := hy.slice
  have HX := Lib.hid hx3
  clear hx hy hx3 hB1 hB2 hB3
  obtain ⟨xb, xo, rfl, hxb, hx0, hxr⟩ : ∃ xb xo, xa = some ⟨xb, xo, none⟩ ∧ xb < w3.heap.size ∧ w3.cell? ⟨xb, xo, none⟩ = some (.int .u8 ((dig 8 a).length : Int)) ∧ (num a).length ≤ xc := by
    rcases HX.out with ⟨h, _⟩ | ⟨xb, xo, c, h, h1, h2, _, hc⟩
    · rw [HNN.out] at h; cases h
    · cases h
      refine ⟨xb, xo, rfl, h1, ?_, h2⟩
      have := hc 0 (by rw [HNN.out]; simp)
      have e : (num a)[0]'(by rw [HNN.out]; simp) = UInt8.ofNat (dig 8 a).length := by simp [num]
      rw [e, num_len8, Nat.add_zero] at this
      exact this
  have hla : (num a).length = (dig 8 a).length + 1 := by rw [HNN.out]; rfl
  have HLA := Lib.hid hla
  have hdl := HDF.out
  have HX2 := HX.out
  generalize num a = X at *
  generalize num b = Y at *
  generalize dig 8 a = D at *
  rw [hla] at hxr hxl
  clear hla HX2
  have HX9 : Hid (RepB w3 (fun b => b < w3.heap.size) X (.slice (some ⟨xb, xo, none⟩) (D.length + 1) xc)) := Lib.hid (by have := HX.out; rw [HLA.out] at this; exact this)
  rw [HLA.out] at HLG ⊢
  go_wp2_with fail
  go_cut [65] from 30 (fun s w' => s = .bool false ∧ Below w3.heap.size w3 w')
  case first =>
    refine wp_region_held (S := fun w' => Below w3.heap.size w3 w') (by kernel_rfl) ?_
    have hS : Below w3.heap.size w3 w3.drew := (Below.refl _ _).drew
    have hcv : ∀ w', Below w3.heap.size w3 w' → (convert 29 9 (.slice (some ⟨xb, xo, none⟩) (D.length + 1) xc)).run Try.prog w' = .ok (.string (strOf X)) w' :=
      fun w' hw' => string_at (HX9.out.same (fun _ h => h) fun b hb => hw'.block b hb)
    have hcl : ∀ w', Below w3.heap.size w3 w' → w'.cell? ⟨xb, xo, none⟩ = some (.int .u8 (D.length : Int)) := fun w' hw' => (hw'.cell (p := ⟨xb, xo, none⟩) hxb).trans hx0
    have hw1 : IntKind.i64.wrap (D.length : Int) = (D.length : Int) := IntWalk.i64_in _ (by omega)
    refine H_take (i := 0) (v := ?_) rfl (by as_aux_lemma => kernel_rfl) (by as_aux_lemma => kernel_rfl) (by as_aux_lemma => kernel_rfl) (fun _ _ _ h => h) (by rfl) hS ?_ ?_
    rotate_left
    · intro w' hw'; go_simp; with_reducible rfl
    go_simp
    refine H_take (i := 1) (v := ?_) rfl (by as_aux_lemma => kernel_rfl) (by as_aux_lemma => kernel_rfl) (by as_aux_lemma => kernel_rfl) (fun _ _ _ h => h) (by rfl) hS ?_ ?_
    rotate_left
    · intro w' hw'; go_simp; with_reducible rfl
    go_simp
    refine H_take (i := 2) (v := ?_) rfl (by as_aux_lemma => kernel_rfl) (by as_aux_lemma => kernel_rfl) (by as_aux_lemma => kernel_rfl) (fun _ _ _ h => h) (by rfl) hS ?_ ?_
    rotate_left
    · intro w' hw'; go_simp; with_reducible rfl
    go_simp
    refine H_take (i := 3) (v := ?_) rfl (by as_aux_lemma => kernel_rfl) (by as_aux_lemma => kernel_rfl) (by as_aux_lemma => kernel_rfl) (fun _ _ _ h => h) (by rfl) hS ?_ ?_
    rotate_left
    · intro w' hw'; go_simp; with_reducible rfl
    go_simp
    refine H_take (i := 4) (v := ?_) rfl (by as_aux_lemma => kernel_rfl) (by as_aux_lemma => kernel_rfl) (by as_aux_lemma => kernel_rfl) (fun _ _ _ h => h) (by rfl) hS ?_ ?_
    rotate_left
    · intro w' hw'; go_simp; with_reducible rfl
    go_simp
    refine H_take (i := 5) (v := ?_) rfl (by as_aux_lemma => kernel_rfl) (by as_aux_lemma => kernel_rfl) (by as_aux_lemma => kernel_rfl) (fun _ _ _ h => h) (by rfl) hS ?_ ?_
    rotate_left
    · intro w' hw'; go_simp; with_reducible rfl
    go_simp
    refine H_take (i := 6) (v := ?_) rfl (by as_aux_lemma => kernel_rfl) (by as_aux_lemma => kernel_rfl) (by as_aux_lemma => kernel_rfl) (fun _ _ _ h => h) (by rfl) hS ?_ ?_
    rotate_left
    · intro w' hw'; go_simp; with_reducible rfl
    go_simp
    refine H_take (i := 7) (v := ?_) rfl (by as_aux_lemma => kernel_rfl) (by as_aux_lemma => kernel_rfl) (by as_aux_lemma => kernel_rfl) (fun _ _ _ h => h) (by rfl) hS ?_ ?_
    rotate_left
    · intro w' hw'; go_simp; with_reducible rfl
    go_simp
    refine H_take (i := 8) (v := ?_) rfl (by as_aux_lemma => kernel_rfl) (by as_aux_lemma => kernel_rfl) (by as_aux_lemma => kernel_rfl) (fun _ _ _ h => h) (by rfl) hS ?_ ?_
    rotate_left
    · intro w' hw'; go_simp; with_reducible rfl
    go_simp
    refine H_take (i := 9) (v := ?_) rfl (by as_aux_lemma => kernel_rfl) (by as_aux_lemma => kernel_rfl) (by as_aux_lemma => kernel_rfl) (fun _ _ _ h => h) (by rfl) hS ?_ ?_
    rotate_left
    · intro w' hw'; go_simp; with_reducible rfl
    go_simp
    refine H_one (i := 10) (by as_aux_lemma => kernel_rfl) rfl (by rfl) ?_
    go_simp
    refine (HNA.out _).mono ?_
    rintro e w4 ⟨vz, rfl, hB4, hz⟩
    have hS4 : Below w3.heap.size w3 w4 := hS.trans hB4
    have hs3 := string_at (RepB.of_own hz)
    refine ⟨hS4, ?_⟩
    go_simp
    refine H_one (i := 11) (by as_aux_lemma => kernel_rfl) rfl (by rfl) ?_
    go_simp
    clear hs3 hz
    by_cases hlt : D.length + 1 < Y.length
    · have hlt2 : (D.length : Int) + 1 < (Y.length : Int) := by omega
      have hba : ¬ b ≤ a := fun h => HLG.out ⟨hlt, h⟩
      have hba2 : ¬ (b : Int) ≤ (a : Int) := by omega
      refine H_take (i := 12) (v := ?_) rfl (by as_aux_lemma => kernel_rfl) (by as_aux_lemma => kernel_rfl) (by as_aux_lemma => kernel_rfl) (fun _ _ _ h => h) (by rfl) hS4 ?_ ?_
      rotate_left
      · intro w' hw'; go_simp; with_reducible rfl
      go_simp
      refine H_take (i := 13) (v := ?_) rfl (by as_aux_lemma => kernel_rfl) (by as_aux_lemma => kernel_rfl) (by as_aux_lemma => kernel_rfl) (fun _ _ _ h => h) (by rfl) hS4 ?_ ?_
      rotate_left
      · intro w' hw'; go_simp; with_reducible rfl
      go_simp
      refine H_take (i := 14) (v := ?_) rfl (by as_aux_lemma => kernel_rfl) (by as_aux_lemma => kernel_rfl) (by as_aux_lemma => kernel_rfl) (fun _ _ _ h => h) (by rfl) hS4 ?_ ?_
      rotate_left
      · intro w' hw'; go_simp; with_reducible rfl
      go_simp
      refine H_take (i := 15) (v := ?_) rfl (by as_aux_lemma => kernel_rfl) (by as_aux_lemma => kernel_rfl) (by as_aux_lemma => kernel_rfl) (fun _ _ _ h => h) (by rfl) hS4 ?_ ?_
      rotate_left
      · intro w' hw'; go_simp; with_reducible rfl
      go_simp
      refine H_take (i := 16) (v := ?_) rfl (by as_aux_lemma => kernel_rfl) (by as_aux_lemma => kernel_rfl) (by as_aux_lemma => kernel_rfl) (fun _ _ _ h => h) (by rfl) hS4 ?_ ?_
      rotate_left
      · intro w' hw'; go_simp; with_reducible rfl
      go_simp
      refine H_take (i := 17) (v := ?_) rfl (by as_aux_lemma => kernel_rfl) (by as_aux_lemma => kernel_rfl) (by as_aux_lemma => kernel_rfl) (fun _ _ _ h => h) (by rfl) hS4 ?_ ?_
      rotate_left
      · intro w' hw'; go_simp; with_reducible rfl
      go_simp
      refine H_take (i := 18) (v := ?_) rfl (by as_aux_lemma => kernel_rfl) (by as_aux_lemma => kernel_rfl) (by as_aux_lemma => kernel_rfl) (fun _ _ _ h => h) (by rfl) hS4 ?_ ?_
      rotate_left
      · intro w' hw'; go_simp; with_reducible rfl
      go_simp
      refine H_take (i := 19) (v := ?_) rfl (by as_aux_lemma => kernel_rfl) (by as_aux_lemma => kernel_rfl) (by as_aux_lemma => kernel_rfl) (fun _ _ _ h => h) (by rfl) hS4 ?_ ?_
      rotate_left
      · intro w' hw'; go_simp; with_reducible rfl
      go_simp
      refine H_take (i := 20) (v := ?_) rfl (by as_aux_lemma => kernel_rfl) (by as_aux_lemma => kernel_rfl) (by as_aux_lemma => kernel_rfl) (fun _ _ _ h => h) (by rfl) hS4 ?_ ?_
      rotate_left
      · intro w' hw'; go_simp; with_reducible rfl
      go_simp
      refine H_take (i := 21) (v := ?_) rfl (by as_aux_lemma => kernel_rfl) (by as_aux_lemma => kernel_rfl) (by as_aux_lemma => kernel_rfl) (fun _ _ _ h => h) (by rfl) hS4 ?_ ?_
      rotate_left
      · intro w' hw'; go_simp; with_reducible rfl
      go_simp
      refine H_take (i := 22) (v := ?_) rfl (by as_aux_lemma => kernel_rfl) (by as_aux_lemma => kernel_rfl) (by as_aux_lemma => kernel_rfl) (fun _ _ _ h => h) (by rfl) hS4 ?_ ?_
      rotate_left
      · intro w' hw'; go_simp; with_reducible rfl
      go_simp
      refine H_take (i := 23) (v := ?_) rfl (by as_aux_lemma => kernel_rfl) (by as_aux_lemma => kernel_rfl) (by as_aux_lemma => kernel_rfl) (fun _ _ _ h => h) (by rfl) hS4 ?_ ?_
      rotate_left
      · intro w' hw'; go_simp; with_reducible rfl
      go_simp
      refine H_take (i := 24) (v := ?_) rfl (by as_aux_lemma => kernel_rfl) (by as_aux_lemma => kernel_rfl) (by as_aux_lemma => kernel_rfl) (fun _ _ _ h => h) (by rfl) hS4 ?_ ?_
      rotate_left
      · intro w' hw'; go_simp; with_reducible rfl
      go_simp
      refine H_take (i := 25) (v := ?_) rfl (by as_aux_lemma => kernel_rfl) (by as_aux_lemma => kernel_rfl) (by as_aux_lemma => kernel_rfl) (fun _ _ _ h => h) (by rfl) hS4 ?_ ?_
      rotate_left
      · intro w' hw'; go_simp; with_reducible rfl
      go_simp
      refine H_take (i := 26) (v := ?_) rfl (by as_aux_lemma => kernel_rfl) (by as_aux_lemma => kernel_rfl) (by as_aux_lemma => kernel_rfl) (fun _ _ _ h => h) (by rfl) hS4 ?_ ?_
      rotate_left
      · intro w' hw'; go_simp; with_reducible rfl
      go_simp
      refine H_take (i := 27) (v := ?_) rfl (by as_aux_lemma => kernel_rfl) (by as_aux_lemma => kernel_rfl) (by as_aux_lemma => kernel_rfl) (fun _ _ _ h => h) (by rfl) hS4 ?_ ?_
      rotate_left
      · intro w' hw'; go_simp; with_reducible rfl
      go_simp
      refine H_take (i := 28) (v := ?_) rfl (by as_aux_lemma => kernel_rfl) (by as_aux_lemma => kernel_rfl) (by as_aux_lemma => kernel_rfl) (fun _ _ _ h => h) (by rfl) hS4 ?_ ?_
      rotate_left
      · intro w' hw'; go_simp; with_reducible rfl
      go_simp
      refine H_take (i := 29) (v := ?_) rfl (by as_aux_lemma => kernel_rfl) (by as_aux_lemma => kernel_rfl) (by as_aux_lemma => kernel_rfl) (fun _ _ _ h => h) (by rfl) hS4 ?_ ?_
      rotate_left
      · intro w' hw'; go_simp; with_reducible rfl
      go_simp
      refine H_take (i := 30) (v := ?_) rfl (by as_aux_lemma => kernel_rfl) (by as_aux_lemma => kernel_rfl) (by as_aux_lemma => kernel_rfl) (fun _ _ _ h => h) (by rfl) hS4 ?_ ?_
      rotate_left
      · intro w' hw'; go_simp; with_reducible rfl
      go_simp
      refine H_take (i := 31) (v := ?_) rfl (by as_aux_lemma => kernel_rfl) (by as_aux_lemma => kernel_rfl) (by as_aux_lemma => kernel_rfl) (fun _ _ _ h => h) (by rfl) hS4 ?_ ?_
      rotate_left
      · intro w' hw'; go_simp; with_reducible rfl
      go_simp
      refine H_take (i := 32) (v := ?_) rfl (by as_aux_lemma => kernel_rfl) (by as_aux_lemma => kernel_rfl) (by as_aux_lemma => kernel_rfl) (fun _ _ _ h => h) (by rfl) hS4 ?_ ?_
      rotate_left
      · intro w' hw'; go_simp; with_reducible rfl
      go_simp
      refine H_take (i := 33) (v := ?_) rfl (by as_aux_lemma => kernel_rfl) (by as_aux_lemma => kernel_rfl) (by as_aux_lemma => kernel_rfl) (fun _ _ _ h => h) (by rfl) hS4 ?_ ?_
      rotate_left
      · intro w' hw'; go_simp; with_reducible rfl
      go_simp
      refine H_take (i := 34) (v := ?_) rfl (by as_aux_lemma => kernel_rfl) (by as_aux_lemma => kernel_rfl) (by as_aux_lemma => kernel_rfl) (fun _ _ _ h => h) (by rfl) hS4 ?_ ?_
      rotate_left
      · intro w' hw'; go_simp; with_reducible rfl
      go_simp
      refine H_take (i := 35) (v := ?_) rfl (by as_aux_lemma => kernel_rfl) (by as_aux_lemma => kernel_rfl) (by as_aux_lemma => kernel_rfl) (fun _ _ _ h => h) (by rfl) hS4 ?_ ?_
      rotate_left
      · intro w' hw'; go_simp; with_reducible rfl
      go_simp
      refine wpAnyH_done (by as_aux_lemma => kernel_rfl) ?_ _
      go_wp2_with fail
      go_meet
      case rel => exact ⟨rfl, hS4⟩
    · have hlt2 : ¬ (D.length : Int) + 1 < (Y.length : Int) := by omega
      refine H_take (i := 12) (v := ?_) rfl (by as_aux_lemma => kernel_rfl) (by as_aux_lemma => kernel_rfl) (by as_aux_lemma => kernel_rfl) (fun _ _ _ h => h) (by rfl) hS4 ?_ ?_
      rotate_left
      · intro w' hw'; go_simp; with_reducible rfl
      go_simp
      refine H_take (i := 13) (v := ?_) rfl (by as_aux_lemma => kernel_rfl) (by as_aux_lemma => kernel_rfl) (by as_aux_lemma => kernel_rfl) (fun _ _ _ h => h) (by rfl) hS4 ?_ ?_
      rotate_left
      · intro w' hw'; go_simp; with_reducible rfl
      go_simp
      refine H_take (i := 14) (v := ?_) rfl (by as_aux_lemma => kernel_rfl) (by as_aux_lemma => kernel_rfl) (by as_aux_lemma => kernel_rfl) (fun _ _ _ h => h) (by rfl) hS4 ?_ ?_
      rotate_left
      · intro w' hw'; go_simp; with_reducible rfl
      go_simp
      refine H_take (i := 15) (v := ?_) rfl (by as_aux_lemma => kernel_rfl) (by as_aux_lemma => kernel_rfl) (by as_aux_lemma => kernel_rfl) (fun _ _ _ h => h) (by rfl) hS4 ?_ ?_
      rotate_left
      · intro w' hw'; go_simp; with_reducible rfl
      go_simp
      refine H_take (i := 16) (v := ?_) rfl (by as_aux_lemma => kernel_rfl) (by as_aux_lemma => kernel_rfl) (by as_aux_lemma => kernel_rfl) (fun _ _ _ h => h) (by rfl) hS4 ?_ ?_
      rotate_left
      · intro w' hw'; go_simp; with_reducible rfl
      go_simp
      refine H_take (i := 17) (v := ?_) rfl (by as_aux_lemma => kernel_rfl) (by as_aux_lemma => kernel_rfl) (by as_aux_lemma => kernel_rfl) (fun _ _ _ h => h) (by rfl) hS4 ?_ ?_
      rotate_left
      · intro w' hw'; go_simp; with_reducible rfl
      go_simp
      refine H_take (i := 18) (v := ?_) rfl (by as_aux_lemma => kernel_rfl) (by as_aux_lemma => kernel_rfl) (by as_aux_lemma => kernel_rfl) (fun _ _ _ h => h) (by rfl) hS4 ?_ ?_
      rotate_left
      · intro w' hw'; go_simp; with_reducible rfl
      go_simp
      refine H_take (i := 19) (v := ?_) rfl (by as_aux_lemma => kernel_rfl) (by as_aux_lemma => kernel_rfl) (by as_aux_lemma => kernel_rfl) (fun _ _ _ h => h) (by rfl) hS4 ?_ ?_
      rotate_left
      · intro w' hw'; go_simp; with_reducible rfl
      go_simp
      refine H_take (i := 20) (v := ?_) rfl (by as_aux_lemma => kernel_rfl) (by as_aux_lemma => kernel_rfl) (by as_aux_lemma => kernel_rfl) (fun _ _ _ h => h) (by rfl) hS4 ?_ ?_
      rotate_left
      · intro w' hw'; go_simp; with_reducible rfl
      go_simp
      refine H_take (i := 21) (v := ?_) rfl (by as_aux_lemma => kernel_rfl) (by as_aux_lemma => kernel_rfl) (by as_aux_lemma => kernel_rfl) (fun _ _ _ h => h) (by rfl) hS4 ?_ ?_
      rotate_left
      · intro w' hw'; go_simp; with_reducible rfl
      go_simp
      refine H_take (i := 22) (v := ?_) rfl (by as_aux_lemma => kernel_rfl) (by as_aux_lemma => kernel_rfl) (by as_aux_lemma => kernel_rfl) (fun _ _ _ h => h) (by rfl) hS4 ?_ ?_
      rotate_left
      · intro w' hw'; go_simp; with_reducible rfl
      go_simp
      refine H_take (i := 23) (v := ?_) rfl (by as_aux_lemma => kernel_rfl) (by as_aux_lemma => kernel_rfl) (by as_aux_lemma => kernel_rfl) (fun _ _ _ h => h) (by rfl) hS4 ?_ ?_
      rotate_left
      · intro w' hw'; go_simp; with_reducible rfl
      go_simp
      refine H_take (i := 24) (v := ?_) rfl (by as_aux_lemma => kernel_rfl) (by as_aux_lemma => kernel_rfl) (by as_aux_lemma => kernel_rfl) (fun _ _ _ h => h) (by rfl) hS4 ?_ ?_
      rotate_left
      · intro w' hw'; go_simp; with_reducible rfl
      go_simp
      refine H_take (i := 25) (v := ?_) rfl (by as_aux_lemma => kernel_rfl) (by as_aux_lemma => kernel_rfl) (by as_aux_lemma => kernel_rfl) (fun _ _ _ h => h) (by rfl) hS4 ?_ ?_
      rotate_left
      · intro w' hw'; go_simp; with_reducible rfl
      go_simp
      refine H_take (i := 26) (v := ?_) rfl (by as_aux_lemma => kernel_rfl) (by as_aux_lemma => kernel_rfl) (by as_aux_lemma => kernel_rfl) (fun _ _ _ h => h) (by rfl) hS4 ?_ ?_
      rotate_left
      · intro w' hw'; go_simp; with_reducible rfl
      go_simp
      refine H_take (i := 27) (v := ?_) rfl (by as_aux_lemma => kernel_rfl) (by as_aux_lemma => kernel_rfl) (by as_aux_lemma => kernel_rfl) (fun _ _ _ h => h) (by rfl) hS4 ?_ ?_
      rotate_left
      · intro w' hw'; go_simp; with_reducible rfl
      go_simp
      refine H_take (i := 28) (v := ?_) rfl (by as_aux_lemma => kernel_rfl) (by as_aux_lemma => kernel_rfl) (by as_aux_lemma => kernel_rfl) (fun _ _ _ h => h) (by rfl) hS4 ?_ ?_
      rotate_left
      · intro w' hw'; go_simp; with_reducible rfl
      go_simp
      refine H_take (i := 29) (v := ?_) rfl (by as_aux_lemma => kernel_rfl) (by as_aux_lemma => kernel_rfl) (by as_aux_lemma => kernel_rfl) (fun _ _ _ h => h) (by rfl) hS4 ?_ ?_
      rotate_left
      · intro w' hw'; go_simp; with_reducible rfl
      go_simp
      refine H_take (i := 30) (v := ?_) rfl (by as_aux_lemma => kernel_rfl) (by as_aux_lemma => kernel_rfl) (by as_aux_lemma => kernel_rfl) (fun _ _ _ h => h) (by rfl) hS4 ?_ ?_
      rotate_left
      · intro w' hw'; go_simp; with_reducible rfl
      go_simp
      refine H_skip (i := 31) rfl (by as_aux_lemma => kernel_rfl) (by as_aux_lemma => kernel_rfl) (by as_aux_lemma => kernel_rfl) (fun _ _ _ h => h) (by rfl) hS4 ?_
      go_simp
      refine H_skip (i := 32) rfl (by as_aux_lemma => kernel_rfl) (by as_aux_lemma => kernel_rfl) (by as_aux_lemma => kernel_rfl) (fun _ _ _ h => h) (by rfl) hS4 ?_
      go_simp
      refine H_skip (i := 33) rfl (by as_aux_lemma => kernel_rfl) (by as_aux_lemma => kernel_rfl) (by as_aux_lemma => kernel_rfl) (fun _ _ _ h => h) (by rfl) hS4 ?_
      go_simp
      refine H_take (i := 34) (v := ?_) rfl (by as_aux_lemma => kernel_rfl) (by as_aux_lemma => kernel_rfl) (by as_aux_lemma => kernel_rfl) (fun _ _ _ h => h) (by rfl) hS4 ?_ ?_
      rotate_left
      · intro w' hw'; go_simp; with_reducible rfl
      go_simp
      refine H_take (i := 35) (v := ?_) rfl (by as_aux_lemma => kernel_rfl) (by as_aux_lemma => kernel_rfl) (by as_aux_lemma => kernel_rfl) (fun _ _ _ h => h) (by rfl) hS4 ?_ ?_
      rotate_left
      · intro w' hw'; go_simp; with_reducible rfl
      go_simp
      refine wpAnyH_done (by as_aux_lemma => kernel_rfl) ?_ _
      go_wp2_with fail
      go_meet
      case rel => exact ⟨rfl, hS4⟩
  case rest =>
    obtain ⟨rfl, hB5⟩ := hcut
    have HB5 := Lib.hid hB5
    clear hB5
    go_wp2_with fail
    have hx5 : RepB wc (fun b => b < w3.heap.size) X (.slice (some ⟨xb, xo, none⟩) (D.length + 1) xc) := HX9.out.same (fun _ h => h) fun b hb => HB5.out.block b hb
    have hz5 := HB5.out.size
    refine (Take_any ⟨#[110]⟩ X (fun b => b < w3.heap.size) _ _ (by decide) hx5 (fun b hb => by omega) (by have := HLA.out; omega)).mono ?_
    rintro e w6 ⟨hB6, hp⟩
    rw [show (⟨#[110]⟩ : ByteArray).data.toList = [110] from rfl, HTA.out] at hp
    obtain ⟨u6, rfl, hu6⟩ := hp
    obtain ⟨ub, ul, rfl, -, hub, hul⟩ := RepV_mk.1 hu6
    obtain ⟨ba, bc, rfl, -⟩ := hub.slice
    obtain ⟨la, lc, rfl, -⟩ := hul.slice
    have hB36 : Below w3.heap.size w3 w6 := HB5.out.trans (hB6.mono hz5)
    have hx6 : RepB w6 (fun b => b < w3.heap.size) X (.slice (some ⟨xb, xo, none⟩) (D.length + 1) xc) := HX9.out.same (fun _ h => h) fun b hb => hB36.block b hb
    have hc6 : w6.cell? ⟨xb, xo, none⟩ = some (.int .u8 (D.length : Int)) := (hB36.cell (p := ⟨xb, xo, none⟩) hxb).trans hx0
    have hz6 := hB36.size
    have HX6 := Lib.hid hx6
    have HB36 := Lib.hid hB36
    clear hu6 hub hul hB6 hx5 hx6 hB36
    go_wp2_with fail
    generalize hW : w6.alloc (.cells #[.int .u64 (a : Int), .slice ba 0 bc, .slice la 0 lc] 31) = W
    have hBW : Below w3.heap.size w3 W := by rw [← hW]; exact HB36.out.alloc hz6 _
    have hxW : RepB W (fun b => b < w3.heap.size) X (.slice (some ⟨xb, xo, none⟩) (D.length + 1) xc) := HX9.out.same (fun _ h => h) fun b hb => hBW.block b hb
    have HBW := Lib.hid hBW
    have HXW := Lib.hid hxW
    have hzW := hBW.size
    clear hc6 hBW hxW hW
    obtain ⟨ib, hib, hib0, hib1, hib2⟩ := info_parts infoByte
    go_cut [11] from 79 (fun s w' => ∃ v, s = v ∧ Below w3.heap.size w3 w' ∧ RepB w' (fun b => b < w'.heap.size) ([UInt8.ofNat (D.length + 1), 0] ++ D) v)
    case first =>
      refine wp_region_held (S := fun w' => Below W.heap.size W w') (by kernel_rfl) ?_
      have hS : Below W.heap.size W W.drew := (Below.refl _ _).drew
      have hcl : ∀ w', Below W.heap.size W w' → w'.cell? ⟨xb, xo, none⟩ = some (.int .u8 (D.length : Int)) := fun w' hw' => (hw'.cell (p := ⟨xb, xo, none⟩) (by simp; omega)).trans ((HBW.out.cell (p := ⟨xb, xo, none⟩) hxb).trans hx0)
      have hw1 : IntKind.u8.wrap ((D.length : Int) + 1) = (D.length : Int) + 1 := IntWalk.u8_in _ (by omega)
      have hlt0 : (0 : Int) < (D.length : Int) + 1 := by omega
      have hle1 : (1 : Int) ≤ (D.length : Int) + 1 := by omega
      have hown0 := World.ownsRow_lit W #[.int .u8 ((D.length : Int) + 1), .int .u8 0] 2 (base := W.heap.size) (e := 5) (size := 1) (Nat.le_refl _) (by unfold maxLen; omega) rfl
      have HO := Lib.hid hown0
      clear hown0
      have HX7 : Hid (D.length ≤ 8) := Lib.hid hdl
      by_cases hxc : xc = 1
      · subst hxc
        have hy : RepB W (fun b => b < w3.heap.size) D (.slice (some ⟨xb, xo, none⟩) 0 0) := by
          have hD0 : D.length = 0 := by omega
          have := HXW.out.drop2 (k := 1) (n' := 0) (c' := 0) (by have := HLA.out; omega) rfl (by omega)
          rw [HNN.out] at this
          exact this
        have HY := Lib.hid hy
        clear hy
        refine H_take (i := 0) (v := ?_) rfl (by as_aux_lemma => kernel_rfl) (by as_aux_lemma => kernel_rfl) (by as_aux_lemma => kernel_rfl) (fun _ _ _ h => h) (by rfl) hS ?_ ?_
        rotate_left
        · intro w' hw'; go_simp; with_reducible rfl
        go_simp
        refine H_take (i := 1) (v := ?_) rfl (by as_aux_lemma => kernel_rfl) (by as_aux_lemma => kernel_rfl) (by as_aux_lemma => kernel_rfl) (fun _ _ _ h => h) (by rfl) hS ?_ ?_
        rotate_left
        · intro w' hw'; go_simp; with_reducible rfl
        go_simp
        refine H_take (i := 2) (v := ?_) rfl (by as_aux_lemma => kernel_rfl) (by as_aux_lemma => kernel_rfl) (by as_aux_lemma => kernel_rfl) (fun _ _ _ h => h) (by rfl) hS ?_ ?_
        rotate_left
        · intro w' hw'; go_simp; with_reducible rfl
        go_simp
        refine H_take (i := 3) (v := ?_) rfl (by as_aux_lemma => kernel_rfl) (by as_aux_lemma => kernel_rfl) (by as_aux_lemma => kernel_rfl) (fun _ _ _ h => h) (by rfl) hS ?_ ?_
        rotate_left
        · intro w' hw'; go_simp; with_reducible rfl
        go_simp
        refine H_take (i := 5) (v := ?_) rfl (by as_aux_lemma => kernel_rfl) (by as_aux_lemma => kernel_rfl) (by as_aux_lemma => kernel_rfl) (fun _ _ _ h => h) (by rfl) hS ?_ ?_
        rotate_left
        · intro w' hw'; go_simp; with_reducible rfl
        go_simp
        refine H_take (i := 6) (v := ?_) rfl (by as_aux_lemma => kernel_rfl) (by as_aux_lemma => kernel_rfl) (by as_aux_lemma => kernel_rfl) (fun _ _ _ h => h) (by rfl) hS ?_ ?_
        rotate_left
        · intro w' hw'; go_simp; with_reducible rfl
        go_simp
        refine H_one (i := 4) (by as_aux_lemma => kernel_rfl) rfl (by rfl) ?_
        go_simp
        refine ⟨hS.alloc (by simp) _, ?_⟩
        go_simp
        refine H_one (i := 7) (by as_aux_lemma => kernel_rfl) rfl (by rfl) ?_
        refine wp_append_any _ _ _ 29 rfl W.heap.size 5 ib (.int .u8 0) 1 1 Try.underlying29 hib hib0 hib1 hib2 rfl (by decide) _ 2 _ rfl HO.out (.slice (some ⟨xb, xo, none⟩) 0 0) rfl 0 (D.map byteV) ?c1 ?c2 ?c3 ?c4 ?_
        case c1 =>
          have := (HY.out.same (G := fun _ => True) (fun _ _ => trivial) (w' := W.alloc (.cells #[.int .u8 ((D.length : Int) + 1), .int .u8 0] 5)) fun b hb => Below.heap_alloc _ _ _ (by omega)).yields
          have hD0 : D.length = 0 := by omega
          have gen : ∀ (X : World) (x : Value) (N : List Value), Yields X x D.length 1 N → Yields X x 0 1 N := fun X x N h => by rw [hD0] at h; exact h
          exact gen _ _ _ this.drew
        case c2 => unfold maxLen; omega
        case c3 => omega
        case c4 => simp
        intro v' w' happ
        have hfin := long_rep (hz := hzW) HX7 happ
        have hS' : Below W.heap.size W w' := hfin.1
        refine ⟨hS', ?_⟩
        go_simp
        have HFI := Lib.hid hfin.2
        clear hfin happ
        refine H_take (i := 8) (v := ?_) rfl (by as_aux_lemma => kernel_rfl) (by as_aux_lemma => kernel_rfl) (by as_aux_lemma => kernel_rfl) (fun _ _ _ h => h) (by rfl) hS' ?_ ?_
        rotate_left
        · intro w' hw'; go_simp; with_reducible rfl
        go_simp
        refine wpAnyH_done (by as_aux_lemma => kernel_rfl) ?_ _
        go_wp2_with fail
        go_meet
        case rel => exact ⟨_, rfl, HBW.out.trans (hS'.mono hzW), HFI.out⟩
      · have hxc2 : ¬ (xc : Int) = 1 := by omega
        have hy : RepB W (fun b => b < w3.heap.size) D (.slice (some ⟨xb, xo + 1, none⟩) D.length (xc - 1)) := by
          have := HXW.out.drop1 (k := 1) (o' := xo + 1) (n' := D.length) (c' := xc - 1) (by have := HLA.out; omega) rfl (by have := HLA.out; omega) rfl
          rw [HNN.out] at this
          exact this
        have HY := Lib.hid hy
        clear hy
        refine H_take (i := 0) (v := ?_) rfl (by as_aux_lemma => kernel_rfl) (by as_aux_lemma => kernel_rfl) (by as_aux_lemma => kernel_rfl) (fun _ _ _ h => h) (by rfl) hS ?_ ?_
        rotate_left
        · intro w' hw'; go_simp; with_reducible rfl
        go_simp
        refine H_take (i := 1) (v := ?_) rfl (by as_aux_lemma => kernel_rfl) (by as_aux_lemma => kernel_rfl) (by as_aux_lemma => kernel_rfl) (fun _ _ _ h => h) (by rfl) hS ?_ ?_
        rotate_left
        · intro w' hw'; go_simp; with_reducible rfl
        go_simp
        refine H_take (i := 2) (v := ?_) rfl (by as_aux_lemma => kernel_rfl) (by as_aux_lemma => kernel_rfl) (by as_aux_lemma => kernel_rfl) (fun _ _ _ h => h) (by rfl) hS ?_ ?_
        rotate_left
        · intro w' hw'; go_simp; with_reducible rfl
        go_simp
        refine H_take (i := 3) (v := ?_) rfl (by as_aux_lemma => kernel_rfl) (by as_aux_lemma => kernel_rfl) (by as_aux_lemma => kernel_rfl) (fun _ _ _ h => h) (by rfl) hS ?_ ?_
        rotate_left
        · intro w' hw'; go_simp; with_reducible rfl
        go_simp
        refine H_take (i := 5) (v := ?_) rfl (by as_aux_lemma => kernel_rfl) (by as_aux_lemma => kernel_rfl) (by as_aux_lemma => kernel_rfl) (fun _ _ _ h => h) (by rfl) hS ?_ ?_
        rotate_left
        · intro w' hw'; go_simp; with_reducible rfl
        go_simp
        refine H_take (i := 6) (v := ?_) rfl (by as_aux_lemma => kernel_rfl) (by as_aux_lemma => kernel_rfl) (by as_aux_lemma => kernel_rfl) (fun _ _ _ h => h) (by rfl) hS ?_ ?_
        rotate_left
        · intro w' hw'; go_simp; with_reducible rfl
        go_simp
        refine H_one (i := 4) (by as_aux_lemma => kernel_rfl) rfl (by rfl) ?_
        go_simp
        refine ⟨hS.alloc (by simp) _, ?_⟩
        go_simp
        refine H_one (i := 7) (by as_aux_lemma => kernel_rfl) rfl (by rfl) ?_
        refine wp_append_any _ _ _ 29 rfl W.heap.size 5 ib (.int .u8 0) 1 1 Try.underlying29 hib hib0 hib1 hib2 rfl (by decide) _ 2 _ rfl HO.out (.slice (some ⟨xb, xo + 1, none⟩) D.length (xc - 1)) rfl D.length (D.map byteV) ?d1 ?d2 ?d3 ?d4 ?_
        case d1 =>
          have := (HY.out.same (G := fun _ => True) (fun _ _ => trivial) (w' := W.alloc (.cells #[.int .u8 ((D.length : Int) + 1), .int .u8 0] 5)) fun b hb => Below.heap_alloc _ _ _ (by omega)).yields
          exact this.drew
        case d2 => unfold maxLen; omega
        case d3 => omega
        case d4 => simp
        intro v' w' happ
        have hfin := long_rep (hz := hzW) HX7 happ
        have hS' : Below W.heap.size W w' := hfin.1
        refine ⟨hS', ?_⟩
        go_simp
        have HFI := Lib.hid hfin.2
        clear hfin happ
        refine H_take (i := 8) (v := ?_) rfl (by as_aux_lemma => kernel_rfl) (by as_aux_lemma => kernel_rfl) (by as_aux_lemma => kernel_rfl) (fun _ _ _ h => h) (by rfl) hS' ?_ ?_
        rotate_left
        · intro w' hw'; go_simp; with_reducible rfl
        go_simp
        refine wpAnyH_done (by as_aux_lemma => kernel_rfl) ?_ _
        go_wp2_with fail
        go_meet
        case rel => exact ⟨_, rfl, HBW.out.trans (hS'.mono hzW), HFI.out⟩
    case rest =>
      obtain ⟨v, rfl, hB7, hv⟩ := hcut
      have hz7 := hB7.size
      go_wp2_with fail
      refine (Take_any ⟨#[110]⟩ ([UInt8.ofNat (D.length + 1), 0] ++ D) (fun b => b < wc.heap.size) _ _ (by decide) hv (fun b hb => hb) (by simp; omega)).mono ?_
      rintro e w8 ⟨hB8, hp⟩
      rw [show (⟨#[110]⟩ : ByteArray).data.toList = [110] from rfl, HTL.out] at hp
      subst hp
      have HB8 : Hid (Below w.heap.size w w8) := Lib.hid (by
        have h3 := HB3.out.size
        exact HB3.out.trans ((hB7.trans (hB8.mono hz7)).mono h3))
      clear hB8 hB7 hv
      go_wp2_with fail
      refine bodyPost_ret (v := .bool true) (by simp [results, Try.results6, go_sem]) rfl ?_
      exact ⟨rfl, HB8.out.alloc HB8.out.size _⟩
end Go.Proofs.Ytafodaoehnggfaa.M
