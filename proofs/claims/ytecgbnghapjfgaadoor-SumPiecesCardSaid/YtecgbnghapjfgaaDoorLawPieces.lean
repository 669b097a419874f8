/- The law SumPieces: sums piece by piece. -/
import Derived.Test.YtecgbnghapjfgaaDoorSumJoin2
import Derived.Test.YtecgbnghapjfgaaDoorOwn
import Derived.Test.YtecgbnghapjfgaaDoorOpenBlist
import Derived.OrdersHeld
import Derived.Deep.RegionHeld
import Derived.Deep.LoopGhost
namespace Go.Proofs.YtecgbnghapjfgaaDoor.M
open Go.RowKit

def PieAt (w : World) (ls : List (List UInt8)) (k : Nat) (v : Value) (s : Nat) (wr : World) : Prop :=
  (ls.take k).flatten.length ≤ 500 * k ∧ s = C.sumOf (ls.take k).flatten ∧ Own w (ls.take k).flatten v wr

set_option maxRecDepth 20000 in
set_option maxHeartbeats 3200000 in
theorem SumPieces_any (ls : List (List UInt8)) (F : Nat → Prop) (va : Value) (w : World) (ha : RepBl w F ls va) (hF : ∀ b, F b → b < w.heap.size) (ht : Hid (Tab w)) :
    Calls Tryd.prog 6 #[va] w fun e w' => e = .returned (.bool true) ∧ Below w.heap.size w w' := by
  obtain ⟨aa, ac, rfl, hla⟩ := ha.slice
  have HA := Lib.hid ha
  have HF := Lib.hid hF
  clear ha hF
  by_cases h1 : ls.length ≤ 50
  · have t1 : decide ((50 : Int) < (ls.length : Int)) = false := by simp; omega
    go_enter Tryd.func6, Tryd.ntmps6
    go_wp2_with fail
    refine (awake_any _ ht).mono ?_
    rintro e w1 ⟨rfl, hB1⟩
    have HB1 := Lib.hid hB1
    clear hB1
    go_wp2_with fail
    clear t1
    go_loopg [3, 4, 5, 6] ls.length (fun g v x y i wr => ∃ (k s : Nat), i = .int .i64 (k : Int) ∧ k + g = ls.length ∧ x = .int .u32 (s : Int) ∧ y = .int .u32 (s : Int) ∧ PieAt w ls k v s wr)
    case atStart => exact ⟨0, 0, rfl, by omega, rfl, rfl, by simp, by simp; decide, Own.bare HB1.out⟩
    case round =>
      obtain ⟨k, s, rfl, hkg, rfl, rfl, hat⟩ := hrel
      obtain ⟨hl, hs, hO⟩ := hat
      have hsl : s < 4294967296 := by rw [hs]; exact sum_lt _
      have hs32 : (s : Int) < 4294967296 := by omega
      have HS := Lib.hid hs
      have HL := Lib.hid hl
      clear hs hl
      by_cases hlt : k < ls.length
      · have hkk : (k : Int) < (ls.length : Int) := by omega
        obtain ⟨b, off, u, rfl, hb, hc, hu⟩ := HA.out.elem k hlt
        obtain ⟨ua, uc, rfl, hul⟩ := hu.slice
        have hk50 : k < 50 := by omega
        have HS2 : Hid ((ls.take (k + 1)).flatten = (ls.take k).flatten ++ ls[k]) := Lib.hid (flat_snoc ls k hlt)
        obtain ⟨P, hP⟩ : ∃ P, P = (ls.take k).flatten := ⟨_, rfl⟩
        rw [← hP] at hO HS HL HS2
        obtain ⟨x, hx⟩ : ∃ x, x = ls[k] := ⟨_, rfl⟩
        rw [← hx] at hu HS2 hul hc
        obtain ⟨pa, pc, rfl⟩ := hO.slice
        have HU := Lib.hid hu
        have HP := Lib.hid hP
        have HX := Lib.hid hx
        have HO := Lib.hid hO
        have hbw : b < w.heap.size := HF.out b hb
        have hbz : b < wr.heap.size := Nat.lt_of_lt_of_le hbw hO.1.size
        have HC : ∀ W, Below w.heap.size w W → Hid (W.cell? ⟨b, off + k, none⟩ = some (.slice ua x.length uc)) := fun W hW => Lib.hid ((hW.cell (p := ⟨b, off + k, none⟩) hbw).trans hc)
        have hcr := (HC wr hO.1).out
        clear hu hP hx hO hc
        by_cases h500 : x.length ≤ 500
        · have t2 : decide ((500 : Int) < (x.length : Int)) = false := by simp; omega
          go_wp2_with (at_builtin; refine wpList_own_append (w := w) (L2 := x) rfl (.tmp 30) (.tmp 34) rfl rfl rfl HO.out rfl (HU.out.later HF.out HO.out.1) (by have := HL.out; omega) ?_)
          intro v3 w3 hO3
          rw [← HS2.out] at hO3
          have HL3 : Hid ((ls.take (k + 1)).flatten.length ≤ 500 * (k + 1)) := Lib.hid (by rw [HS2.out]; have := HL.out; simp; omega)
          obtain ⟨R, hR⟩ : ∃ R, R = (ls.take (k + 1)).flatten := ⟨_, rfl⟩
          rw [← hR] at hO3 HS2 HL3
          have HR := Lib.hid hR
          obtain ⟨ra, rc, rfl⟩ := hO3.slice
          have hc3 := (HC w3 hO3.1).out
          have hbz3 : b < w3.heap.size := Nat.lt_of_lt_of_le hbw hO3.1.size
          have HO3 := Lib.hid hO3
          have T3 : Hid (Tab w3) := Lib.hid (ht.out.next hO3.1)
          clear hR hO3 hcr
          go_wp2_with fail
          refine wp_region_held (S := fun w' => Below w3.heap.size w3 w') (by kernel_rfl) ?_
          have hS : Below w3.heap.size w3 w3.drew := (Below.refl _ _).drew
          have q1 : ∀ w', Below w3.heap.size w3 w' → w'.cell? ⟨b, off + k, none⟩ = some (.slice ua x.length uc) := fun w' hw' => (hw'.cell (p := ⟨b, off + k, none⟩) hbz3).trans hc3
          refine H_take (i := 0) (v := ?_) rfl (by as_aux_lemma => kernel_rfl) (by as_aux_lemma => kernel_rfl) (by as_aux_lemma => kernel_rfl) (fun _ _ _ h => h) (by rfl) hS ?_ ?_
          rotate_left
          · intro w' hw'; go_simp; with_reducible rfl
          go_simp
          refine H_take (i := 1) (v := ?_) rfl (by as_aux_lemma => kernel_rfl) (by as_aux_lemma => kernel_rfl) (by as_aux_lemma => kernel_rfl) (fun _ _ _ h => h) (by rfl) hS ?_ ?_
          rotate_left
          · intro w' hw'; go_simp; with_reducible rfl
          go_simp
          refine H_take (i := 2) (v := ?_) rfl (by as_aux_lemma => kernel_rfl) (by as_aux_lemma => kernel_rfl) (by as_aux_lemma => kernel_rfl) (fun _ _ _ h => h) (by rfl) hS ?_ ?_
          rotate_left
          · intro w' hw'; go_simp; with_reducible rfl
          go_simp
          refine H_take (i := 3) (v := ?_) rfl (by as_aux_lemma => kernel_rfl) (by as_aux_lemma => kernel_rfl) (by as_aux_lemma => kernel_rfl) (fun _ _ _ h => h) (by rfl) hS ?_ ?_
          rotate_left
          · intro w' hw'; go_simp; with_reducible rfl
          go_simp
          refine H_take (i := 4) (v := ?_) rfl (by as_aux_lemma => kernel_rfl) (by as_aux_lemma => kernel_rfl) (by as_aux_lemma => kernel_rfl) (fun _ _ _ h => h) (by rfl) hS ?_ ?_
          rotate_left
          · intro w' hw'; go_simp; with_reducible rfl
          go_simp
          refine H_take (i := 7) (v := ?_) rfl (by as_aux_lemma => kernel_rfl) (by as_aux_lemma => kernel_rfl) (by as_aux_lemma => kernel_rfl) (fun _ _ _ h => h) (by rfl) hS ?_ ?_
          rotate_left
          · intro w' hw'; go_simp; with_reducible rfl
          go_simp
          refine H_take (i := 8) (v := ?_) rfl (by as_aux_lemma => kernel_rfl) (by as_aux_lemma => kernel_rfl) (by as_aux_lemma => kernel_rfl) (fun _ _ _ h => h) (by rfl) hS ?_ ?_
          rotate_left
          · intro w' hw'; go_simp; with_reducible rfl
          go_simp
          refine H_take (i := 9) (v := ?_) rfl (by as_aux_lemma => kernel_rfl) (by as_aux_lemma => kernel_rfl) (by as_aux_lemma => kernel_rfl) (fun _ _ _ h => h) (by rfl) hS ?_ ?_
          rotate_left
          · intro w' hw'; go_simp; with_reducible rfl
          go_simp
          refine H_take (i := 10) (v := ?_) rfl (by as_aux_lemma => kernel_rfl) (by as_aux_lemma => kernel_rfl) (by as_aux_lemma => kernel_rfl) (fun _ _ _ h => h) (by rfl) hS ?_ ?_
          rotate_left
          · intro w' hw'; go_simp; with_reducible rfl
          go_simp
          refine H_take (i := 11) (v := ?_) rfl (by as_aux_lemma => kernel_rfl) (by as_aux_lemma => kernel_rfl) (by as_aux_lemma => kernel_rfl) (fun _ _ _ h => h) (by rfl) hS ?_ ?_
          rotate_left
          · intro w' hw'; go_simp; with_reducible rfl
          go_simp
          refine H_one (i := 5) (by as_aux_lemma => kernel_rfl) rfl (by rfl) ?_
          go_simp
          refine ⟨hS.alloc (by simp) _, ?_⟩
          go_simp
          refine H_one (i := 6) (by as_aux_lemma => kernel_rfl) rfl (by rfl) ?_
          go_simp
          have b4 : Below w3.heap.size w3 (w3.drew.alloc (.cells #[.slice ua x.length uc] 22)) := hS.alloc (by simp) _
          refine (Of_any [x] _ _ _ (lay1 (w := w3.drew) (HU.out.later HF.out HO3.out.1.drew) rfl) (Lib.hid (T3.out.next b4))).mono ?_
          rintro e w4 ⟨rfl, hw4⟩
          rw [hw4] at b4
          rw [show C.sumOf [x].flatten = C.sumOf x from by simp]
          refine ⟨b4, ?_⟩
          go_simp
          have HB4 := Lib.hid b4
          clear hw4 b4
          refine H_one (i := 12) (by as_aux_lemma => kernel_rfl) rfl (by rfl) ?_
          go_simp
          refine (Join_any s (C.sumOf x) x.length _ (Lib.hid hsl) (Lib.hid (sum_lt x)) (Lib.hid (by omega))).mono ?_
          rintro e w5 ⟨rfl, hB5⟩
          have hJ : joinOf s (C.sumOf x) x.length = C.sumOf R := by rw [HS.out, join_sum, HS2.out, HP.out]
          rw [hJ]
          obtain ⟨s', hs'⟩ : ∃ s', s' = C.sumOf R := ⟨_, rfl⟩
          rw [← hs']
          have HS' := Lib.hid hs'
          clear hs' hJ
          have hS5 : Below w3.heap.size w3 w5 := HB4.out.trans (hB5.mono HB4.out.size)
          refine ⟨hS5, ?_⟩
          go_simp
          clear hB5 hS
          refine H_take (i := 13) (v := ?_) rfl (by as_aux_lemma => kernel_rfl) (by as_aux_lemma => kernel_rfl) (by as_aux_lemma => kernel_rfl) (fun _ _ _ h => h) (by rfl) hS5 ?_ ?_
          rotate_left
          · intro w' hw'; go_simp; with_reducible rfl
          go_simp
          refine H_take (i := 14) (v := ?_) rfl (by as_aux_lemma => kernel_rfl) (by as_aux_lemma => kernel_rfl) (by as_aux_lemma => kernel_rfl) (fun _ _ _ h => h) (by rfl) hS5 ?_ ?_
          rotate_left
          · intro w' hw'; go_simp; with_reducible rfl
          go_simp
          refine H_take (i := 15) (v := ?_) rfl (by as_aux_lemma => kernel_rfl) (by as_aux_lemma => kernel_rfl) (by as_aux_lemma => kernel_rfl) (fun _ _ _ h => h) (by rfl) hS5 ?_ ?_
          rotate_left
          · intro w' hw'; go_simp; with_reducible rfl
          go_simp
          refine H_take (i := 16) (v := ?_) rfl (by as_aux_lemma => kernel_rfl) (by as_aux_lemma => kernel_rfl) (by as_aux_lemma => kernel_rfl) (fun _ _ _ h => h) (by rfl) hS5 ?_ ?_
          rotate_left
          · intro w' hw'; go_simp; with_reducible rfl
          go_simp
          refine H_take (i := 17) (v := ?_) rfl (by as_aux_lemma => kernel_rfl) (by as_aux_lemma => kernel_rfl) (by as_aux_lemma => kernel_rfl) (fun _ _ _ h => h) (by rfl) hS5 ?_ ?_
          rotate_left
          · intro w' hw'; go_simp; with_reducible rfl
          go_simp
          refine wpAnyH_done (by as_aux_lemma => kernel_rfl) ?_ _
          have O5 : Hid (Own w R (.slice ra R.length rc) w5) := Lib.hid (HO3.out.next hS5)
          have hc5 := (HC w5 O5.out.1).out
          have hbz5 : b < w5.heap.size := Nat.lt_of_lt_of_le hbw O5.out.1.size
          have T5 : Hid (Tab w5) := Lib.hid (ht.out.next O5.out.1)
          clear q1 hS5 hc3
          go_wp2_with fail
          refine (More_any s [x] _ _ _ (Lib.hid hsl) (lay1 (HU.out.later HF.out O5.out.1) rfl) (Lib.hid (T5.out.next (below_alloc _ _)))).mono ?_
          rintro e w6 ⟨rfl, hw6⟩
          have O6 : Hid (Own w R (.slice ra R.length rc) w6) := Lib.hid (hw6 ▸ O5.out.next (below_alloc _ _))
          clear hw6 hc5
          rw [show moreOf s [x].flatten = s' from by rw [HS.out, more_sum, HS'.out, HS2.out, HP.out]; simp]
          go_wp2_with fail
          go_roundg (gk - 1)
          case measure => omega
          case rel => exact ⟨k + 1, s', by go_num, by omega, rfl, rfl, by rw [← HR.out]; exact HL3.out, by rw [← HR.out]; exact HS'.out, by rw [← HR.out]; exact O6.out⟩
        · have t2 : (500 : Int) < (x.length : Int) := by omega
          go_wp2_with fail
          go_ret
          exact ⟨rfl, HO.out.1⟩
      · have hkk : ¬ (k : Int) < (ls.length : Int) := by omega
        obtain rfl : k = ls.length := by omega
        have hT : ls.take ls.length = ls := List.take_of_length_le (Nat.le_refl _)
        rw [hT] at hO HS HL
        obtain ⟨P, hP⟩ : ∃ P, P = ls.flatten := ⟨_, rfl⟩
        rw [← hP] at hO HS HL
        obtain ⟨pa, pc, rfl⟩ := hO.slice
        have HP := Lib.hid hP
        have HO := Lib.hid hO
        have T3 : Hid (Tab wr) := Lib.hid (ht.out.next hO.1)
        clear hP hO hT
        go_wp2_with fail
        refine (RefOf_any P _ _ _ HO.out.now).mono ?_
        rintro e w' ⟨rfl, rfl⟩
        rw [show C.sumOf P = s from HS.out.symm]
        go_wp2_with fail
        refine (Of_any ls _ _ _ (HA.out.later HF.out HO.out.1) T3).mono ?_
        rintro e w' ⟨rfl, rfl⟩
        rw [show C.sumOf ls.flatten = s from by rw [HS.out, HP.out]]
        go_wp2_with fail
        refine (Fits_any s ls _ _ _ (HA.out.later HF.out HO.out.1) T3).mono ?_
        rintro e w' ⟨rfl, rfl⟩
        rw [show decide (C.sumOf ls.flatten = s) = true from by rw [HS.out, HP.out]; simp]
        go_wp2_with fail
        go_ret
        exact ⟨rfl, HO.out.1⟩
  · have t1 : (50 : Int) < (ls.length : Int) := by omega
    go_enter Tryd.func6, Tryd.ntmps6
    go_wp2_with fail
    refine (awake_any _ ht).mono ?_
    rintro e w1 ⟨rfl, hB1⟩
    have HB1 := Lib.hid hB1
    have T1 : Hid (Tab w1) := Lib.hid (ht.out.next HB1.out)
    clear hB1
    go_wp2_with fail
    refine (awake_any _ T1).mono ?_
    rintro e w2 ⟨rfl, hB2⟩
    have HB2 := Lib.hid hB2
    clear hB2
    go_wp2_with fail
    go_ret
    exact ⟨rfl, HB1.out.trans (HB2.out.mono HB1.out.size)⟩
end Go.Proofs.YtecgbnghapjfgaaDoor.M
