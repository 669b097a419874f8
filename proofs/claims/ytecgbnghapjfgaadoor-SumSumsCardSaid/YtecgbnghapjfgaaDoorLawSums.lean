/- The law SumSums: sums of bytes, however cut. -/
import Derived.Test.YtecgbnghapjfgaaDoorSumJoin2
import Derived.Test.YtecgbnghapjfgaaDoorOwn
import Derived.Test.YtecgbnghapjfgaaDoorOpenBytes
namespace Go.Proofs.YtecgbnghapjfgaaDoor.M
open Go.RowKit

set_option maxRecDepth 20000 in
set_option maxHeartbeats 3200000 in
theorem SumSums_any (A B : List UInt8) (c : UInt8) (F : Nat → Prop) (va vb : Value) (w : World) (ha : RepB w F A va) (hb : RepB w F B vb) (hF : ∀ b, F b → b < w.heap.size) (ht : Hid (Tab w)) :
    Calls Tryd.prog 3 #[va, vb, .int .u8 (c.toNat : Int)] w fun e w' => e = .returned (.bool true) ∧ Below w.heap.size w w' := by
  obtain ⟨aa, ac, rfl, hla⟩ := ha.slice
  obtain ⟨ba, bc, rfl, hlb⟩ := hb.slice
  have HA := Lib.hid ha
  have HB := Lib.hid hb
  have HF := Lib.hid hF
  clear ha hb hF
  by_cases h1 : A.length ≤ 5000
  · by_cases h2 : B.length ≤ 5000
    · have t1 : decide ((5000 : Int) < (A.length : Int)) = false := by simp; omega
      have t2 : decide ((5000 : Int) < (B.length : Int)) = false := by simp; omega
      go_enter Tryd.func3, Tryd.ntmps3
      go_wp2_with fail
      refine (awake_any _ ht).mono ?_
      rintro e w1 ⟨rfl, hB1⟩
      have T1 : Hid (Tab w1) := Lib.hid (ht.out.next hB1)
      have HB1 := Lib.hid hB1
      clear hB1
      go_wp2_with (at_builtin; refine wpList_own_append (w := w) rfl (.tmp 23) (.tmp 24) rfl rfl rfl (Own.lit HB1.out rfl) rfl (HA.out.later HF.out (HB1.out.alloc HB1.out.size _)) (by simp; omega) ?_)
      intro v2 w2 hO2
      obtain ⟨a2, c2, rfl⟩ := hO2.slice
      have HO2 := Lib.hid hO2
      clear hO2
      go_wp2_with (at_builtin; go_loud (refine wpList_own_append (w := w) rfl (.tmp 25) (.tmp 26) rfl rfl rfl HO2.out rfl (HB.out.later HF.out HO2.out.1) (by omega) ?_))
      intro v3 w3 hO3
      obtain ⟨AB, hAB⟩ : ∃ AB, AB = A ++ B := ⟨_, rfl⟩
      rw [← hAB] at hO3
      have hABl : AB.length = A.length + B.length := by rw [hAB]; simp
      have HABL := Lib.hid hABl
      have HAB := Lib.hid hAB
      clear hAB hABl
      obtain ⟨a3, c3, rfl⟩ := hO3.slice
      have HO3 := Lib.hid hO3
      clear hO3
      go_wp2_with (at_builtin; refine wpList_own_append (w := w) rfl (.tmp 27) (.tmp 29) rfl rfl rfl (HO3.out.next (below_alloc _ _)) rfl (one_rep rfl) (by have := HABL.out; simp; omega) ?_)
      intro v4 w4 hO4
      obtain ⟨X, hX⟩ : ∃ X, X = AB ++ [c] := ⟨_, rfl⟩
      rw [← hX] at hO4
      have HX : Hid (X = A ++ B ++ [c]) := Lib.hid (by rw [hX, HAB.out])
      have HXL : Hid (X.length ≤ 10001) := Lib.hid (by have := HABL.out; rw [hX]; simp; omega)
      clear hX
      obtain ⟨a4, c4, rfl⟩ := hO4.slice
      have T4 : Hid (Tab w4) := Lib.hid (ht.out.next hO4.1)
      have O4 := Lib.hid hO4
      clear hO4
      go_wp2_with fail
      refine (RefOf_any X _ _ _ O4.out.now).mono ?_
      rintro e w' ⟨rfl, rfl⟩
      obtain ⟨S, hS⟩ : ∃ S, S = C.sumOf X := ⟨_, rfl⟩
      rw [← hS]
      have hSl : S < 4294967296 := by rw [hS]; exact sum_lt X
      have HS := Lib.hid hS
      clear hS
      go_wp2_with fail
      refine (Of_any [A, B, [c]] _ _ _ (lay3 (HA.out.later HF.out (O4.out.1.alloc O4.out.1.size _)) (HB.out.later HF.out (O4.out.1.alloc O4.out.1.size _)) (one_now rfl) (by simp)) (Lib.hid (T4.out.next ((below_alloc _ _).alloc (by simp) _)))).mono ?_
      rintro e w5 ⟨rfl, hw5⟩
      have O5 : Hid (Own w X (.slice a4 X.length c4) w5) := Lib.hid (hw5 ▸ O4.out.next ((below_alloc _ _).alloc (by simp) _))
      have T5 : Hid (Tab w5) := Lib.hid (ht.out.next O5.out.1)
      clear hw5
      rw [show C.sumOf [A, B, [c]].flatten = S from by rw [HS.out, HX.out]; simp]
      go_wp2_with fail
      refine (Of_any [A] _ _ _ (lay1 (HA.out.later HF.out O5.out.1) rfl) (Lib.hid (T5.out.next (below_alloc _ _)))).mono ?_
      rintro e w6 ⟨rfl, hw6⟩
      have O6 : Hid (Own w X (.slice a4 X.length c4) w6) := Lib.hid (hw6 ▸ O5.out.next (below_alloc _ _))
      have T6 : Hid (Tab w6) := Lib.hid (ht.out.next O6.out.1)
      clear hw6
      rw [show C.sumOf [A].flatten = C.sumOf A from by simp]
      go_wp2_with fail
      refine (More_any (C.sumOf A) [B, [c]] _ _ _ (Lib.hid (sum_lt A)) (lay2 (HB.out.later HF.out (O6.out.1.alloc O6.out.1.size _)) (one_now rfl) (by simp)) (Lib.hid (T6.out.next ((below_alloc _ _).alloc (by simp) _)))).mono ?_
      rintro e w7 ⟨rfl, hw7⟩
      have O7 : Hid (Own w X (.slice a4 X.length c4) w7) := Lib.hid (hw7 ▸ O6.out.next ((below_alloc _ _).alloc (by simp) _))
      have T7 : Hid (Tab w7) := Lib.hid (ht.out.next O7.out.1)
      clear hw7
      rw [show moreOf (C.sumOf A) [B, [c]].flatten = S from by rw [more_sum, HS.out, HX.out]; simp]
      go_wp2_with fail
      refine (Of_any [X] _ _ _ (lay1 O7.out.now rfl) (Lib.hid (T7.out.next (below_alloc _ _)))).mono ?_
      rintro e w8 ⟨rfl, hw8⟩
      have O8 : Hid (Own w X (.slice a4 X.length c4) w8) := Lib.hid (hw8 ▸ O7.out.next (below_alloc _ _))
      have T8 : Hid (Tab w8) := Lib.hid (ht.out.next O8.out.1)
      clear hw8
      rw [show C.sumOf [X].flatten = S from by rw [HS.out]; simp]
      go_wp2_with fail
      refine (Fits_any S [A, B, [c]] _ _ _ (lay3 (HA.out.later HF.out (O8.out.1.alloc O8.out.1.size _)) (HB.out.later HF.out (O8.out.1.alloc O8.out.1.size _)) (one_now rfl) (by simp)) (Lib.hid (T8.out.next ((below_alloc _ _).alloc (by simp) _)))).mono ?_
      rintro e w9 ⟨rfl, hw9⟩
      have O9 : Hid (Own w X (.slice a4 X.length c4) w9) := Lib.hid (hw9 ▸ O8.out.next ((below_alloc _ _).alloc (by simp) _))
      have T9 : Hid (Tab w9) := Lib.hid (ht.out.next O9.out.1)
      clear hw9
      rw [show decide (C.sumOf [A, B, [c]].flatten = S) = true from by rw [HS.out, HX.out]; simp]
      have e1 : bits .xor .u32 (S : Int) 1 = ((S ^^^ 1 : Nat) : Int) := u32_x S 1 hSl (by decide)
      go_wp2_with fail
      clear e1
      refine (Fits_any (S ^^^ 1) [X] _ _ _ (lay1 O9.out.now rfl) (Lib.hid (T9.out.next (below_alloc _ _)))).mono ?_
      rintro e w10 ⟨rfl, hw10⟩
      have O10 : Hid (Own w X (.slice a4 X.length c4) w10) := Lib.hid (hw10 ▸ O9.out.next (below_alloc _ _))
      have T10 : Hid (Tab w10) := Lib.hid (ht.out.next O10.out.1)
      clear hw10
      rw [show decide (C.sumOf [X].flatten = S ^^^ 1) = false from by
        rw [show C.sumOf [X].flatten = S from by rw [HS.out]; simp]
        exact decide_eq_false fun h => by
          have h2 := congrArg (S ^^^ ·) h
          simp only [Nat.xor_self, ← Nat.xor_assoc, Nat.zero_xor] at h2
          cases h2]
      go_wp2_with fail
      go_ret
      exact ⟨rfl, O10.out.1⟩
    · have t1 : decide ((5000 : Int) < (A.length : Int)) = false := by simp; omega
      have t2 : (5000 : Int) < (B.length : Int) := by omega
      go_enter Tryd.func3, Tryd.ntmps3
      go_wp2_with fail
      refine (awake_any _ ht).mono ?_
      rintro e w1 ⟨rfl, hB1⟩
      have T1 : Hid (Tab w1) := Lib.hid (ht.out.next hB1)
      have HB1 := Lib.hid hB1
      clear hB1
      go_wp2_with fail
      refine (awake_any _ T1).mono ?_
      rintro e w2 ⟨rfl, hB2⟩
      have HB2 := Lib.hid hB2
      clear hB2
      go_wp2_with fail
      go_ret
      exact ⟨rfl, HB1.out.trans (HB2.out.mono HB1.out.size)⟩
  · have t1 : (5000 : Int) < (A.length : Int) := by omega
    go_enter Tryd.func3, Tryd.ntmps3
    go_wp2_with fail
    refine (awake_any _ ht).mono ?_
    rintro e w1 ⟨rfl, hB1⟩
    have T1 : Hid (Tab w1) := Lib.hid (ht.out.next hB1)
    have HB1 := Lib.hid hB1
    clear hB1
    go_wp2_with fail
    refine (awake_any _ T1).mono ?_
    rintro e w2 ⟨rfl, hB2⟩
    have HB2 := Lib.hid hB2
    clear hB2
    go_wp2_with fail
    go_ret
    exact ⟨rfl, HB1.out.trans (HB2.out.mono HB1.out.size)⟩
end Go.Proofs.YtecgbnghapjfgaaDoor.M
