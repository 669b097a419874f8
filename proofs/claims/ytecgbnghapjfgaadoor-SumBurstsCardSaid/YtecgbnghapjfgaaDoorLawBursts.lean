/- The law SumBursts: bits side by side are seen. -/
import Derived.Test.YtecgbnghapjfgaaDoorSumJoin2
import Derived.Test.YtecgbnghapjfgaaDoorOwn
import Derived.Test.YtecgbnghapjfgaaDoorOpenBytes
import Derived.IntWalk
namespace Go.Proofs.YtecgbnghapjfgaaDoor.M
open Go.RowKit

/-- Where the burst begins. -/
theorem burst_at (fr : Int) (n : Nat) (h1 : 5 ≤ n) (h2 : n ≤ 3000) (hf1 : -9223372036854775808 ≤ fr) (hf2 : fr ≤ 9223372036854775807) :
    ∃ q : Nat, (wrap64 (fr.tmod (8 * (n : Int) - 32) + (8 * (n : Int) - 32))).tmod (8 * (n : Int) - 32) = (q : Int) ∧ q + 32 < 8 * n := by
  have hp : (0 : Int) < 8 * (n : Int) - 32 := by omega
  have a1 := Int.tmod_lt_of_pos fr hp
  have a2 : -(8 * (n : Int) - 32) < fr.tmod (8 * (n : Int) - 32) := Int.lt_tmod_of_pos fr hp
  generalize fr.tmod (8 * (n : Int) - 32) = r at *
  rw [IntWalk.wrap64_in _ (by omega)]
  have b1 := Int.tmod_lt_of_pos (r + (8 * (n : Int) - 32)) hp
  have b2 := Int.tmod_nonneg (8 * (n : Int) - 32) (show 0 ≤ r + (8 * (n : Int) - 32) by omega)
  exact ⟨((r + (8 * (n : Int) - 32)).tmod (8 * (n : Int) - 32)).toNat, (Int.toNat_of_nonneg b2).symm, by omega⟩

/-- The state at the head of the loop that turns bits. -/
def BurAt (w : World) (A : List UInt8) (g c q t k : Nat) (wr : World) : Prop :=
  k ≤ 32 ∧ ∃ L : List UInt8, L.length = A.length ∧ C.num L = C.num A ^^^ (2 ^ q * (t % 2 ^ k)) ∧ Own w L (.slice (some ⟨g, 0, none⟩) A.length c) wr

theorem BurAt.skip {w wr : World} {A : List UInt8} {g c q t k : Nat} (h : BurAt w A g c q t k wr) (hk : k < 32) (hb : ¬ t / 2 ^ k % 2 = 1) : BurAt w A g c q t (k + 1) wr := by
  obtain ⟨_, L, h1, h2, h3⟩ := h
  refine ⟨by omega, L, h1, ?_, h3⟩
  rw [C.low_bits, if_neg (by rw [Nat.testBit_eq_decide_div_mod_eq]; simpa using hb), Nat.xor_zero]
  exact h2

theorem BurAt.flip {w wr : World} {A : List UInt8} {g c q t k j m : Nat} {x : Int} (h : BurAt w A g c q t k wr) (hk : k < 32) (hb : t / 2 ^ k % 2 = 1) (hj : j = (q + k) / 8) (hm : m = (q + k) % 8) (hl : j < A.length)
    (hx : ∀ v : Nat, wr.cell? ⟨g, j, none⟩ = some (.int .u8 (v : Int)) → x = ((v ^^^ 2 ^ m : Nat) : Int)) : BurAt w A g c q t (k + 1) (wr.setCell ⟨g, j, none⟩ (.int .u8 x)) := by
  obtain ⟨_, L, h1, h2, h3⟩ := h
  have hjl : j < L.length := by omega
  have hxv := hx L[j].toNat (h3.at h1.symm j hjl).1
  have hm8 : m < 8 := by omega
  have hlt : L[j].toNat ^^^ 2 ^ m < 256 := Nat.xor_lt_two_pow (n := 8) L[j].toNat_lt (Nat.pow_lt_pow_right (by omega) hm8)
  have hd : (UInt8.ofNat (L[j].toNat ^^^ 2 ^ m)).toNat = L[j].toNat ^^^ 2 ^ m := UInt8.toNat_ofNat_of_lt' (by show _ < 256; omega)
  refine ⟨by omega, L.set j (UInt8.ofNat (L[j].toNat ^^^ 2 ^ m)), by simpa using h1, ?_, h3.put h1.symm j _ (by rw [hxv, hd])⟩
  rw [C.num_flip L j m hjl _ hm8 hd, h2, C.low_bits, if_pos (by rw [Nat.testBit_eq_decide_div_mod_eq]; simpa using hb), C.xor_two_mul, Nat.xor_assoc, ← Nat.pow_add]
  congr 3
  omega

theorem BurAt.cell {w wr : World} {A : List UInt8} {g c q t k j : Nat} (h : BurAt w A g c q t k wr) (hl : j < A.length) : ∃ v : Nat, True ∧ v < 256 ∧ wr.cell? ⟨g, j, none⟩ = some (.int .u8 (v : Int)) ∧ wr.frozen? ⟨g, j, none⟩ = false := by
  obtain ⟨_, L, h1, h2, h3⟩ := h
  have hjl : j < L.length := by omega
  exact ⟨L[j].toNat, trivial, L[j].toNat_lt, h3.at h1.symm j hjl⟩

set_option maxRecDepth 20000 in
set_option maxHeartbeats 3200000 in
theorem SumBursts_any (A : List UInt8) (fr : Int) (t : Nat) (F : Nat → Prop) (va : Value) (w : World) (ha : RepB w F A va) (hF : ∀ b, F b → b < w.heap.size) (htl : Hid (t < 4294967296)) (hfr : -9223372036854775808 ≤ fr ∧ fr ≤ 9223372036854775807) (ht : Hid (Tab w)) :
    Calls Tryd.prog 5 #[va, .int .i64 fr, .int .u32 (t : Int)] w fun e w' => e = .returned (.bool true) ∧ Below w.heap.size w w' := by
  obtain ⟨aa, ac, rfl, hla⟩ := ha.slice
  have HA := Lib.hid ha
  have HF := Lib.hid hF
  clear ha hF
  obtain ⟨hf1, hf2⟩ := hfr
  by_cases h1 : A.length ≤ 3000 ∧ 5 ≤ A.length ∧ t ≠ 0
  · obtain ⟨h1, h2, h3⟩ := h1
    have t1 : decide ((3000 : Int) < (A.length : Int)) = false := by simp; omega
    have t2 : decide ((A.length : Int) < 5) = false := by simp; omega
    have t3 : ((t : Int) == 0) = false := by simp; omega
    have HT0 := Lib.hid h3
    clear h3
    go_enter Tryd.func5, Tryd.ntmps5
    go_wp2_with fail
    refine (awake_any _ ht).mono ?_
    rintro e w1 ⟨rfl, hB1⟩
    have HB1 := Lib.hid hB1
    clear hB1
    go_wp2_with (at_builtin; refine wpList_own_append (w := w) (L2 := A) rfl (.tmp 29) (.tmp 30) rfl rfl rfl (Own.lit HB1.out rfl) rfl (HA.out.later HF.out (HB1.out.alloc HB1.out.size _)) (by simp; omega) ?_)
    intro v2 w2 hO2
    obtain ⟨a2, c2, rfl⟩ := hO2.slice
    have HO2 := Lib.hid hO2
    clear hO2
    go_wp2_with fail
    obtain ⟨q, hq, hqn⟩ := burst_at fr A.length h2 h1 hf1 hf2
    rw [hq]
    have hql : (q : Int) < 24000 := by omega
    have HQ := Lib.hid hqn
    clear hq hqn
    obtain ⟨g, rfl, hg1, hg2⟩ := HO2.out.head (by omega)
    go_loopw [10, 11] (fun i _ wr => ∃ k : Nat, i = .int .i64 (k : Int) ∧ BurAt w A g c2 q t k wr) (fun i _ _ => 32 - (intOf i).toNat)
    case atStart => exact ⟨0, rfl, by omega, A, rfl, by simp [Nat.mod_one], HO2.out⟩
    case round =>
      obtain ⟨k, rfl, hat⟩ := hrel
      have hk := hat.1
      have HAT := Lib.hid hat
      clear hat
      by_cases hlt : k < 32
      · have hkk : (k : Int) < 32 := by omega
        obtain ⟨z, hz, hze⟩ : ∃ z : Nat, (t : Int) / 2 ^ k = (z : Int) ∧ z = t / 2 ^ k := ⟨t / 2 ^ k, by simp, rfl⟩
        have hzl : z < 4294967296 := by rw [hze]; exact Nat.lt_of_le_of_lt (Nat.div_le_self _ _) htl.out
        have HZ := Lib.hid hze
        clear hze
        by_cases hbit : z % 2 = 1
        · have e1 : bits .and .u32 (z : Int) 1 = 1 := by rw [u32_and1 z hzl, hbit]; rfl
          have HBI := Lib.hid hbit
          clear hbit
          obtain ⟨j, hj, hje⟩ : ∃ j : Nat, ((q : Int) + (k : Int)) / 8 = (j : Int) ∧ j = (q + k) / 8 := ⟨(q + k) / 8, by omega, rfl⟩
          obtain ⟨m, hm, hme⟩ : ∃ m : Nat, ((q : Int) + (k : Int)) % 8 = (m : Int) ∧ m = (q + k) % 8 := ⟨(q + k) % 8, by omega, rfl⟩
          have hjl : j < A.length := by have := HQ.out; omega
          have hjj : (j : Int) < (A.length : Int) := by omega
          have hm8 : (m : Int) < 8 := by omega
          obtain ⟨p, hp, hpe⟩ : ∃ p : Nat, (2 : Int) ^ m = (p : Int) ∧ p = 2 ^ m := ⟨2 ^ m, by simp, rfl⟩
          have hpl : p < 256 := by rw [hpe]; exact (Nat.pow_lt_pow_right (by omega) (by omega) : 2 ^ m < 2 ^ 8)
          have hpl2 : (p : Int) < 256 := by omega
          obtain ⟨v, hv, hvl, hc, hfz⟩ := HAT.out.cell hjl
          have e3 : bits .xor .u8 (v : Int) (p : Int) = ((v ^^^ p : Nat) : Int) := u8_xor_nat v p hvl hpl
          have hgz : g < wr.heap.size := World.block_lt_of_cell? _ _ hc
          have HNX : Hid (BurAt w A g c2 q t (k + 1) (wr.setCell ⟨g, j, none⟩ (.int .u8 ((v ^^^ p : Nat) : Int)))) := Lib.hid (HAT.out.flip hlt (by rw [← HZ.out]; exact HBI.out) hje hme hjl fun u hu => by
            rw [hc] at hu
            cases hu
            rw [hpe])
          have HPE := Lib.hid hpe
          have HJE := Lib.hid hje
          have HME := Lib.hid hme
          clear hpe hje hme hv
          go_wp2_with fail
          go_roundw
          case rel => exact ⟨k + 1, by go_num, HNX.out⟩
          case measure => simp [intOf]; omega
        · have e1 : bits .and .u32 (z : Int) 1 = 0 := by rw [u32_and1 z hzl, show z % 2 = 0 by omega]; rfl
          have HBI := Lib.hid hbit
          clear hbit
          go_wp2_with fail
          go_roundw
          case rel => exact ⟨k + 1, by go_num, HAT.out.skip hlt (by rw [← HZ.out]; exact HBI.out)⟩
          case measure => simp [intOf]; omega
      · have hkk : ¬ (k : Int) < 32 := by omega
        obtain rfl : k = 32 := by omega
        obtain ⟨-, L, hL1, hL2, hO⟩ := HAT.out
        rw [Nat.mod_eq_of_lt (show t < 2 ^ 32 from htl.out)] at hL2
        have HNE : Hid (C.sumOf A ≠ C.sumOf L) := Lib.hid (C.burst hL1.symm hL2 htl.out HT0.out (by have := HQ.out; omega))
        have O3 : Hid (Own w L (.slice (some ⟨g, 0, none⟩) A.length c2) wr) := Lib.hid hO
        have T3 : Hid (Tab wr) := Lib.hid (ht.out.next hO.1)
        have HL1 := Lib.hid hL1
        clear hL1 hL2 hO
        go_wp2_with fail
        refine (Of_any [A] _ _ _ (lay1 (HA.out.later HF.out O3.out.1) rfl) (Lib.hid (T3.out.next (below_alloc _ _)))).mono ?_
        rintro e w4 ⟨rfl, hw4⟩
        have O4 : Hid (Own w L (.slice (some ⟨g, 0, none⟩) A.length c2) w4) := Lib.hid (hw4 ▸ O3.out.next (below_alloc _ _))
        have T4 : Hid (Tab w4) := Lib.hid (ht.out.next O4.out.1)
        clear hw4
        rw [show C.sumOf [A].flatten = C.sumOf A from by simp]
        go_wp2_with fail
        refine (Of_any [L] _ _ _ (lay1 O4.out.now rfl) (Lib.hid (T4.out.next (below_alloc _ _)))).mono ?_
        rintro e w5 ⟨rfl, hw5⟩
        have O5 : Hid (Own w L (.slice (some ⟨g, 0, none⟩) A.length c2) w5) := Lib.hid (hw5 ▸ O4.out.next (below_alloc _ _))
        clear hw5
        rw [show C.sumOf [L].flatten = C.sumOf L from by simp]
        have hne : ((C.sumOf A : Int) == (C.sumOf L : Int)) = false := by rw [int_beq]; exact decide_eq_false HNE.out
        have hne2 : ((C.sumOf A : Int) != (C.sumOf L : Int)) = true := by rw [bne, hne]; rfl
        go_wp2_with fail
        go_ret
        exact ⟨rfl, O5.out.1⟩
  · rcases (show 3000 < A.length ∨ (A.length ≤ 3000 ∧ A.length < 5) ∨ (A.length ≤ 3000 ∧ 5 ≤ A.length ∧ t = 0) by omega) with h2 | ⟨h2, h3⟩ | ⟨h2, h3, h4⟩
    · have t1 : (3000 : Int) < (A.length : Int) := by omega
      clear h1
      go_enter Tryd.func5, Tryd.ntmps5
      go_wp2_with fail
      refine (awake_any _ ht).mono ?_
      rintro e w1 ⟨rfl, hB1⟩
      have HB1 := Lib.hid hB1
      have T1 : Hid (Tab w1) := Lib.hid (ht.out.next HB1.out)
      clear hB1
      go_wp2_with fail
      refine (awake_any _ T1).mono ?_
      rintro e w2 ⟨rfl, hB2⟩
      have HB2 := Lib.hid hB2
      clear hB2
      go_wp2_with fail
      go_ret
      exact ⟨rfl, HB1.out.trans (HB2.out.mono HB1.out.size)⟩
    · have t1 : decide ((3000 : Int) < (A.length : Int)) = false := by simp; omega
      have t2 : (A.length : Int) < 5 := by omega
      clear h1
      go_enter Tryd.func5, Tryd.ntmps5
      go_wp2_with fail
      refine (awake_any _ ht).mono ?_
      rintro e w1 ⟨rfl, hB1⟩
      have HB1 := Lib.hid hB1
      have T1 : Hid (Tab w1) := Lib.hid (ht.out.next HB1.out)
      clear hB1
      go_wp2_with fail
      refine (awake_any _ T1).mono ?_
      rintro e w2 ⟨rfl, hB2⟩
      have HB2 := Lib.hid hB2
      clear hB2
      go_wp2_with fail
      go_ret
      exact ⟨rfl, HB1.out.trans (HB2.out.mono HB1.out.size)⟩
    · have t1 : decide ((3000 : Int) < (A.length : Int)) = false := by simp; omega
      have t2 : decide ((A.length : Int) < 5) = false := by simp; omega
      subst h4
      clear h1
      go_enter Tryd.func5, Tryd.ntmps5
      go_wp2_with fail
      refine (awake_any _ ht).mono ?_
      rintro e w1 ⟨rfl, hB1⟩
      have HB1 := Lib.hid hB1
      have T1 : Hid (Tab w1) := Lib.hid (ht.out.next HB1.out)
      clear hB1
      go_wp2_with fail
      refine (awake_any _ T1).mono ?_
      rintro e w2 ⟨rfl, hB2⟩
      have HB2 := Lib.hid hB2
      clear hB2
      go_wp2_with fail
      go_ret
      exact ⟨rfl, HB1.out.trans (HB2.out.mono HB1.out.size)⟩
end Go.Proofs.YtecgbnghapjfgaaDoor.M
