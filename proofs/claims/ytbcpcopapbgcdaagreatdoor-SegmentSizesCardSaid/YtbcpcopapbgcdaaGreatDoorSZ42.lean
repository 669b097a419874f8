/- echelonref01.Number: a number's form by definition. -/
import Derived.Test.YtbcpcopapbgcdaaGreatDoorSZ9
namespace Go.Proofs.YtbcpcopapbgcdaaGreatDoor.M
open Go.RowKit

theorem dig_zero (k : Nat) : dig k 0 = [] := by cases k <;> simp [dig]

/-- One digit more is taken off. -/
theorem dig_next {f n : Nat} {Ls D : List UInt8} (h : D = dig (f + 1) n ++ Ls.reverse) (hn : n ≠ 0) : D = dig f (n / 256) ++ (Ls ++ [UInt8.ofNat (n % 256)]).reverse := by
  rw [h, dig, if_neg hn]
  simp

theorem rev_take {Ls : List UInt8} {j : Nat} (h0 : 0 < j) (h : j ≤ Ls.length) :
    Ls.reverse.take (Ls.length - (j - 1)) = Ls.reverse.take (Ls.length - j) ++ [Ls[j - 1]'(by omega)] := by
  rw [show Ls.length - (j - 1) = Ls.length - j + 1 from by omega, List.take_add_one, List.getElem?_reverse (by omega), show Ls.length - 1 - (Ls.length - j) = j - 1 from by omega, List.getElem?_eq_getElem (by omega)]
  rfl

set_option maxRecDepth 20000 in
set_option maxHeartbeats 1600000 in
theorem Number_any (N : Nat) (w : World) (hN : Hid (N < 18446744073709551616)) :
    Calls Tryz.prog 69 #[.int .u64 (N : Int)] w fun e w' => ∃ v, e = .returned v ∧ Below w.heap.size w w' ∧ w'.ownsRow w.heap.size 5 1 v (num N).length ((num N).map byteV) := by
  obtain ⟨ib, hib, hib0, hib1, hib2⟩ := info_parts infoByte
  have hs : ∃ n : Nat, n = N := ⟨N, rfl⟩
  have HST : Hid (N < 256 ^ 8) := Lib.hid hN.out
  rw [show num N = UInt8.ofNat (dig 8 N).length :: dig 8 N from rfl]
  have HDS : Hid (dig 8 N = dig 8 N ++ [].reverse) := Lib.hid (by simp)
  clear hs hN
  go_enter Tryz.func69, Tryz.ntmps69
  go_wp2_with fail
  go_loopw [0, 3] (fun x lo wr => ∃ (n : Nat) (Ls : List UInt8) (v : Value), x = .int .u64 (n : Int) ∧ lo = v ∧ Ls.length ≤ 8 ∧ Hid (dig 8 N = dig (8 - Ls.length) n ++ Ls.reverse ∧ n < 256 ^ (8 - Ls.length)) ∧
      Acc w w.heap.size (.slice none 0 0) wr v Ls) (fun x _ _ => (intOf x).toNat)
  case atStart => exact ⟨N, [], _, rfl, rfl, by simp, Lib.hid ⟨HDS.out, HST.out⟩, Acc.start (L := []) (World.ownsRow_nil _ _ _ _)⟩
  case round =>
    obtain ⟨n, Ls, v, rfl, rfl, hl8, HI, hacc⟩ := hrel
    by_cases hn0 : 0 < n
    · have hl7 : Ls.length < 8 := by
        rcases Nat.lt_or_ge Ls.length 8 with h | h
        · exact h
        · have := HI.out.2
          rw [show 8 - Ls.length = 0 from by omega] at this
          omega
      obtain ⟨a, c, rfl⟩ := owned_slice hacc.1
      have hnn : (0 : Int) < (n : Int) := by omega
      have hsz := hacc.2.1.size
      have HA := Lib.hid hacc
      clear hacc
      go_wp2_with (at_builtin; refine wpList_append_own2 _ rfl _ _ 34 rfl w.heap.size 5 ib (.int .u8 0) 1 1 Tryz.underlying34 hib hib0 hib1 hib2 rfl (by decide) _ _ _ rfl (HA.out.1.alloc _) ⟨wr.heap.size, 0, none⟩ 1 1 [.int .u8 ((n : Int) % 256)] rfl rfl ?c1 ?c2 ?c3 ?c4 ?c5 ?_)
      case c1 => exact one_new rfl
      case c2 => intro u hu; simp at hu; rw [hu]; rfl
      case c3 => unfold maxLen; omega
      case c4 => omega
      case c5 => simp; omega
      intro v' w4 hown2 hg _ hwhere
      have hacc := HA.out.push (b := UInt8.ofNat (n % 256)) hown2 rfl (by rw [byteV, UInt8.toNat_ofNat_of_lt' (by show _ < 256; omega)]; simp) hg (by simpa using hwhere)
      have HI2 : Hid (dig 8 N = dig (8 - (Ls ++ [UInt8.ofNat (n % 256)]).length) (n / 256) ++ (Ls ++ [UInt8.ofNat (n % 256)]).reverse ∧ n / 256 < 256 ^ (8 - (Ls ++ [UInt8.ofNat (n % 256)]).length)) := Lib.hid (by
        obtain ⟨h1, h2⟩ := HI.out
        rw [List.length_append, List.length_singleton]
        rw [show 8 - Ls.length = 8 - (Ls.length + 1) + 1 from by omega] at h1 h2
        refine ⟨dig_next h1 (by omega), ?_⟩
        rw [Nat.div_lt_iff_lt_mul (by omega), ← Nat.pow_succ]
        exact h2)
      have HW : Hid (IntKind.u64.wrap ((n : Int) / 256) = ((n / 256 : Nat) : Int)) := Lib.hid (by
        have h2 := HI.out.2
        have h3 : (256 : Nat) ^ (8 - Ls.length) ≤ 256 ^ 8 := Nat.pow_le_pow_right (by omega) (by omega)
        rw [IntWalk.u64_in _ (by omega)]; simp)
      have HA2 := Lib.hid hacc
      clear hown2 hg hwhere hacc
      go_wp2_with fail
      go_roundw
      case rel => exact ⟨n / 256, Ls ++ [UInt8.ofNat (n % 256)], v', by rw [HW.out], rfl, by simp; omega, HI2, HA2.out⟩
      case measure => rw [HW.out]; simp [intOf]; omega
    · have hnn : ¬ (0 : Int) < (n : Int) := by omega
      have HD : Hid (dig 8 N = Ls.reverse) := Lib.hid (by
        obtain ⟨h1, h2⟩ := HI.out
        obtain rfl : n = 0 := by omega
        rw [h1, dig_zero]; rfl)
      obtain ⟨a, c, rfl⟩ := owned_slice hacc.1
      have hsz := hacc.2.1.size
      have HA := Lib.hid hacc
      rw [HD.out]
      have hwr : RepB wr (fun b => b < wr.heap.size) Ls (.slice a Ls.length c) := (RepB.of_own HA.out.1).same (fun b hb => hb.2) fun _ _ => rfl
      have hown0 := World.ownsRow_lit wr #[.int .u8 (Ls.length : Int)] 1 (base := wr.heap.size) (e := 5) (size := 1) (Nat.le_refl _) (by unfold maxLen; omega) rfl
      have hl256 : (UInt8.ofNat Ls.length).toNat = Ls.length := UInt8.toNat_ofNat_of_lt' (by show _ < 256; omega)
      have hstart : Acc (wr.alloc (.cells #[.int .u8 (Ls.length : Int)] 5)) wr.heap.size (.slice (some ⟨wr.heap.size, 0, none⟩) 1 1) (wr.alloc (.cells #[.int .u8 (Ls.length : Int)] 5)) (.slice (some ⟨wr.heap.size, 0, none⟩) 1 1) [UInt8.ofNat Ls.length] :=
        Acc.start (by simpa [byteV, hl256] using hown0)
      have HWR := Lib.hid hwr
      have HSTA := Lib.hid hstart
      clear hacc hwr hown0 hl256 hstart
      obtain ⟨wo, rfl⟩ : ∃ wo : World, wo = wr := ⟨_, rfl⟩
      go_wp2_with fail
      go_loopw [4, 5] (fun o i w1 => ∃ (j : Nat) (x : Int) (v : Value), o = v ∧ i = .int .i64 x ∧ Hid (x = (j : Int) - 1) ∧ j ≤ Ls.length ∧
          Acc (wo.alloc (.cells #[.int .u8 (Ls.length : Int)] 5)) wo.heap.size (.slice (some ⟨wo.heap.size, 0, none⟩) 1 1) w1 v ([UInt8.ofNat Ls.length] ++ Ls.reverse.take (Ls.length - j))) (fun _ i _ => upOne i)
      case atStart => exact ⟨Ls.length, _, _, rfl, rfl, Lib.hid rfl, Nat.le_refl _, by simpa using HSTA.out⟩
      case round =>
        obtain ⟨j, x, v, rfl, rfl, HX, hj, hacc⟩ := hrel
        have HA3 := Lib.hid hacc
        have hkeep : ∀ b, b < wo.heap.size → wr.heap[b]? = wo.heap[b]? := fun b hb => by
          rw [hacc.2.1.block b (by simp; omega) (by simp [Value.ownBlock]; omega), Below.heap_alloc _ _ _ hb]
        have hz3 := hacc.2.1.size
        simp only [World.size_alloc] at hz3
        by_cases hj0 : 0 < j
        · have hx0 : 0 ≤ x := by have := HX.out; omega
          have hx8 : x ≤ 7 := by have := HX.out; omega
          have hxl : x < (Ls.length : Int) := by have := HX.out; omega
          have hjx : x.toNat = j - 1 := by have := HX.out; omega
          have hcell : ∃ b off, a = some ⟨b, off, none⟩ ∧ b < wo.heap.size ∧ wr.cell? ⟨b, off + x.toNat, none⟩ = some (.int .u8 ((Ls[j - 1]'(by omega)).toNat : Int)) := by
            rcases HWR.out with ⟨h, _⟩ | ⟨b, off, c, h, hb, _, _, hc⟩
            · rw [h] at hj; simp at hj; omega
            · cases h
              refine ⟨b, off, rfl, hb, ?_⟩
              rw [World.cell?_of_block (by exact hkeep b hb), hjx]
              exact hc (j - 1) (by omega)
          obtain ⟨b, off, rfl, hb, hcell⟩ := hcell
          have HJX := Lib.hid hjx
          generalize hdd : (Ls[j - 1]'(by omega)) = d at *
          have HDD := Lib.hid hdd
          clear hacc hkeep hjx hdd
          go_wp2_with (at_builtin; refine wpList_append_own2 _ rfl _ _ 34 rfl wo.heap.size 5 ib (.int .u8 0) 1 1 Tryz.underlying34 hib hib0 hib1 hib2 rfl (by decide) _ _ _ rfl (HA3.out.1.alloc _) ⟨wr.heap.size, 0, none⟩ 1 1 [.int .u8 (d.toNat : Int)] rfl rfl ?d1 ?d2 ?d3 ?d4 ?d5 ?_)
          case d1 => exact one_new rfl
          case d2 => intro u hu; simp at hu; rw [hu]; rfl
          case d3 => simp; unfold maxLen; omega
          case d4 => simp; omega
          case d5 => simp; omega
          intro v' w4 hown2 hg _ hwhere
          have hacc3 := HA3.out.push (b := d) hown2 (by simp) (by simp [byteV]) hg (by simpa using hwhere)
          have HACC3 : Hid (Acc (wo.alloc (.cells #[.int .u8 (Ls.length : Int)] 5)) wo.heap.size (.slice (some ⟨wo.heap.size, 0, none⟩) 1 1) w4 v' ([UInt8.ofNat Ls.length] ++ Ls.reverse.take (Ls.length - (j - 1)))) := Lib.hid (by
            rw [rev_take hj0 hj, HDD.out, ← List.append_assoc]; exact hacc3)
          have HX3 : Hid (x - 1 = ((j - 1 : Nat) : Int) - 1) := Lib.hid (by have := HX.out; omega)
          have hj3 : j - 1 ≤ Ls.length := by omega
          clear hown2 hg hwhere hacc3
          go_wp2_with fail
          go_roundw
          case rel => exact ⟨j - 1, x - 1, v', rfl, rfl, HX3, hj3, HACC3.out⟩
          case measure => simp [upOne, intOf, Go.RowKit.intOf]; omega
        · have hx0 : x < 0 := by have := HX.out; omega
          have HJ : Hid (Ls.length - j = Ls.length) := Lib.hid (by omega)
          clear hacc hkeep hj0
          go_wp2_with fail
          go_ret
          refine ⟨_, rfl, ?_, ?_⟩
          · have hg := HA.out.2.1
            have hg3 := HA3.out.2.1
            refine ⟨hg3.os.trans hg.os, hg3.tape.trans hg.tape, hg3.output.trans hg.output, by omega, fun k hk => ?_⟩
            rw [hg3.block k (by simp; omega) (by simp [Value.ownBlock]; omega), Below.heap_alloc _ _ _ (by omega)]
            exact hg.block k hk (by simp [Value.ownBlock])
          · have h := HA3.out.1
            rw [HJ.out, List.take_of_length_le (by simp)] at h
            rw [HD.out]
            obtain ⟨h1, h2⟩ := h
            refine ⟨by simp, ?_⟩
            rcases h2 with ⟨h2, h3⟩ | ⟨g, cap, cur, h3, h4, h5⟩
            · simp at h3
            · exact .inr ⟨g, cap, cur, by simpa using h3, by omega, by simpa using h5⟩
end Go.Proofs.YtbcpcopapbgcdaaGreatDoor.M
