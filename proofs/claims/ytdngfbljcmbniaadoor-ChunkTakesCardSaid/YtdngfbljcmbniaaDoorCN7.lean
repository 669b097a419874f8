/- Package chunk: a block's clashes. -/
import Derived.Test.YtdngfbljcmbniaaDoorCN5
import Derived.Test.YtdngfbljcmbniaaDoorCN6
import Derived.Laws.Bits64b
import Derived.Outline
import Derived.StillTailTactics
namespace Go.Proofs.YtdngfbljcmbniaaDoor.M
open Go.RowKit

theorem sizeByte : (Tryd.prog.info? 5).map (·.size) = some 1 := by kernel_rfl

theorem blk_len (T : Nat) (bs : List UInt8) : (Value.int .u64 (T : Int) :: bs.map byteV).toArray.size = bs.length + 1 := by simp

theorem BlkAt.bits {w : World} {b T : Nat} {bs : List UInt8} (h : BlkAt w b T bs) : w.cell? ⟨b, 0, none⟩ = some (.int .u64 (T : Int)) ∧ w.frozen? ⟨b, 0, none⟩ = false ∧ b < w.heap.size := by
  refine ⟨?_, frozen_of_row w b 0 _ _ h, lt_of_heap h⟩
  rw [cell_of_row w b 0 _ _ _ h]
  rfl

theorem BlkAt.put {w : World} {b T U : Nat} {bs : List UInt8} (h : BlkAt w b T bs) : BlkAt (w.setCell ⟨b, 0, none⟩ (.int .u64 (U : Int))).drew b U bs := by
  unfold BlkAt at h ⊢
  simp [World.setCell, World.drew, Array.getElem?_modify, h]

theorem BlkAt.byte {w : World} {b T : Nat} {bs : List UInt8} (h : BlkAt w b T bs) {i : Nat} (hi : i < bs.length) : w.cell? ⟨b, 1 + i, none⟩ = some (.int .u8 (bs[i].toNat : Int)) := by
  rw [cell_of_row w b (1 + i) _ _ _ h, Nat.add_comm]
  simp [hi, byteV]

theorem and1q {q : Nat} (h : q < 18446744073709551616) : bits .and .u64 (q : Int) 1 = ((q % 2 : Nat) : Int) := by
  have := bits_and_u64_nat q 1 h (by decide)
  rw [Nat.and_one_is_mod] at this
  exact this

/-- A mask, as the code makes it. -/
theorem mask_made {frm n : Nat} (h : frm + n ≤ 64) : IntKind.u64.wrap (IntKind.u64.wrap (IntKind.u64.wrap ((2 : Int) ^ n) - 1) * (2 : Int) ^ frm) = (maskN frm n : Int) := by
  have h1 : IntKind.u64.wrap (IntKind.u64.wrap ((2 : Int) ^ n) - 1) = ((2 ^ n - 1 : Nat) : Int) := by
    rw [IntKind.wrap_u64, IntKind.wrap_u64]
    have h2 : (2 : Nat) ^ n ≤ 2 ^ 64 := Nat.pow_le_pow_right (by omega) (by omega)
    have h3 : 0 < (2 : Nat) ^ n := Nat.pow_pos (by omega)
    have h4 : (2 : Int) ^ n = ((2 ^ n : Nat) : Int) := by simp
    rw [h4]
    omega
  rw [h1, IntKind.wrap_u64]
  have h5 := mask_lt h
  unfold maskN at h5 ⊢
  rw [show (2 : Int) ^ frm = ((2 ^ frm : Nat) : Int) by simp, ← Int.natCast_mul]
  omega

theorem shr_bit (T k : Nat) : T / 2 ^ k % 2 = if T.testBit k = true then 1 else 0 := by
  rw [Nat.testBit_eq_decide_div_mod_eq]
  have := Nat.mod_two_eq_zero_or_one (T / 2 ^ k)
  split
  · rename_i h; simpa using h
  · rename_i h
    simp at h
    omega

set_option maxRecDepth 20000 in
set_option maxHeartbeats 1600000 in
theorem BlkClashes_any (g T frm : Nat) (bs b : List UInt8) (F : Nat → Prop) (v : Value) (w : World) (hb : BlkAt w g T bs) (hT : T < 18446744073709551616) (hbs : bs.length = 64) (hl : frm + b.length ≤ 64) (hv : RepB w F b v) :
    Calls Tryd.prog 37 #[.pointer (some ⟨g, 0, none⟩), .int .i64 (frm : Int), v] w fun e w' => e = .returned (.bool (blkClash T bs frm b)) ∧ w = w' := by
  obtain ⟨a, c, rfl, -⟩ := hv.slice
  obtain ⟨n, hn⟩ : ∃ n, n = b.length := ⟨_, rfl⟩
  rw [← hn] at hl ⊢
  have HN := Lib.hid hn
  have HV := Lib.hid hv
  have HB := Lib.hid hb
  have HBS := Lib.hid hbs
  have HT := Lib.hid hT
  clear hv hb hn hbs hT
  obtain ⟨c0, c0f, c0z⟩ := HB.out.bits
  go_enter Tryd.func37, Tryd.ntmps37
  go_wp2_with fail
  go_loop [11] (fun i => ∃ k : Nat, k ≤ n ∧ i = .int .i64 (k : Int) ∧ Hid (∀ j, j < k → ¬ (T.testBit (frm + j) = true ∧ bs[frm + j]? ≠ b[j]?))) (fun i => n - (intOf i).toNat)
  case atStart => exact ⟨0, Nat.zero_le _, rfl, Lib.hid fun j hj => absurd hj (Nat.not_lt_zero j)⟩
  case round =>
    obtain ⟨k, hk, rfl, hno⟩ := hrel
    by_cases hlt : k < n
    · have hkb : k < b.length := by rw [← HN.out]; exact hlt
      have hfb : frm + k < bs.length := by rw [HBS.out]; omega
      have hcell : ∃ g2 off, a = some ⟨g2, off, none⟩ ∧ w.cell? ⟨g2, off + k, none⟩ = some (.int .u8 (b[k].toNat : Int)) := by
        rcases HV.out with ⟨h, _⟩ | ⟨b', off, c', h, _, _, _, hc⟩
        · rw [h] at hkb; simp at hkb
        · cases h
          exact ⟨b', off, rfl, hc k hkb⟩
      obtain ⟨g2, off, rfl, hcell⟩ := hcell
      have hby := HB.out.byte hfb
      have hq1 : decide ((k : Int) < (n : Int)) = true := decide_eq_true (by omega)
      obtain ⟨q, hq, hqe⟩ : ∃ q : Nat, (T : Int) / 2 ^ (frm + k) = (q : Int) ∧ q = T / 2 ^ (frm + k) := ⟨T / 2 ^ (frm + k), by simp, rfl⟩
      have hql : q < 18446744073709551616 := by rw [hqe]; exact Nat.lt_of_le_of_lt (Nat.div_le_self _ _) HT.out
      have he := and1q hql
      rw [hqe, shr_bit] at he
      rw [← hqe] at he
      have HX : Hid (b[k]? = some b[k] ∧ bs[frm + k]? = some bs[frm + k]) := Lib.hid ⟨List.getElem?_eq_getElem hkb, List.getElem?_eq_getElem hfb⟩
      obtain ⟨x, hx⟩ : ∃ x, x = b[k] := ⟨_, rfl⟩
      obtain ⟨y, hy⟩ : ∃ y, y = bs[frm + k] := ⟨_, rfl⟩
      rw [← hx] at hcell HX
      rw [← hy] at hby HX
      have HQ := Lib.hid hq
      clear hx hy hqe hkb hfb hql
      cases htb : T.testBit (frm + k) with
      | false =>
        rw [htb] at he
        have HTB := Lib.hid htb
        clear htb hby
        have he : bits .and .u64 (q : Int) 1 = 0 := he
        go_wp2_with fail
        go_round
        case rel => exact ⟨k + 1, by omega, by go_num, Lib.hid fun j hj => by
          rcases Nat.lt_succ_iff_lt_or_eq.1 hj with hj | rfl
          · exact hno.out j hj
          · rw [HTB.out]; rintro ⟨h, -⟩; cases h⟩
        case measure => simp [intOf]; omega
      | true =>
        rw [htb] at he
        have he : bits .and .u64 (q : Int) 1 = 1 := he
        have HTB := Lib.hid htb
        clear htb
        by_cases hxy : y = x
        · have e5 : ((y.toNat : Int) != (x.toNat : Int)) = false := by rw [hxy]; simp
          have HXY := Lib.hid hxy
          clear hxy
          go_wp2_with fail
          go_round
          case rel => exact ⟨k + 1, by omega, by go_num, Lib.hid fun j hj => by
            rcases Nat.lt_succ_iff_lt_or_eq.1 hj with hj | rfl
            · exact hno.out j hj
            · rw [HX.out.1, HX.out.2, HXY.out]; rintro ⟨-, h⟩; exact h rfl⟩
          case measure => simp [intOf]; omega
        · have e5 : ((y.toNat : Int) != (x.toNat : Int)) = true := by
            simp only [bne_iff_ne, ne_eq]
            intro h
            exact hxy (UInt8.toNat_inj.1 (by omega))
          have HXY := Lib.hid hxy
          clear hxy
          go_wp2_with fail
          go_ret
          refine ⟨?_, rfl⟩
          rw [blkClash_iff.2 ⟨k, by rw [← HN.out]; exact hlt, HTB.out, by rw [HX.out.1, HX.out.2]; exact fun h => HXY.out (Option.some.inj h)⟩]
          rfl
    · obtain rfl : k = n := by omega
      have hq1 : decide ((k : Int) < (k : Int)) = false := decide_eq_false (by omega)
      have HFA : Hid (blkClash T bs frm b = false) := Lib.hid (by
        rw [Bool.eq_false_iff]
        intro h
        obtain ⟨i, hi, h1, h2⟩ := blkClash_iff.1 h
        exact hno.out i (by rw [HN.out]; exact hi) ⟨h1, h2⟩)
      go_wp2_with fail
      go_ret
      exact ⟨by rw [HFA.out]; rfl, rfl⟩

set_option maxRecDepth 20000 in
set_option maxHeartbeats 1600000 in
theorem BlkLay_any (g T frm : Nat) (bs b : List UInt8) (F : Nat → Prop) (v : Value) (w : World) (hb : BlkAt w g T bs) (hT : T < 18446744073709551616) (hbs : bs.length = 64) (hl : frm + b.length ≤ 64) (h0 : 0 < b.length) (hv : RepB w F b v) (hF : ¬ F g) :
    Calls Tryd.prog 38 #[.pointer (some ⟨g, 0, none⟩), .int .i64 (frm : Int), v] w fun e w' => e = .returned (.tuple #[]) ∧ Only (fun k => k = g) w w' ∧ BlkAt w' g (T ||| maskN frm b.length) (spliceB bs frm b) := by
  obtain ⟨a, c, rfl, -⟩ := hv.slice
  obtain ⟨n, hn⟩ : ∃ n, n = b.length := ⟨_, rfl⟩
  rw [← hn] at hl h0 ⊢
  have HN := Lib.hid hn
  have HV := Lib.hid hv
  have HB := Lib.hid hb
  have HBS := Lib.hid hbs
  have HT := Lib.hid hT
  clear hv hb hn hbs hT
  have hsrc : ∃ ad, a = some ad ∧ ∀ j v, (b.map byteV)[j]? = some v → w.cell? (ad.add j) = some v := by
    obtain ⟨-, -, ⟨h, h2⟩ | ⟨ad, c2, h, h2⟩⟩ := HV.out.yields
    · have := HN.out; omega
    · cases h
      exact ⟨ad, rfl, h2⟩
  obtain ⟨ad, rfl, hsrc⟩ := hsrc
  have hrun : ∃ W1, (∀ ty, (Builtin.copy_ #[24, 24] ty #[.slice (some ⟨g, 1 + frm, none⟩) (64 - frm) (64 - frm), .slice (some ad) n c]).run Tryd.prog w = .ok (.int .i64 (n : Int)) W1) ∧ BlkAt W1 g T (spliceB bs frm b) ∧ Only (fun k => k = g) w W1 := by
    refine ⟨w.setRow g (Value.int .u64 (T : Int) :: (spliceB bs frm b).map byteV).toArray, fun ty => ?_, setRow_heap w g _ _ _ _ HB.out, rfl, rfl, rfl, by simp, fun k _ hk => setRow_other w g k _ hk⟩
    have h1 := run_copy_row (P := Tryd.prog) w 24 24 ty 5 g (1 + frm) (64 - frm) (64 - frm) ad n c _ 82 (b.map byteV) Tryd.underlying24 sizeByte HB.out
      (by rw [List.length_map, ← HN.out]; exact (Nat.min_eq_left (by omega)).symm) hsrc (by have := HBS.out; have := HN.out; rw [blk_len, List.length_map]; omega) (fun u hu => by obtain ⟨y, -, rfl⟩ := List.mem_map.1 hu; rfl)
    rw [h1]
    have e1 : goInt (b.map byteV).length = .int .i64 (n : Int) := by rw [List.length_map, ← HN.out]; rfl
    rw [e1]
    congr 3
    unfold spliceB
    rw [List.length_map, Nat.add_assoc, Nat.add_comm 1 (frm + b.length)]
    simp [Nat.add_comm 1 frm]
  obtain ⟨W1, hrun, hW1, ho1⟩ := hrun
  have HB1 := Lib.hid hW1
  have HO1 := Lib.hid ho1
  have hnf : ¬ (64 : Nat) = frm := by omega
  have hq1 : (frm : Int) ≤ 64 := by omega
  have hz1 : g < W1.heap.size := hW1.bits.2.2
  obtain ⟨d0, d0f, d0z⟩ := hW1.bits
  obtain ⟨c0, c0f, c0z⟩ := HB.out.bits
  have HM := Lib.hid (mask_made hl)
  have HML := Lib.hid (mask_lt hl)
  obtain ⟨mk, hmk⟩ : ∃ mk, mk = maskN frm n := ⟨_, rfl⟩
  obtain ⟨za, hza⟩ : ∃ za, za = IntKind.u64.wrap ((2 : Int) ^ n) := ⟨_, rfl⟩
  obtain ⟨zb, hzb⟩ : ∃ zb, zb = IntKind.u64.wrap (za - 1) := ⟨_, rfl⟩
  rw [← hmk, ← hza, ← hzb] at HM
  rw [← hmk] at HML ⊢
  have e1 := hza.symm
  have e2 := hzb.symm
  have e3 := HM.out
  have e4 := bits_or_u64_nat T mk HT.out HML.out
  clear hsrc hW1 ho1 hmk hza hzb
  go_enter Tryd.func38, Tryd.ntmps38
  go_wp2_with fail
  go_still_tail 13, (by kernel_rfl)
  go_wp2_with fail
  go_end0
  exact ⟨rfl, (HO1.out.set (.inl rfl) _).drawn, HB1.out.put⟩
end Go.Proofs.YtdngfbljcmbniaaDoor.M
