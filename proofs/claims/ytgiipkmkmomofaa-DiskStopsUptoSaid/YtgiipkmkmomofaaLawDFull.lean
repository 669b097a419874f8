/- The law DiskFull: just as much as there is room for. -/
import Derived.Test.YtgiipkmkmomofaaDiskAwake
import Derived.Deep.OwnRows
namespace Go.Proofs.Ytgiipkmkmomofaa.M
open Go.RowKit Go.Maps
open D (Fl Dk)

/-- So many bytes, all 0. -/
def zs (n : Nat) : List UInt8 := List.replicate n 0
def nmC : ByteArray := ⟨#[99]⟩
def fA (n k : Nat) : Dk := { fresh n with fs := [⟨nmA, [zs k].flatten, 0⟩] }
def fAB (n k : Nat) : Dk := { fresh n with fs := [⟨nmA, [zs k].flatten, 0⟩, ⟨nmB, [zs (n - k)].flatten, 0⟩] }
def fABC (n k : Nat) : Dk := { fresh n with fs := [⟨nmA, [zs k].flatten, 0⟩, ⟨nmB, [zs (n - k)].flatten, 0⟩, ⟨nmC, [], 0⟩] }
def fBC (n k : Nat) : Dk := { fresh n with fs := [⟨nmB, [zs (n - k)].flatten, 0⟩, ⟨nmC, [], 0⟩] }
def fC (n k : Nat) : Dk := { fresh n with fs := [⟨nmC, [zs (n - k)].flatten, 0⟩] }

theorem zs_len (k : Nat) : [zs k].flatten.length = k := by simp [zs]

theorem append_at {d : Dk} {s : ByteArray} {bs : List (List UInt8)} (he : d.ends = false) (hn : D.okName s = true) (hf : (bs.flatten.length : Int) ≤ d.free) (hl : d.fs.length < 4096) :
    D.append d s bs = (0, { d with fs := D.layAt (if D.isThere d.fs s then d.fs else D.add d.fs ⟨s, [], 0⟩) (D.find (if D.isThere d.fs s then d.fs else D.add d.fs ⟨s, [], 0⟩) s) bs.flatten }) := by
  rw [append_eq, if_neg (by simp [D.Dk.stopped, he])]
  rw [show d.tick = d by simp [D.Dk.tick, he]]
  unfold appendB
  rw [if_neg (by rw [hn]; simp), if_neg (by omega)]

theorem append_no {d : Dk} {s : ByteArray} {bs : List (List UInt8)} (he : d.ends = false) (hn : D.okName s = true) (hf : d.free < (bs.flatten.length : Int)) : D.append d s bs = (31, d) := by
  rw [append_eq, if_neg (by simp [D.Dk.stopped, he])]
  rw [show d.tick = d by simp [D.Dk.tick, he]]
  unfold appendB
  rw [if_neg (by rw [hn]; simp), if_pos (by omega)]

theorem okA : D.okName nmA = true := by decide +kernel
theorem okB : D.okName nmB = true := by decide +kernel
theorem okC : D.okName nmC = true := by decide +kernel

theorem free_A (n k : Nat) : (fA n k).free = (n : Int) - k := by simp [fA, D.Dk.free, D.used, fresh, zs]
theorem free_AB (n k : Nat) (h : k ≤ n) : (fAB n k).free = 0 := by simp [fAB, D.Dk.free, D.used, fresh, zs]; omega
theorem free_BC (n k : Nat) (h : k ≤ n) : (fBC n k).free = k := by simp [fBC, D.Dk.free, D.used, fresh, zs]; omega
theorem free_C (n k : Nat) (h : k ≤ n) : (fC n k).free = k := by simp [fC, D.Dk.free, D.used, fresh, zs]; omega
theorem used_A (n k : Nat) : D.used (fA n k).fs = k := by simp [fA, D.used, zs]
theorem used_AB (n k : Nat) (h : k ≤ n) : D.used (fAB n k).fs = n := by simp [fAB, D.used, zs]; omega

theorem full_1 (n k : Nat) (h : k ≤ n) : D.append (fresh n) nmA [zs k] = (0, fA n k) := by
  rw [append_at rfl okA (by rw [zs_len]; simp [fresh, D.Dk.free, D.used]; omega) (by simp [fresh])]
  kernel_rfl

theorem full_2 (n k : Nat) (h : k ≤ n) : D.append (fA n k) nmB [zs (n - k + 1)] = (31, fA n k) := append_no rfl okB (by rw [zs_len, free_A]; omega)

theorem full_3 (n k : Nat) (h : k ≤ n) : D.append (fA n k) nmB [zs (n - k)] = (0, fAB n k) := by
  rw [append_at rfl okB (by rw [zs_len, free_A]; omega) (by simp [fA])]
  kernel_rfl

theorem full_4 (n k : Nat) (h : k ≤ n) : D.append (fAB n k) nmB [[1]] = (31, fAB n k) := append_no rfl okB (by rw [free_AB n k h]; simp)

theorem full_5 (n k : Nat) (h : k ≤ n) : D.append (fAB n k) nmC [] = (0, fABC n k) := by
  rw [append_at rfl okC (by rw [free_AB n k h]; simp) (by simp [fAB])]
  kernel_rfl

theorem full_6 (n k : Nat) : D.remove (fABC n k) [nmA] = (0, fBC n k) := by kernel_rfl

theorem full_7 (n k : Nat) : D.rename (fBC n k) nmB nmC = (0, fC n k) := by kernel_rfl

theorem mod_at (r n : Int) (hn : 0 < n) (hn2 : n ≤ 3000) : ∃ q : Nat, (r.tmod n + n).tmod n = (q : Int) ∧ (q : Int) < n ∧ -n < r.tmod n ∧ r.tmod n < n := by
  have a1 := Int.tmod_lt_of_pos r hn
  have a2 : -n < r.tmod n := Int.lt_tmod_of_pos r hn
  generalize r.tmod n = x at *
  have b1 := Int.tmod_lt_of_pos (x + n) hn
  have b2 := Int.tmod_nonneg n (show 0 ≤ x + n by omega)
  exact ⟨((x + n).tmod n).toNat, (Int.toNat_of_nonneg b2).symm, by omega, a2, a1⟩

theorem zrow (n : Nat) : madeCells #[Value.int .u8 0] n = ((zs n).map byteV).toArray := by
  apply Array.toList_inj.1
  rw [toList_madeCells_one]
  unfold zs
  simp [byteV]

theorem make_zs (W : World) (x : Int) (n : Nat) (hx : x = (n : Int)) (hn : n ≤ 281474976710656) :
    (Instr.makeSlice 41 (.int .i64 x) (.int .i64 x)).run Try.prog W = .ok (.slice (some ⟨W.heap.size, 0, none⟩) n n) (W.alloc (.cells ((zs n).map byteV).toArray 5)) := by
  subst hx
  obtain ⟨ib, hib, hib0, hib1, hib2⟩ := info_parts infoByte
  rw [← zrow]
  exact run_make_row 41 5 ib (.int .u8 0) Try.underlying41 hib hib0 hib1 rfl .i64 .i64 n (by rw [hib2]; omega) (by omega) W

set_option maxRecDepth 40000 in
set_option maxHeartbeats 6400000 in
theorem DiskFull_any (room used : Int) (w : World) (hr1 : -9223372036854775808 ≤ room) (hr2 : room ≤ 9223372036854775807) (hu1 : -9223372036854775808 ≤ used) (hu2 : used ≤ 9223372036854775807) :
    Calls Try.prog 6 #[.int .i64 room, .int .i64 used] w fun e w' => e = .returned (.bool true) ∧ Below w.heap.size w w' := by
  obtain ⟨N, hN, hN2, hx1, hx2⟩ := mod_at room 3000 (by omega) (by omega)
  obtain ⟨x, hx⟩ : ∃ x, x = room.tmod 3000 := ⟨_, rfl⟩
  rw [← hx] at hN hx1 hx2
  obtain ⟨K, hK, hK2, hy1, hy2⟩ := mod_at used ((N : Int) + 1) (by omega) (by omega)
  obtain ⟨y, hy⟩ : ∃ y, y = used.tmod ((N : Int) + 1) := ⟨_, rfl⟩
  rw [← hy] at hK hy1 hy2
  have hxx := hx.symm
  have hyy := hy.symm
  have hK' : (y + (N : Int) + 1).tmod ((N : Int) + 1) = (K : Int) := by rw [Int.add_assoc]; exact hK
  have hNp : 0 < (N : Int) + 1 := by omega
  clear hx hy hK
  go_enter Try.func6, Try.ntmps6
  go_wp2_with fail
  refine (awake3_any w).mono ?_
  rintro e w1 ⟨rfl, hb1⟩
  have HB1 := Lib.hid hb1
  clear hb1
  go_wp2_with fail
  obtain ⟨m, hm⟩ : ∃ m : Nat, m = N - K := ⟨_, rfl⟩
  have hKN : K ≤ N := by omega
  have hsub : (N : Int) - (K : Int) = (m : Int) := by omega
  have f1 := full_1 N K hKN
  have f2 := full_2 N K hKN
  have f3 := full_3 N K hKN
  have f4 := full_4 N K hKN
  have f5 := full_5 N K hKN
  have f6 := full_6 N K
  have f7 := full_7 N K
  rw [← hm] at f2 f3
  have F1 := Lib.hid f1
  have F2 := Lib.hid f2
  have F3 := Lib.hid f3
  have F4 := Lib.hid f4
  have F5 := Lib.hid f5
  have F6 := Lib.hid f6
  have F7 := Lib.hid f7
  have HKN := Lib.hid hKN
  have HM := Lib.hid hm
  have hN3 : N ≤ 3000 := by omega
  have hK3 : K ≤ 3000 := by omega
  have hm3 : m ≤ 3000 := by omega
  have mkK := fun W : World => make_zs W (K : Int) K rfl (by omega)
  have mkm := fun W : World => make_zs W (m : Int) m rfl (by omega)
  have mkm1 := fun W : World => make_zs W ((m : Int) + 1) (m + 1) rfl (by omega)
  clear f1 f2 f3 f4 f5 f6 f7 hm hK' hN hyy hxx hx1 hx2 hy1 hy2 hr1 hr2 hu1 hu2 hNp
  refine (New_any (N : Int) w1 (by omega)).mono ?_
  rintro e w2 ⟨rfl, hb2, hz2, hd2⟩
  have H2 : Hid (DS w _ _ (fresh N) w2) := Lib.hid ⟨HB1.out.trans (hb2.mono HB1.out.size), fun k hk => Nat.le_trans HB1.out.size hk.1, ⟨hd2, fun k hk => by omega⟩, fresh_well (by omega) (by omega)⟩
  obtain ⟨gd, hgd⟩ : ∃ gd, gd = w1.heap.size + 1 := ⟨_, rfl⟩
  obtain ⟨X2, hX2⟩ : ∃ X2 : Nat → Prop, X2 = fun k => w1.heap.size ≤ k ∧ k < w1.heap.size + 2 := ⟨_, rfl⟩
  rw [← hgd, ← hX2] at H2
  rw [← hgd]
  clear hb2 hz2 hd2 hgd hX2
  go_wp2_with fail
  obtain ⟨a1, a2, a3⟩ := H2.out.one (zs K) K (by simp [zs]) (by simp [zs]; omega) (0, 0) 5 41 rfl
  refine (DAppend a1 nmA [zs K] _ _ (by decide) a2 a3 (by rw [zs_len]; simp [fresh, D.used]; omega)).mono ?_
  rintro e w3 ⟨rfl, -, X3, -, h3⟩
  rw [F1.out] at h3 ⊢
  have H3 : Hid (DS w X3 gd (fA N K) w3) := Lib.hid h3
  clear a1 a2 a3 h3
  go_wp2_with fail
  refine (PFree_any _ X3 gd w3 H3.out.dsk.1).mono ?_
  rintro e w4 ⟨rfl, rfl⟩
  rw [free_A, hsub]
  go_wp2_with fail
  obtain ⟨a1, a2, a3⟩ := H3.out.one (zs (m + 1)) (m + 1) (by simp [zs]) (by simp [zs]; omega) (0, 0) 5 41 rfl
  refine (DAppend a1 nmB [zs (m + 1)] _ _ (by decide) a2 a3 (by rw [zs_len, used_A]; omega)).mono ?_
  rintro e w4 ⟨rfl, -, X4, -, h4⟩
  rw [F2.out] at h4 ⊢
  have H4 : Hid (DS w X4 gd (fA N K) w4) := Lib.hid h4
  clear a1 a2 a3 h4
  go_wp2_with fail
  refine (Names_any _ X4 gd w4 H4.out.dsk H4.out.well.1.2.1 (by simp [fA])).mono ?_
  rintro e w5 ⟨v, rfl, hb5, hrow⟩
  obtain ⟨va, vc, rfl⟩ := owned_slice hrow
  rw [show (fA N K).fs.length = 1 from rfl]
  have H5 : Hid (DS w X4 gd (fA N K) w5) := Lib.hid (H4.out.next hb5)
  clear hb5 hrow
  go_wp2_with fail
  obtain ⟨a1, a2, a3⟩ := H5.out.one (zs m) m (by simp [zs]) (by simp [zs]; omega) (0, 0) 5 41 rfl
  refine (DAppend a1 nmB [zs m] _ _ (by decide) a2 a3 (by rw [zs_len, used_A]; omega)).mono ?_
  rintro e w6 ⟨rfl, -, X6, -, h6⟩
  rw [F3.out] at h6 ⊢
  have H6 : Hid (DS w X6 gd (fAB N K) w6) := Lib.hid h6
  clear a1 a2 a3 h6
  go_wp2_with fail
  refine (PFree_any _ X6 gd w6 H6.out.dsk.1).mono ?_
  rintro e w7 ⟨rfl, rfl⟩
  rw [free_AB N K HKN.out]
  go_wp2_with fail
  obtain ⟨a1, a2, a3⟩ := H6.out.one [1] 1 rfl (by decide) (0, 0) 5 41 rfl
  refine (DAppend a1 nmB [[1]] _ _ (by decide) a2 a3 (by rw [used_AB N K HKN.out]; simp; omega)).mono ?_
  rintro e w7 ⟨rfl, -, X7, -, h7⟩
  rw [F4.out] at h7 ⊢
  have H7 : Hid (DS w X7 gd (fAB N K) w7) := Lib.hid h7
  clear a1 a2 a3 h7
  go_wp2_with fail
  refine (DAppend H7.out nmC [] (fun _ => False) (.slice none 0 0) (by decide) (.inl ⟨rfl, Bare.nil⟩) (fun _ h => h.elim) (by rw [used_AB N K HKN.out]; simp; omega)).mono ?_
  rintro e w8 ⟨rfl, -, X8, -, h8⟩
  rw [F5.out] at h8 ⊢
  have H8 : Hid (DS w X8 gd (fABC N K) w8) := Lib.hid h8
  clear h8
  go_wp2_with fail
  obtain ⟨a1, a2, a3⟩ := H8.out.names [nmA] 1 rfl (by decide) 9 rfl
  refine (DRemove a1 [nmA] _ _ (by decide) a2 a3).mono ?_
  rintro e w9 ⟨rfl, -, X9, -, h9⟩
  rw [F6.out] at h9 ⊢
  have H9 : Hid (DS w X9 gd (fBC N K) w9) := Lib.hid h9
  clear a1 a2 a3 h9
  go_wp2_with fail
  refine (PFree_any _ X9 gd w9 H9.out.dsk.1).mono ?_
  rintro e w10 ⟨rfl, rfl⟩
  rw [free_BC N K HKN.out]
  go_wp2_with fail
  refine (DRename H9.out nmB nmC (by decide) (by decide)).mono ?_
  rintro e w10 ⟨rfl, -, X10, -, h10⟩
  rw [F7.out] at h10 ⊢
  have H10 : Hid (DS w X10 gd (fC N K) w10) := Lib.hid h10
  clear h10
  go_wp2_with fail
  refine (Names_any _ X10 gd w10 H10.out.dsk H10.out.well.1.2.1 (by simp [fC])).mono ?_
  rintro e w11 ⟨v, rfl, hb11, hrow⟩
  obtain ⟨va2, vc2, rfl⟩ := owned_slice hrow
  rw [show (fC N K).fs.length = 1 from rfl]
  have H11 : Hid (DS w X10 gd (fC N K) w11) := Lib.hid (H10.out.next hb11)
  clear hb11 hrow
  go_wp2_with fail
  refine (PFree_any _ X10 gd w11 H11.out.dsk.1).mono ?_
  rintro e w12 ⟨rfl, rfl⟩
  rw [free_C N K HKN.out]
  go_wp2_with fail
  go_ret
  exact ⟨rfl, H11.out.below⟩
end Go.Proofs.Ytgiipkmkmomofaa.M
