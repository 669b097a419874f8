/- The document: an entry's row. Segments by their sizes, as plain lists. Segments by their sizes: one entry more. The law SegmentSizes. -/
import Derived.Test.YtbcpcopapbgcdaaGreatDoorSZ41
import Derived.Test.YtbcpcopapbgcdaaGreatDoorSZ42
import Derived.Test.YtbcpcopapbgcdaaGreatDoorSZ43
/- Part: SegDc2. -/
namespace Go.Proofs.YtbcpcopapbgcdaaGreatDoor.M
open Go.RowKit

theorem four_map5 (cs : Nat) (h : cs < 4294967296) : (four cs).map byteV = [.int .u8 ((cs : Int) / 16777216), .int .u8 ((cs : Int) / 65536 % 256), .int .u8 ((cs : Int) / 256 % 256), .int .u8 ((cs : Int) % 256)] := by
  unfold four
  simp only [List.map_cons, List.map_nil, byteV, UInt8.toNat_ofNat']
  congr 2 <;> omega

/-- Four bytes, laid as a literal. -/
theorem own_four5 {w wr : World} {cs g : Nat} (h : Below w.heap.size w wr) (hg : g = wr.heap.size) (hc : cs < 4294967296) :
    Own w (four cs) (.slice (some ⟨g, 0, none⟩) 4 4) (wr.alloc (.cells #[.int .u8 ((cs : Int) / 16777216), .int .u8 ((cs : Int) / 65536 % 256), .int .u8 ((cs : Int) / 256 % 256), .int .u8 ((cs : Int) % 256)] 5)) := by
  subst hg
  refine ⟨h.alloc h.size _, ?_⟩
  have h1 := World.ownsRow_lit wr #[.int .u8 ((cs : Int) / 16777216), .int .u8 ((cs : Int) / 65536 % 256), .int .u8 ((cs : Int) / 256 % 256), .int .u8 ((cs : Int) % 256)] 4 (base := w.heap.size) (e := 5) (size := 1) h.size (by unfold maxLen; omega) rfl
  rw [four_map5 cs hc]
  exact h1

set_option maxRecDepth 20000 in
theorem RefFour5_any (n : Nat) (w : World) (hn : n < 4294967296) : Calls Tryz.prog 70 #[.int .u32 (n : Int)] w fun e w' => ∃ u, e = .returned u ∧ Own w (four n) u w' := by
  have hni : (n : Int) < 4294967296 := by omega
  have HO := Lib.hid (own_four5 (Below.refl w.heap.size w) rfl hn)
  clear hn
  go_enter Tryz.func70, Tryz.ntmps70
  go_wp2_with fail
  go_ret
  exact ⟨_, rfl, HO.out⟩

set_option maxRecDepth 20000 in
set_option maxHeartbeats 3200000 in
theorem RefRow_any (x : En) (bv : Value) (F : Nat → Prop) (w : World) (hx : EnB x) (hb : RepB w F x.b bv) (hF : ∀ k, F k → k < w.heap.size) :
    Calls Tryz.prog 19 #[enAgg x bv] w fun e w' => ∃ u, e = .returned u ∧ Own w (sgRow x) u w' := by
  obtain ⟨xi, xt, xk, b⟩ := x
  obtain ⟨h1, h2, h3, h4⟩ := hx
  simp only at h1 h2 h3 h4 hb
  obtain ⟨i, rfl⟩ := Int.eq_ofNat_of_zero_le (show 0 ≤ xi by omega)
  obtain ⟨t, rfl⟩ := Int.eq_ofNat_of_zero_le (show 0 ≤ xt by omega)
  obtain ⟨k, rfl⟩ := Int.eq_ofNat_of_zero_le (show 0 ≤ xk by omega)
  have HSN : Hid (sgForm ⟨(i : Int), (t : Int), (k : Int), b⟩ = num i ++ (num t ++ (num k ++ (num b.length ++ b)))) := Lib.hid rfl
  unfold enAgg sgRow
  simp only
  obtain ⟨ba, bc, rfl, hbz⟩ := hb.slice
  obtain ⟨bn, hbn⟩ : ∃ n, n = b.length := ⟨_, rfl⟩
  rw [← hbn] at hb HSN h4 ⊢
  have HBN := Lib.hid hbn
  have hit : (i : Int) < 10000000000 := by omega
  have htt : (t : Int) < 10000000000 := by omega
  have hkt : (k : Int) ≤ 255 := by omega
  have hbt : (bn : Int) ≤ 1048576 := by omega
  have HI : Hid (i < 18446744073709551616) := Lib.hid (by omega)
  have HT : Hid (t < 18446744073709551616) := Lib.hid (by omega)
  have HK : Hid (k < 18446744073709551616) := Lib.hid (by omega)
  have HBB : Hid (bn ≤ 1048576) := Lib.hid h4
  obtain ⟨W, hW⟩ : ∃ W, W = w.alloc (.cells #[.int .i64 (i : Int), .int .i64 (t : Int), .int .i64 (k : Int), .slice ba bn bc] 36) := ⟨_, rfl⟩
  have HB : Hid (Below w.heap.size w W) := Lib.hid (by rw [hW]; exact below_alloc _ _)
  obtain ⟨g, hg⟩ : ∃ g, g = w.heap.size := ⟨_, rfl⟩
  have HC : Hid (∀ w' : World, Below W.heap.size W w' → w'.cell? ⟨g, 0, none⟩ = some (.int .i64 (i : Int)) ∧ w'.cell? ⟨g, 1, none⟩ = some (.int .i64 (t : Int)) ∧ w'.cell? ⟨g, 2, none⟩ = some (.int .i64 (k : Int)) ∧ w'.cell? ⟨g, 3, none⟩ = some (.slice ba bn bc) ∧ g < w'.heap.size) := Lib.hid fun w' hb => by
    have h0 : W.heap[g]? = some (.cells #[.int .i64 (i : Int), .int .i64 (t : Int), .int .i64 (k : Int), .slice ba bn bc] 36) := by rw [hW, hg]; exact heap_new _ _ _ rfl
    obtain ⟨c0, c1, c2, c3, cz⟩ := four_cells ((hb.block g (lt_of_heap h0)).trans h0)
    exact ⟨c0, c1, c2, c3, cz⟩
  have HRB : Hid (∀ w' : World, Below w.heap.size w w' → RepB w' (fun _ => True) b (.slice ba bn bc)) := Lib.hid fun w' hb' => hb.same (fun _ _ => trivial) fun k hk => hb'.block k (hF k hk)
  have HG := Lib.hid hg
  have HW := Lib.hid hW
  clear hg hW hb hF hbn hbz h1 h2 h3 h4
  go_enter Tryz.func19, Tryz.ntmps19
  go_wp2_with fail
  rw [← HG.out, ← HW.out]
  obtain ⟨e0, e1, e2, e3, ez⟩ := HC.out W (Below.refl _ W)
  go_wp2_with fail
  refine (Number_any i W (Lib.hid HI.out)).mono ?_
  rintro e w0a ⟨v0, rfl, h0⟩
  have H0 : Hid (Own W (num i) v0 w0a) := Lib.hid h0
  obtain ⟨a0, k0, rfl⟩ := H0.out.slice
  have P0 : Hid (Own W [] (.slice none 0 0) w0a) := Lib.hid (Own.bare h0.1)
  clear h0 e0 e1 e2 e3 ez
  go_wp2_with (at_builtin; refine wpList_own_append (w := W) (L := []) (L2 := num i) rfl (.tmp 5) (.tmp 9) rfl rfl rfl P0.out rfl H0.out.rep (by have := num_le i; simp; omega) ?_)
  intro x0 w0b g0
  obtain ⟨L0, hL0⟩ : ∃ L, L = num i := ⟨_, rfl⟩
  rw [← hL0] at g0
  have O0 : Hid (Own W L0 x0 w0b) := Lib.hid g0
  have HL0 := Lib.hid hL0
  have HZ0 : Hid (L0.length ≤ 1000) := Lib.hid (by rw [hL0]; have := num_le i; simp; omega)
  obtain ⟨b0, l0, rfl⟩ := O0.out.slice
  obtain ⟨e0, e1, e2, e3, ez⟩ := HC.out w0b O0.out.1
  clear g0 hL0
  go_wp2_with fail
  refine (Number_any t w0b (Lib.hid HT.out)).mono ?_
  rintro e w1a ⟨v1, rfl, h1⟩
  have H1 : Hid (Own w0b (num t) v1 w1a) := Lib.hid h1
  obtain ⟨a1, k1, rfl⟩ := H1.out.slice
  have P1 : Hid (Own W L0 (.slice b0 L0.length l0) w1a) := Lib.hid (O0.out.next h1.1)
  clear h1 e0 e1 e2 e3 ez
  go_wp2_with (at_builtin; refine wpList_own_append (w := W) (L := L0) (L2 := num t) rfl (.tmp 11) (.tmp 15) rfl rfl rfl P1.out rfl H1.out.rep (by have := num_le t; have := HZ0.out; simp; omega) ?_)
  intro x1 w1b g1
  obtain ⟨L1, hL1⟩ : ∃ L, L = L0 ++ num t := ⟨_, rfl⟩
  rw [← hL1] at g1
  have O1 : Hid (Own W L1 x1 w1b) := Lib.hid g1
  have HL1 := Lib.hid hL1
  have HZ1 : Hid (L1.length ≤ 2000) := Lib.hid (by rw [hL1, List.length_append]; have := num_le t; have := HZ0.out; simp; omega)
  obtain ⟨b1, l1, rfl⟩ := O1.out.slice
  obtain ⟨e0, e1, e2, e3, ez⟩ := HC.out w1b O1.out.1
  clear g1 hL1
  go_wp2_with fail
  refine (Number_any k w1b (Lib.hid HK.out)).mono ?_
  rintro e w2a ⟨v2, rfl, h2⟩
  have H2 : Hid (Own w1b (num k) v2 w2a) := Lib.hid h2
  obtain ⟨a2, k2, rfl⟩ := H2.out.slice
  have P2 : Hid (Own W L1 (.slice b1 L1.length l1) w2a) := Lib.hid (O1.out.next h2.1)
  clear h2 e0 e1 e2 e3 ez
  go_wp2_with (at_builtin; refine wpList_own_append (w := W) (L := L1) (L2 := num k) rfl (.tmp 17) (.tmp 21) rfl rfl rfl P2.out rfl H2.out.rep (by have := num_le k; have := HZ1.out; simp; omega) ?_)
  intro x2 w2b g2
  obtain ⟨L2, hL2⟩ : ∃ L, L = L1 ++ num k := ⟨_, rfl⟩
  rw [← hL2] at g2
  have O2 : Hid (Own W L2 x2 w2b) := Lib.hid g2
  have HL2 := Lib.hid hL2
  have HZ2 : Hid (L2.length ≤ 3000) := Lib.hid (by rw [hL2, List.length_append]; have := num_le k; have := HZ1.out; simp; omega)
  obtain ⟨b2, l2, rfl⟩ := O2.out.slice
  obtain ⟨e0, e1, e2, e3, ez⟩ := HC.out w2b O2.out.1
  clear g2 hL2
  go_wp2_with fail
  refine (Number_any bn w2b (Lib.hid (by have := HBB.out; omega))).mono ?_
  rintro e w3a ⟨v3, rfl, h3⟩
  have H3 : Hid (Own w2b (num bn) v3 w3a) := Lib.hid h3
  obtain ⟨a3, k3, rfl⟩ := H3.out.slice
  have P3 : Hid (Own W L2 (.slice b2 L2.length l2) w3a) := Lib.hid (O2.out.next h3.1)
  clear h3 e0 e1 e2 e3 ez
  go_wp2_with (at_builtin; refine wpList_own_append (w := W) (L := L2) (L2 := num bn) rfl (.tmp 23) (.tmp 28) rfl rfl rfl P3.out rfl H3.out.rep (by have := num_le bn; have := HZ2.out; simp; omega) ?_)
  intro x3 w3b g3
  obtain ⟨L3, hL3⟩ : ∃ L, L = L2 ++ num bn := ⟨_, rfl⟩
  rw [← hL3] at g3
  have O3 : Hid (Own W L3 x3 w3b) := Lib.hid g3
  have HL3 := Lib.hid hL3
  have HZ3 : Hid (L3.length ≤ 4000) := Lib.hid (by rw [hL3, List.length_append]; have := num_le bn; have := HZ2.out; simp; omega)
  obtain ⟨b3, l3, rfl⟩ := O3.out.slice
  obtain ⟨e0, e1, e2, e3, ez⟩ := HC.out w3b O3.out.1
  clear g3 hL3
  go_wp2_with (at_builtin; refine wpList_own_append (w := W) (L := L3) (L2 := b) rfl (.tmp 30) (.tmp 32) rfl rfl rfl O3.out rfl (HRB.out _ (HB.out.trans (O3.out.1.mono HB.out.size))) (by have := HZ3.out; have := HBN.out; have := HBB.out; omega) ?_)
  intro x4 w4b g4
  obtain ⟨L4, hL4⟩ : ∃ L, L = L3 ++ b := ⟨_, rfl⟩
  rw [← hL4] at g4
  have O4 : Hid (Own W L4 x4 w4b) := Lib.hid g4
  have HL4 := Lib.hid hL4
  have HZ4 : Hid (L4.length ≤ 2000000) := Lib.hid (by rw [hL4, List.length_append]; have := HZ3.out; have := HBN.out; have := HBB.out; simp; omega)
  obtain ⟨b4, l4, rfl⟩ := O4.out.slice
  clear g4 hL4 e0 e1 e2 e3 ez
  have HLL : Hid (sgForm ⟨(i : Int), (t : Int), (k : Int), b⟩ = L4) := Lib.hid (by
    rw [HSN.out, HL4.out, HL3.out, HL2.out, HL1.out, HL0.out]
    simp only [List.nil_append, List.append_assoc])
  obtain ⟨n4, hn4⟩ : ∃ n, n = L4.length := ⟨_, rfl⟩
  have HN4 := Lib.hid hn4
  have hn4i : (n4 : Int) ≤ 2000000 := by have := HZ4.out; omega
  have HN4B : Hid (n4 < 4294967296) := Lib.hid (by have := HZ4.out; omega)
  rw [← hn4]
  clear hn4
  go_wp2_with fail
  refine (RefFour5_any n4 w4b HN4B.out).mono ?_
  rintro e w5a ⟨v5, rfl, h5⟩
  have H5 : Hid (Own w4b (four n4) v5 w5a) := Lib.hid h5
  obtain ⟨a5, k5, hv5⟩ := H5.out.slice
  rw [four_length] at hv5
  subst hv5
  have O4' : Hid (RepB w5a (fun _ => True) L4 (.slice b4 n4 l4)) := Lib.hid (by rw [HN4.out]; exact (O4.out.next h5.1).rep.weak fun _ _ => trivial)
  clear h5
  go_wp2_with (at_builtin; refine wpList_own_append (w := w4b) (L := four n4) (L2 := L4) rfl (.tmp 37) (.tmp 38) rfl rfl rfl H5.out rfl O4'.out (by have := HZ4.out; rw [four_length]; omega) ?_)
  intro x6 w6 g6
  obtain ⟨L6, hL6⟩ : ∃ L, L = four n4 ++ L4 := ⟨_, rfl⟩
  rw [← hL6] at g6
  have O6 : Hid (Own w4b L6 x6 w6) := Lib.hid g6
  have HL6 := Lib.hid hL6
  have HZ6 : Hid (L6.length ≤ 3000000) := Lib.hid (by rw [hL6, List.length_append, four_length]; have := HZ4.out; omega)
  obtain ⟨b6, l6, rfl⟩ := O6.out.slice
  clear g6 hL6
  go_wp2_with fail
  refine (RefOf_any L6 _ _ w6 O6.out.rep).mono ?_
  rintro e w7 ⟨rfl, rfl⟩
  have hcs : C.sumOf L6 < 4294967296 := C.sumOf_lt L6
  obtain ⟨cs, hcs2⟩ : ∃ cs, cs = C.sumOf L6 := ⟨_, rfl⟩
  rw [← hcs2] at hcs ⊢
  have HCS := Lib.hid hcs2
  have HCB := Lib.hid hcs
  have hcsi : (cs : Int) < 4294967296 := by omega
  clear hcs2 hcs
  go_wp2_with fail
  refine (RefFour5_any cs w6 HCB.out).mono ?_
  rintro e w8 ⟨v8, rfl, h8⟩
  have H8 : Hid (Own w6 (four cs) v8 w8) := Lib.hid h8
  obtain ⟨a8, k8, hv8⟩ := H8.out.slice
  rw [four_length] at hv8
  subst hv8
  have O6' : Hid (RepB w8 (fun _ => True) L6 (.slice b6 L6.length l6)) := Lib.hid ((O6.out.next h8.1).rep.weak fun _ _ => trivial)
  clear h8
  go_wp2_with (at_builtin; refine wpList_own_append (w := w6) (L := four cs) (L2 := L6) rfl (.tmp 42) (.tmp 43) rfl rfl rfl H8.out rfl O6'.out (by have := HZ6.out; rw [four_length]; omega) ?_)
  intro x9 w9 g9
  have H9 : Hid (Own w (four (C.sumOf (four (sgForm ⟨(i : Int), (t : Int), (k : Int), b⟩).length ++ sgForm ⟨(i : Int), (t : Int), (k : Int), b⟩)) ++ (four (sgForm ⟨(i : Int), (t : Int), (k : Int), b⟩).length ++ sgForm ⟨(i : Int), (t : Int), (k : Int), b⟩)) x9 w9) := Lib.hid (by
    rw [HLL.out, ← HN4.out, ← HL6.out, ← HCS.out]
    exact g9.base (HB.out.trans ((O4.out.1.trans (O6.out.1.mono O4.out.1.size)).mono HB.out.size)))
  clear g9
  go_wp2_with fail
  go_ret
  exact ⟨_, rfl, H9.out⟩
end Go.Proofs.YtbcpcopapbgcdaaGreatDoor.M

/- Part: SegSzP. -/
namespace Go.Proofs.YtbcpcopapbgcdaaGreatDoor.M
open Go.RowKit
open D (Fl Dk)

theorem dg_less : ∀ (k m n : Nat), m % 10 ^ k < n % 10 ^ k → dg k m < dg k n
  | 0, m, n, h => by simp [Nat.mod_one] at h
  | k + 1, m, n, h => by
    rw [dg_front5, dg_front5, List.cons_lt_cons_iff]
    rw [Nat.mod_pow_succ, Nat.mod_pow_succ] at h
    have hp : 0 < 10 ^ k := Nat.pow_pos (by omega)
    have hm := Nat.mod_lt m hp
    have hn := Nat.mod_lt n hp
    have dm : m / 10 ^ k % 10 < 10 := Nat.mod_lt _ (by omega)
    have dn : n / 10 ^ k % 10 < 10 := Nat.mod_lt _ (by omega)
    generalize m / 10 ^ k % 10 = a at *
    generalize n / 10 ^ k % 10 = b at *
    rcases Nat.lt_trichotomy a b with hl | rfl | hl
    · left
      rw [UInt8.lt_iff_toNat_lt, UInt8.toNat_ofNat', UInt8.toNat_ofNat']
      omega
    · exact .inr ⟨rfl, dg_less k m n (by omega)⟩
    · have h1 : 10 ^ k * (b + 1) ≤ 10 ^ k * a := Nat.mul_le_mul_left _ hl
      rw [Nat.mul_add, Nat.mul_one] at h1
      omega

theorem sgName_data (i : Int) : (sgName i).data.toList = [115, 101, 103, 45] ++ dg 10 i.toNat := by unfold sgName; simp

theorem sgName_list (i : Int) : (sgName i).toList = [115, 101, 103, 45] ++ dg 10 i.toNat := by
  rw [ByteArray.toList_eq]
  exact sgName_data i

theorem sgName_less {i j : Nat} (h : i < j) (hj : j < 10000000000) : (sgName (i : Int)).toList < (sgName (j : Int)).toList := by
  rw [sgName_list, sgName_list, Int.toNat_natCast, Int.toNat_natCast]
  have h1 : dg 10 i < dg 10 j := dg_less 10 i j (by rw [Nat.mod_eq_of_lt (by omega), Nat.mod_eq_of_lt (by omega)]; exact h)
  simp only [List.cons_append, List.nil_append, List.cons_lt_cons_iff]
  simp [h1]

theorem sgName_ok (i : Int) : D.okName (sgName i) = true := by
  have hs : (sgName i).size = 14 := by
    have := congrArg List.length (sgName_data i)
    rw [List.length_append, dg_length] at this
    show (sgName i).data.size = 14
    simpa using this
  unfold D.okName
  rw [sgName_data, hs, List.all_append, Bool.and_eq_true, Bool.and_eq_true]
  refine ⟨⟨by decide +kernel, ?_⟩, by decide⟩
  rw [List.all_eq_true]
  intro c hc
  obtain ⟨k, hk, rfl⟩ := List.mem_iff_getElem.1 hc
  rw [dg_length] at hk
  have h1 := dg_get 10 i.toNat k hk
  rw [List.getElem?_eq_getElem (by rw [dg_length]; exact hk), Option.some.injEq] at h1
  rw [h1]
  have : ∀ d : Fin 10, D.okByte (UInt8.ofNat (48 + d.1)) = true := by decide +kernel
  exact this ⟨i.toNat / 10 ^ (10 - 1 - k) % 10, Nat.mod_lt _ (by omega)⟩

/-- What a disk's files look like from outside. -/
def shp (fs : List Fl) : List (ByteArray × Nat) := fs.map fun f => (f.nm, f.b.length)

theorem findIdx_snoc {α : Type} {p : α → Bool} {x : α} : ∀ (A : List α), (∀ a ∈ A, p a = false) → p x = true → (A ++ [x]).findIdx p = A.length
  | [], _, hx => by simp [List.findIdx_cons, hx]
  | a :: A, hA, hx => by
    have ih := findIdx_snoc A (fun b hb => hA b (List.mem_cons_of_mem _ hb)) hx
    rw [List.cons_append, List.findIdx_cons, hA a (by simp), ih]
    rfl

theorem findIdx_none {α : Type} {p : α → Bool} : ∀ (A : List α), (∀ a ∈ A, p a = false) → A.findIdx p = A.length
  | [], _ => rfl
  | a :: A, hA => by
    rw [List.findIdx_cons, hA a (by simp), findIdx_none A (fun b hb => hA b (List.mem_cons_of_mem _ hb))]
    rfl

theorem modify_snoc {α : Type} (A : List α) (x : α) (g : α → α) : (A ++ [x]).modify A.length g = A ++ [g x] := by
  induction A with
  | nil => rfl
  | cons a A ih => simp only [List.cons_append, List.length_cons, List.modify_succ_cons, ih]

theorem append_new {d : Dk} {s : ByteArray} {L : List UInt8} (he : d.ends = false) (hs : D.okName s = true) (hr : (L.length : Int) ≤ d.free) (hl : d.fs.length < 4096) (hlt : ∀ f ∈ d.fs, f.nm.toList < s.toList) :
    (D.append d s [L]).1 = 0 ∧ (D.append d s [L]).2.ends = false ∧ (D.append d s [L]).2.room = d.room ∧ shp (D.append d s [L]).2.fs = shp d.fs ++ [(s, L.length)] := by
  have hst : d.stopped = false := by unfold D.Dk.stopped; rw [he]; rfl
  have htk : d.tick = d := by unfold D.Dk.tick; rw [if_neg (by simp [he])]
  have hfn : ∀ f ∈ d.fs, (f.nm.toList == s.toList) = false := fun f hf => beq_eq_false_iff_ne.2 fun e => by
    have := hlt f hf
    rw [e] at this
    exact List.lt_irrefl _ this
  have hth : D.isThere d.fs s = false := by
    unfold D.isThere D.find
    rw [findIdx_none _ hfn]
    simp
  have hpl : D.place d.fs s = d.fs.length := by
    unfold D.place
    refine findIdx_none _ fun f hf => ?_
    rw [bytesLess_eq, decide_eq_true (hlt f hf)]
    rfl
  unfold D.append
  simp only [hst, htk, hs, hth]
  rw [if_neg (by simp), if_neg (by simp), if_neg (by simp; omega)]
  simp only [Bool.false_eq_true, if_false, List.flatten_cons, List.flatten_nil, List.append_nil]
  refine ⟨by simp, he, by simp, ?_⟩
  unfold D.add D.layAt
  simp only [hpl, List.take_length, List.drop_length]
  have hfd : D.find (d.fs ++ [⟨s, [], 0⟩]) s = d.fs.length := by
    unfold D.find
    exact findIdx_snoc _ hfn (by simp)
  rw [hfd, modify_snoc]
  unfold shp
  simp

theorem append_last {d : Dk} {s : ByteArray} {L : List UInt8} {A : List Fl} {f : Fl} (he : d.ends = false) (hs : D.okName s = true) (hr : (L.length : Int) ≤ d.free) (hfs : d.fs = A ++ [f]) (hnm : f.nm = s) (hlt : ∀ a ∈ A, a.nm.toList < s.toList) :
    (D.append d s [L]).1 = 0 ∧ (D.append d s [L]).2.ends = false ∧ (D.append d s [L]).2.room = d.room ∧ shp (D.append d s [L]).2.fs = shp A ++ [(s, f.b.length + L.length)] := by
  have hst : d.stopped = false := by unfold D.Dk.stopped; rw [he]; rfl
  have htk : d.tick = d := by unfold D.Dk.tick; rw [if_neg (by simp [he])]
  have hfn : ∀ a ∈ A, (a.nm.toList == s.toList) = false := fun a ha => beq_eq_false_iff_ne.2 fun e => by
    have := hlt a ha
    rw [e] at this
    exact List.lt_irrefl _ this
  have hfd : D.find d.fs s = A.length := by
    unfold D.find
    rw [hfs]
    exact findIdx_snoc _ hfn (by rw [hnm]; simp)
  have hth : D.isThere d.fs s = true := by
    unfold D.isThere
    rw [hfd, hfs]
    simp
  unfold D.append
  simp only [hst, htk, hs, hth]
  rw [if_neg (by simp), if_neg (by simp), if_neg (by simp; omega)]
  simp only [if_true, List.flatten_cons, List.flatten_nil, List.append_nil]
  refine ⟨by simp, he, by simp, ?_⟩
  unfold D.layAt
  rw [hfd, hfs, modify_snoc]
  unfold shp
  simp [hnm]

/-- How many bytes the first rows have. -/
def pre (R : Nat → Nat) : Nat → Nat
  | 0 => 0
  | k + 1 => pre R k + R k

theorem pre_le (R : Nat → Nat) {a b : Nat} (h : a ≤ b) : pre R a ≤ pre R b := by
  obtain ⟨c, rfl⟩ := Nat.exists_eq_add_of_le h
  induction c with
  | zero => exact Nat.le_refl _
  | succ c ih => exact Nat.le_trans (ih (by omega)) (Nat.le_add_right _ _)

theorem pre_lt {R : Nat → Nat} (hR : ∀ i, 1 ≤ R i) {a b : Nat} (h : a < b) : pre R a < pre R b :=
  Nat.lt_of_lt_of_le (Nat.lt_of_lt_of_le (Nat.lt_succ_self _) (Nat.add_le_add_left (hR a) _)) (pre_le R (show a + 1 ≤ b from h))

/-- Segments: where each begins and ends. -/
def Cov (R : Nat → Nat) (n : Nat) : Nat → List (Nat × Nat) → Nat → Prop
  | a, [], k => a = k
  | a, p :: ps, k => p.1 = a ∧ a < p.2 ∧ (∀ t, a < t → t < p.2 → pre R t < pre R a + n) ∧ (ps ≠ [] → pre R a + n ≤ pre R p.2) ∧ Cov R n p.2 ps k

theorem Cov.le {R : Nat → Nat} {n : Nat} : ∀ {ps : List (Nat × Nat)} {a k : Nat}, Cov R n a ps k → a ≤ k
  | [], _, _, h => Nat.le_of_eq h
  | _ :: _, _, _, h => Nat.le_trans (Nat.le_of_lt h.2.1) (Cov.le h.2.2.2.2)

theorem Cov.new {R : Nat → Nat} {n k : Nat} : ∀ {ps : List (Nat × Nat)} {a : Nat}, Cov R n a ps k → (∀ p, ps.getLast? = some p → pre R p.1 + n ≤ pre R k) → Cov R n a (ps ++ [(k, k + 1)]) (k + 1)
  | [], a, h, _ => by
    obtain rfl : a = k := h
    exact ⟨rfl, Nat.lt_succ_self _, fun t h1 h2 => by simp only at h2; omega, fun h => absurd rfl h, rfl⟩
  | p :: ps, a, h, hl => by
    refine ⟨h.1, h.2.1, h.2.2.1, fun _ => ?_, Cov.new h.2.2.2.2 fun q hq => hl q ?_⟩
    · cases ps with
      | nil =>
        have h1 := hl p rfl
        have h2 : p.2 = k := h.2.2.2.2
        rw [h2, ← h.1]
        exact h1
      | cons q r => exact h.2.2.2.1 (by simp)
    · cases ps with
      | nil => cases hq
      | cons q r => rw [List.getLast?_cons_cons]; exact hq

theorem Cov.more {R : Nat → Nat} {n k b : Nat} : ∀ {ps : List (Nat × Nat)} {a : Nat}, Cov R n a (ps ++ [(b, k)]) k → pre R k < pre R b + n → Cov R n a (ps ++ [(b, k + 1)]) (k + 1)
  | [], a, h, hl => by
    obtain ⟨rfl, h2, h3, -, -⟩ := h
    refine ⟨rfl, by simp only at h2 ⊢; omega, fun t h4 h5 => ?_, fun h => absurd rfl h, rfl⟩
    simp only at h3 h5
    by_cases ht : t = k
    · rw [ht]; exact hl
    · exact h3 t h4 (by omega)
  | p :: ps, a, h, hl => ⟨h.1, h.2.1, h.2.2.1, fun _ => h.2.2.2.1 (by simp), Cov.more h.2.2.2.2 hl⟩

theorem Cov.last {R : Nat → Nat} {n k : Nat} : ∀ {ps : List (Nat × Nat)} {a : Nat} {q : Nat × Nat}, Cov R n a (ps ++ [q]) k → q.2 = k ∧ q.1 < k
  | [], _, _, h => ⟨h.2.2.2.2, by have h1 := h.2.1; have h2 := h.1; have h3 : _ = k := h.2.2.2.2; omega⟩
  | _ :: _, _, _, h => Cov.last h.2.2.2.2

theorem Cov.bound {R : Nat → Nat} {n k : Nat} : ∀ {ps : List (Nat × Nat)} {a : Nat}, Cov R n a ps k → ∀ p ∈ ps, a ≤ p.1 ∧ p.1 < p.2 ∧ p.2 ≤ k
  | [], _, _, p, hp => by cases hp
  | q :: ps, a, h, p, hp => by
    rcases List.mem_cons.1 hp with rfl | hp
    · exact ⟨by rw [h.1]; exact Nat.le_refl _, by rw [h.1]; exact h.2.1, Cov.le h.2.2.2.2⟩
    · obtain ⟨h1, h2, h3⟩ := Cov.bound h.2.2.2.2 p hp
      exact ⟨by have := h.2.1; omega, h2, h3⟩

theorem Cov.rise {R : Nat → Nat} {n k : Nat} : ∀ {ps : List (Nat × Nat)} {a : Nat} {q : Nat × Nat}, Cov R n a (ps ++ [q]) k → ∀ p ∈ ps, p.1 < q.1
  | [], _, _, _, p, hp => by cases hp
  | r :: ps, a, q, h, p, hp => by
    rcases List.mem_cons.1 hp with rfl | hp
    · have h1 := Cov.bound h.2.2.2.2 q (by simp)
      have h2 := h.2.1
      have h3 := h.1
      omega
    · exact Cov.rise h.2.2.2.2 p hp

theorem Cov.len {R : Nat → Nat} {n k : Nat} : ∀ {ps : List (Nat × Nat)} {a : Nat}, Cov R n a ps k → ps.length + a ≤ k
  | [], _, h => by have h : _ = k := h; simp; omega
  | _ :: ps, a, h => by
    have := Cov.len h.2.2.2.2
    have := h.2.1
    simp only [List.length_cons]
    omega
end Go.Proofs.YtbcpcopapbgcdaaGreatDoor.M

/- Part: SegSzQ. -/
namespace Go.Proofs.YtbcpcopapbgcdaaGreatDoor.M
open Go.RowKit
open D (Fl Dk)

def entS (b : List UInt8) (k : Nat) : En := ⟨(k : Int) + 1, 1, 0, b⟩

def fiS (R : Nat → Nat) (p : Nat × Nat) : Fi := ⟨(p.1 : Int) + 1, (p.2 : Int), ((pre R p.2 - pre R p.1 : Nat) : Int), 0, true⟩
def shS (R : Nat → Nat) (p : Nat × Nat) : ByteArray × Nat := (sgName ((p.1 + 1 : Nat) : Int), pre R p.2 - pre R p.1)

/-- A log into which the first k entries were laid, and its disk. -/
structure SzAt (R : Nat → Nat) (n k : Nat) (h : Hd) (d : Dk) : Prop where
  ex : ∃ ps, Cov R n 0 ps k ∧ h.files = ps.map (fiS R) ∧ shp d.fs = ps.map (shS R)
  lst : h.last.1 = (k : Int) ∧ h.last.2 ≤ 1
  bd : HdB k (pre R k) h
  ends : d.ends = false
  room : d.room = 1048576
  used : D.used d.fs ≤ pre R k
  well : Well d

theorem shp_length (fs : List Fl) : (shp fs).length = fs.length := by unfold shp; simp

theorem SzAt.step {R : Nat → Nat} {n k : Nat} {h : Hd} {d : Dk} {b : List UInt8} (s : SzAt R n k h d) (hk : k < 1000) (hb : b.length ≤ 500) (hR : R k = (sgRow (entS b k)).length) (hp : pre R (k + 1) ≤ 1000000) :
    (appendE (n : Int) h d [entS b k]).1 = 0 ∧ SzAt R n (k + 1) (appendE (n : Int) h d [entS b k]).2.1 (appendE (n : Int) h d [entS b k]).2.2 := by
  obtain ⟨ps, hc, hf, hs⟩ := s.ex
  have hE : EnB (entS b k) := ⟨⟨by simp [entS]; omega, by simp [entS]; omega⟩, ⟨by simp [entS], by simp [entS]⟩, ⟨by simp [entS], by simp [entS]⟩, by simp only [entS]; omega⟩
  have hfo : followE h.last [entS b k] = true := by
    simp only [followE, nextTo, Bool.and_true, decide_eq_true_eq]
    obtain ⟨l1, l2⟩ := s.lst
    refine ⟨by simp only [entS]; omega, by simp only [entS]; omega, by simp only [entS]; omega, by simp [entS], by simp [entS], by simp [entS], by simp only [entS]; omega⟩
  have hpk : pre R (k + 1) = pre R k + R k := rfl
  have hfree : ((sgRow (entS b k)).length : Int) ≤ d.free := by
    unfold D.Dk.free
    rw [s.room, ← hR]
    have := s.used
    omega
  have hsum : (([entS b k].map fun e => (sgRow e).length).sum : Nat) = (sgRow (entS b k)).length := by simp
  have happ : appendE (n : Int) h d [entS b k] = match layE (n : Int) h d (entS b k) with
    | (0, h', d') => (0, h', d')
    | r => r := by
    unfold appendE
    rw [hfo, hsum, if_neg (by simp), if_neg (by omega)]
    rfl
  have hl40 : d.fs.length = ps.length := by rw [← shp_length, hs, List.length_map]
  have hcl := Cov.len hc
  have hW := layE_used (least := (n : Int)) (h := h) (e := entS b k) s.well
  have hB := layE_B (d := d) (least := (n : Int)) s.bd hE
  -- it is enough to say what laying it leaves
  suffices hlay : (layE (n : Int) h d (entS b k)).1 = 0 ∧ (layE (n : Int) h d (entS b k)).2.1.last = ((k : Int) + 1, 1) ∧ (layE (n : Int) h d (entS b k)).2.2.ends = false ∧ (layE (n : Int) h d (entS b k)).2.2.room = 1048576 ∧
      ∃ qs, Cov R n 0 qs (k + 1) ∧ (layE (n : Int) h d (entS b k)).2.1.files = qs.map (fiS R) ∧ shp (layE (n : Int) h d (entS b k)).2.2.fs = qs.map (shS R) by
    obtain ⟨h1, h2, h3, h4, h5⟩ := hlay
    have hre : appendE (n : Int) h d [entS b k] = layE (n : Int) h d (entS b k) := by
      rw [happ]
      rcases hq : layE (n : Int) h d (entS b k) with ⟨a, b', c⟩
      rw [hq] at h1
      simp only at h1
      subst h1
      rfl
    rw [hre]
    exact ⟨h1, ⟨h5, by rw [h2]; exact ⟨by push_cast; rfl, Int.le_refl _⟩, by rw [hpk, hR]; exact hB, h3, h4, by rw [hpk, hR]; exact Nat.le_trans hW.2 (Nat.add_le_add_right s.used _), hW.1⟩⟩
  rw [layE_eq]
  have hlast : ∀ (po : Int) (fs : List Fi), ({ h with rows := h.rows ++ [⟨entS b k, po⟩], files := fs } : Hd).last = ((k : Int) + 1, 1) := fun po fs => by
    unfold Hd.last
    simp [entS]
  by_cases hold : ∃ A q, ps = A ++ [q] ∧ pre R q.2 - pre R q.1 < n
  · obtain ⟨A, q, hps, hlt⟩ := hold
    subst hps
    obtain ⟨hq2, hq1⟩ := Cov.last hc
    have hT : layTo (n : Int) h (entS b k) = (fiS R q, A.map (fiS R)) := by
      unfold layTo
      rw [hf, List.map_append, List.map_cons, List.map_nil, List.getLast?_concat]
      simp only
      rw [if_pos (by simp only [fiS]; omega), List.dropLast_concat]
    rw [hT]
    rw [List.map_append, List.map_cons, List.map_nil] at hs
    obtain ⟨A', F', hd1, hd2, hd3⟩ := List.map_eq_append_iff.1 hs
    obtain ⟨f, hF', hfv⟩ := List.map_eq_singleton_iff.1 hd3
    subst hF'
    have hn1 : f.nm = sgName ((q.1 + 1 : Nat) : Int) := by have := congrArg Prod.fst hfv; exact this
    have hn2 : f.b.length = pre R q.2 - pre R q.1 := by have := congrArg Prod.snd hfv; exact this
    have hname : sgName (fiS R q).first = sgName ((q.1 + 1 : Nat) : Int) := by simp [fiS]
    obtain ⟨a1, a2, a3, a4⟩ := append_last (s := sgName (fiS R q).first) (L := sgRow (entS b k)) s.ends (sgName_ok _) hfree hd1 (by rw [hname]; exact hn1) (fun a ha => by
      have h1 : (a.nm, a.b.length) ∈ A.map (shS R) := by rw [← hd2]; exact List.mem_map.2 ⟨a, ha, rfl⟩
      obtain ⟨p, hp1, hp2⟩ := List.mem_map.1 h1
      have h2 : a.nm = sgName ((p.1 + 1 : Nat) : Int) := by have := congrArg Prod.fst hp2; exact this.symm
      rw [h2, hname]
      have := Cov.rise hc p hp1
      exact sgName_less (by omega) (by omega))
    simp only
    rw [if_neg (fun h => h a1)]
    refine ⟨rfl, hlast _ _, a2, by rw [a3]; exact s.room, A ++ [(q.1, k + 1)], ?_, ?_, ?_⟩
    · have hq : q = (q.1, k) := by rw [← hq2]
      rw [hq] at hc
      exact hc.more (by rw [← hq2]; have := pre_le R (Nat.le_of_lt (show q.1 < q.2 by omega)); omega)
    · rw [List.map_append, List.map_cons, List.map_nil]
      have hz : ((pre R q.2 - pre R q.1 : Nat) : Int) + ((sgRow (entS b k)).length : Int) = ((pre R (k + 1) - pre R q.1 : Nat) : Int) := by
        rw [← hR, hq2]
        have := pre_le R (Nat.le_of_lt hq1)
        rw [hpk]
        omega
      simp only [fiS]
      rw [hz]
      rfl
    · rw [a4, List.map_append, List.map_cons, List.map_nil, show shp A' = A.map (shS R) from hd2]
      congr 1
      simp only [shS, List.cons.injEq, Prod.mk.injEq, and_true]
      refine ⟨hname, ?_⟩
      rw [hn2, ← hR, hq2, hpk]
      have := pre_le R (Nat.le_of_lt hq1)
      omega
  · have hT : layTo (n : Int) h (entS b k) = (⟨(entS b k).idx, 0, 0, 0, false⟩, h.files) := by
      unfold layTo
      rcases List.eq_nil_or_concat ps with rfl | ⟨A, q, rfl⟩
      · rw [hf]; rfl
      · rw [List.concat_eq_append] at hf hold
        have hnl : ¬ ((fiS R q).size < (n : Int)) := fun hlt => hold ⟨A, q, rfl, by simp only [fiS] at hlt; omega⟩
        rw [hf, List.map_append, List.map_cons, List.map_nil, List.getLast?_concat]
        simp only
        rw [if_neg hnl]
    rw [hT]
    have hname : sgName (entS b k).idx = sgName ((k + 1 : Nat) : Int) := by simp [entS]
    obtain ⟨a1, a2, a3, a4⟩ := append_new (s := sgName (entS b k).idx) (L := sgRow (entS b k)) s.ends (sgName_ok _) hfree (by omega) (fun a ha => by
      have h1 : (a.nm, a.b.length) ∈ ps.map (shS R) := by rw [← hs]; exact List.mem_map.2 ⟨a, ha, rfl⟩
      obtain ⟨p, hp1, hp2⟩ := List.mem_map.1 h1
      have h2 : a.nm = sgName ((p.1 + 1 : Nat) : Int) := by have := congrArg Prod.fst hp2; exact this.symm
      rw [h2, hname]
      have := Cov.bound hc p hp1
      exact sgName_less (by omega) (by omega))
    simp only
    rw [if_neg (fun h => h a1)]
    refine ⟨rfl, hlast _ _, a2, by rw [a3]; exact s.room, ps ++ [(k, k + 1)], ?_, ?_, ?_⟩
    · refine hc.new fun p hp => ?_
      rcases List.eq_nil_or_concat ps with rfl | ⟨A, q, rfl⟩
      · cases hp
      · rw [List.concat_eq_append] at hp hold hc
        rw [List.getLast?_concat] at hp
        obtain rfl : q = p := Option.some.inj hp
        obtain ⟨hq2, hq1⟩ := Cov.last hc
        have h1 : ¬ (pre R q.2 - pre R q.1 < n) := fun hlt => hold ⟨A, q, rfl, hlt⟩
        rw [hq2] at h1
        have := pre_le R (Nat.le_of_lt hq1)
        omega
    · rw [List.map_append, List.map_cons, List.map_nil, hf]
      have hz : (0 : Int) + ((sgRow (entS b k)).length : Int) = ((pre R (k + 1) - pre R k : Nat) : Int) := by
        rw [← hR, hpk]
        omega
      simp only [fiS]
      rw [hz]
      rfl
    · rw [a4, List.map_append, List.map_cons, List.map_nil, hs]
      congr 1
      simp only [shS, List.cons.injEq, Prod.mk.injEq, and_true]
      refine ⟨hname, ?_⟩
      rw [← hR, hpk]
      omega
end Go.Proofs.YtbcpcopapbgcdaaGreatDoor.M

/- Part: LawSgSizes. -/
namespace Go.Proofs.YtbcpcopapbgcdaaGreatDoor.M
open Go.RowKit Go.Maps
open D (Fl Dk)

theorem infoInt5 : (Tryz.prog.info? 3).map (fun i => (i.zero, i.size, i.bytes)) = some (some (.int .i64 0), 1, 8) := by kernel_rfl

theorem yields_int5 {w : World} {x : Int} {t : TypeId} {g : Nat} (hg : g = w.heap.size) : Yields (w.alloc (.cells #[.int .i64 x] t)) (.slice (some ⟨g, 0, none⟩) 1 1) 1 1 [.int .i64 x] := by
  subst hg
  refine ⟨rfl, fun u hu => by simp at hu; subst hu; rfl, .inr ⟨_, _, rfl, fun j u hj => ?_⟩⟩
  cases j with
  | zero => simp at hj; subst hj; simp [go_sem, heap_alloc_new]
  | succ j => simp at hj

theorem RepEs.oneB {W : World} {F : Nat → Prop} {g : Nat} {a : En} {v : Value} {t : TypeId} (h : W.heap[g]? = some (.cells #[.int .i64 a.idx, .int .i64 a.term, .int .i64 a.kind, v] t)) (hb : RepB W F a.b v) (hi : enInt a) : RepEs W (fun k => k = g ∨ F k) [a] (.slice (some ⟨g, 0, none⟩) 1 1) :=
  .inr ⟨g, 0, 1, rfl, .inl rfl, Nat.le_refl _, by omega, fun i hi2 => by
    obtain rfl : i = 0 := by simpa using hi2
    exact ⟨hi, cell_of_row _ _ 0 _ _ _ h, cell_of_row _ _ 1 _ _ _ h, cell_of_row _ _ 2 _ _ _ h, _, cell_of_row _ _ 3 _ _ _ h, hb.weak fun _ h => .inr h⟩⟩

/-- How many bytes the row of a list's k-th body has. -/
def rowS (bs : List (List UInt8)) (k : Nat) : Nat := (sgRow (entS (bs[k]?.getD []) k)).length

theorem rowS_in (bs : List (List UInt8)) (k : Nat) : 1 ≤ rowS bs k ∧ rowS bs k ≤ 100 + (bs[k]?.getD []).length := by
  unfold rowS sgRow sgForm entS
  simp only [List.length_append, four_length]
  have h1 := num_le ((k : Int) + 1).toNat
  have h2 := num_le (1 : Int).toNat
  have h3 := num_le (0 : Int).toNat
  have h4 := num_le (bs[k]?.getD []).length
  omega

theorem mod300_at (r : Int) : ∃ n : Nat, 1 + (r.tmod 300 + 300).tmod 300 = (n : Int) ∧ 1 ≤ n ∧ n ≤ 300 ∧ -300 < r.tmod 300 ∧ r.tmod 300 < 300 ∧ 0 ≤ (r.tmod 300 + 300).tmod 300 ∧ (r.tmod 300 + 300).tmod 300 < 300 := by
  have a1 := Int.tmod_lt_of_pos r (show (0 : Int) < 300 by omega)
  have a2 : -300 < r.tmod 300 := Int.lt_tmod_of_pos r (by omega)
  generalize r.tmod 300 = x at *
  have b1 := Int.tmod_lt_of_pos (x + 300) (show (0 : Int) < 300 by omega)
  have b2 := Int.tmod_nonneg 300 (show 0 ≤ x + 300 by omega)
  exact ⟨(1 + (x + 300).tmod 300).toNat, by omega, by omega, by omega, a2, a1, b2, b1⟩

theorem SzAt.zero (R : Nat → Nat) (n : Nat) : SzAt R n 0 k0 (fresh 1048576) :=
  ⟨⟨[], rfl, rfl, rfl⟩, ⟨rfl, by decide⟩, ⟨by decide, by decide, (fun f hf => by cases hf), by decide, fun r hr => by cases hr⟩, rfl, rfl, by simp [fresh, D.used, pre], fresh_well (by omega) (by omega)⟩

/-- The rows' lengths, in the law's own memory. -/
def RowsAt (w0 : World) (X Xd : Nat → Prop) (R : Nat → Nat) (k : Nat) (v : Value) (wr : World) : Prop :=
  wr.ownsRow 0 3 1 v k ((List.range k).map fun i => .int .i64 (R i : Int)) ∧ ∀ q, v.ownBlock = some q → w0.heap.size ≤ q ∧ ¬ X q ∧ ¬ Xd q

set_option maxRecDepth 40000 in
set_option maxHeartbeats 12800000 in
theorem SegmentSizes_any (size : Int) (bs : List (List UInt8)) (F : Nat → Prop) (v1 : Value) (w : World) (hz : -9223372036854775808 ≤ size ∧ size ≤ 9223372036854775807) (hv1 : RepBl w F bs v1) (hF : ∀ k, F k → k < w.heap.size) (hT : Hid (Tab w)) (hP : Hid (Pow10 w)) :
    Calls Tryz.prog 4 #[.int .i64 size, v1] w fun e w' => e = .returned (.bool true) ∧ Below w.heap.size w w' := by
  obtain ⟨ba, bc, rfl, hbl⟩ := hv1.slice
  have HV1 := Lib.hid hv1
  have HF := Lib.hid hF
  have HA : Hid (∀ wx : World, Below w.heap.size w wx → Calls Tryz.prog 9 #[] wx fun e w' => e = .returned (.bool true) ∧ Below w.heap.size w w') := Lib.hid fun wx hb =>
    (awake5_any wx (Lib.hid (hT.out.next hb)) (Lib.hid (hP.out.next hb))).mono fun e w' h => ⟨h.1, hb.trans (h.2.mono hb.size)⟩
  clear hv1 hF
  obtain ⟨hz1, hz2⟩ := hz
  by_cases hbig : 40 < bs.length
  · have q : (40 : Int) < (bs.length : Int) := by omega
    clear hbig
    go_enter Tryz.func4, Tryz.ntmps4
    go_wp2_with fail
    refine (HA.out w (Below.refl _ _)).mono ?_
    rintro e w0 ⟨rfl, hb0⟩
    go_wp2_with fail
    refine (HA.out w0 hb0).mono ?_
    rintro e w1 ⟨rfl, hb1⟩
    go_wp2_with fail
    go_ret
    exact ⟨rfl, hb1⟩
  · have q : decide ((40 : Int) < (bs.length : Int)) = false := by simp; omega
    have H40 : Hid (bs.length ≤ 40) := Lib.hid (by omega)
    obtain ⟨n, hn, hn1, hn2, hm1, hm2, hm3, hm4⟩ := mod300_at size
    obtain ⟨x3, hx3⟩ : ∃ x, x = size.tmod 300 := ⟨_, rfl⟩
    rw [← hx3] at hn hm1 hm2 hm3 hm4
    obtain ⟨y3, hy3⟩ : ∃ y, y = (x3 + 300).tmod 300 := ⟨_, rfl⟩
    rw [← hy3] at hn hm3 hm4
    have hx3' := hx3.symm
    have hy3' := hy3.symm
    have hbli : (bs.length : Int) ≤ 40 := by omega
    clear hbig hx3 hy3
    go_enter Tryz.func4, Tryz.ntmps4
    go_wp2_with fail
    refine (HA.out w (Below.refl _ _)).mono ?_
    rintro e w0 ⟨rfl, hb0⟩
    have HB0 := Lib.hid hb0
    have HT0 : Hid (Tab w0) := Lib.hid (hT.out.next hb0)
    have HP0 : Hid (Pow10 w0) := Lib.hid (hP.out.next hb0)
    clear hb0
    go_wp2_with fail
    refine (newDisk5_any 1048576 w0 (by omega) (by omega)).mono ?_
    rintro e w1 ⟨gd, Xd1, rfl, h1⟩
    have H1 := Lib.hid h1
    clear h1 hx3' hy3'
    try rw [hn]
    have hni : 1 ≤ (n : Int) := by omega
    have hni2 : (n : Int) ≤ 300 := by omega
    clear hn hm1 hm2 hm3 hm4
    go_wp2_with fail
    refine (Open_empty NoK w0 w1 Xd1 gd (fresh 1048576) H1.out rfl (fun k o h => h.elim) 0 0 (by omega) (n : Int) hni HP0).mono ?_
    rintro e w2 ⟨g, X2, Xd2, rfl, h2⟩
    have H2 : Hid (LS NoK w0 X2 Xd2 g gd (n : Int) k0 (fresh 1048576) w2) := Lib.hid h2
    clear h2
    go_wp2_with fail
    have HS0 : Hid (SzAt (rowS bs) n 0 k0 (fresh 1048576)) := Lib.hid (SzAt.zero _ _)
    have HR0 : Hid (RowsAt w0 X2 Xd2 (rowS bs) 0 (.slice none 0 0) w2) := Lib.hid ⟨World.ownsRow_nil _ _ _ _, fun q hq => by cases hq⟩
    have HP0' : Hid (pre (rowS bs) 0 ≤ 600 * 0) := Lib.hid (Nat.zero_le _)
    obtain ⟨d0, hd0⟩ : ∃ d0, d0 = fresh 1048576 := ⟨_, rfl⟩
    rw [← hd0] at H2 HS0
    clear hd0
    go_loopw [10, 11, 12] (fun rw_ vi _ wr => ∃ (k : Nat) (h : Hd) (d : Dk) (X Xd : Nat → Prop) (ra : Option Addr) (rc : Nat), vi = .int .i64 (k : Int) ∧ rw_ = .slice ra k rc ∧ k ≤ bs.length ∧ Hid (SzAt (rowS bs) n k h d) ∧ Hid (LS NoK w0 X Xd g gd (n : Int) h d wr) ∧ Hid (RowsAt w0 X Xd (rowS bs) k (.slice ra k rc) wr) ∧ Hid (pre (rowS bs) k ≤ 600 * k)) (fun _ i _ _ => bs.length - (intOf i).toNat)
    case atStart => exact ⟨0, k0, d0, X2, Xd2, none, 0, rfl, rfl, Nat.zero_le _, HS0, H2, HR0, HP0'⟩
    case round =>
      obtain ⟨k, h, d, X, Xd, ra, rc, rfl, rfl, hk, HSZ, HLS, HRV, HP6⟩ := hrel
      have HBW : Hid (Below w.heap.size w wr) := Lib.hid (HB0.out.trans (HLS.out.below.mono HB0.out.size))
      by_cases hlt : k < bs.length
      · have hkk : (k : Int) < (bs.length : Int) := by omega
        obtain ⟨bb, boff, bu, rfl, hbF, hbc, hbr⟩ := (HV1.out.same (w' := wr) (fun _ h => h) fun j hj => HBW.out.block j (HF.out j hj)).elem k hlt
        obtain ⟨bua, buc, rfl, -⟩ := hbr.slice
        obtain ⟨B, hB⟩ : ∃ B, B = bs[k] := ⟨_, rfl⟩
        rw [← hB] at hbr hbc
        have HBR := Lib.hid hbr
        have hbz : bb < wr.heap.size := Nat.lt_of_lt_of_le (HF.out bb hbF) HBW.out.size
        by_cases h500 : 500 < B.length
        · have q3 : (500 : Int) < (B.length : Int) := by omega
          clear hbr hB
          go_wp2_with fail
          go_ret
          exact ⟨rfl, HBW.out⟩
        · have q3 : decide ((500 : Int) < (B.length : Int)) = false := by simp; omega
          have HBL : Hid (B.length ≤ 500) := Lib.hid (by omega)
          have hBi : (B.length : Int) ≤ 500 := by omega
          have hgB : (bs[k]?.getD []) = B := by rw [List.getElem?_eq_getElem hlt, ← hB]; rfl
          have HRW : Hid (rowS bs k = (sgRow (entS B k)).length) := Lib.hid (by unfold rowS; rw [hgB])
          have HR6 : Hid (rowS bs k ≤ 600) := Lib.hid (by have := (rowS_in bs k).2; rw [hgB] at this; have := HBL.out; omega)
          have HST := Lib.hid (HSZ.out.step (b := B) (by have := H40.out; omega) HBL.out HRW.out (by have h1 : pre (rowS bs) (k + 1) = pre (rowS bs) k + rowS bs k := rfl; have := HP6.out; have := HR6.out; have := H40.out; omega))
          obtain ⟨R3, hR3⟩ : ∃ R3, R3 = appendE (n : Int) h d [entS B k] := ⟨_, rfl⟩
          rw [← hR3] at HST
          have HR3 := Lib.hid hR3
          obtain ⟨W4, hW4⟩ : ∃ W4, W4 = wr.alloc (.cells #[.int .i64 ((k : Int) + 1), .int .i64 1, .int .i64 0, .slice bua B.length buc] 36) := ⟨_, rfl⟩
          obtain ⟨W5, hW5⟩ : ∃ W5, W5 = W4.alloc (.cells #[.int .i64 ((k : Int) + 1), .int .i64 1, .int .i64 0, .slice bua B.length buc] 36) := ⟨_, rfl⟩
          obtain ⟨ge, hge⟩ : ∃ ge, ge = wr.heap.size := ⟨_, rfl⟩
          obtain ⟨gs, hgs⟩ : ∃ gs, gs = wr.heap.size + 1 := ⟨_, rfl⟩
          have hz44 : W4.heap.size = wr.heap.size + 1 := by rw [hW4]; simp
          have hb4 : Below wr.heap.size wr W4 := by rw [hW4]; exact below_alloc _ _
          have hb5 : Below W4.heap.size W4 W5 := by rw [hW5]; exact below_alloc _ _
          have hb45 : Below wr.heap.size wr W5 := hb4.trans (hb5.mono hb4.size)
          have hxe : W4.heap[ge]? = some (.cells #[.int .i64 ((k : Int) + 1), .int .i64 1, .int .i64 0, .slice bua B.length buc] 36) := by rw [hW4, hge]; exact heap_new _ _ _ rfl
          have hxs : W5.heap[gs]? = some (.cells #[.int .i64 ((k : Int) + 1), .int .i64 1, .int .i64 0, .slice bua B.length buc] 36) := by rw [hW5, hgs]; exact heap_new _ _ _ hz44.symm
          have HXE := Lib.hid (old_below hxe hb5)
          have HLS5 := Lib.hid (HLS.out.next hb45).keep
          have hlow : ∀ i, i < w.heap.size → i < wr.heap.size ∧ ¬ X i ∧ ¬ Xd i := fun i hi => ⟨Nat.lt_of_lt_of_le hi HBW.out.size, fun hx => by have := HLS.out.own i hx; have := HB0.out.size; omega, fun hx => by have := HLS.out.ds.own i hx; have := HB0.out.size; omega⟩
          have HLOW := Lib.hid hlow
          have HB5 : Hid (RepB W5 (fun i => i < w.heap.size) B (.slice bua B.length buc)) := Lib.hid (hbr.same (fun i hi => HF.out i hi) fun i hi => hb45.block i (hlow i (HF.out i hi)).1)
          have hnew : ∀ i, wr.heap.size ≤ i → ¬ X i ∧ ¬ Xd i := fun i hi => ⟨fun hx => by have := HLS.out.lt hx; omega, fun hx => by have := HLS.out.ds.lt i hx; omega⟩
          have hsz45 := hb4.size
          have HAP := Lib.hid (Append_any _ w0 W5 X Xd g gd (n : Int) h d [entS B k] (.slice (some ⟨gs, 0, none⟩) 1 1) (fun i => i = gs ∨ i < w.heap.size) k (pre (rowS bs) k) HLS5.out HSZ.out.bd (by have := H40.out; simp; omega) (by simp only [List.map_cons, List.map_nil, List.sum_cons, List.sum_nil]; rw [← HRW.out]; have := HP6.out; have := HR6.out; have := H40.out; omega)
            (RepEs.oneB (a := entS B k) hxs HB5.out (by unfold enInt entS; simp only; omega)) (fun i hi => by
              rcases hi with rfl | hi
              · exact ⟨lt_of_heap hxs, hnew i (by omega)⟩
              · exact ⟨Nat.lt_of_lt_of_le (hlow i hi).1 hb45.size, (hlow i hi).2⟩)
            (by have := HSZ.out.used; simp only [List.map_cons, List.map_nil, List.sum_cons, List.sum_nil]; rw [← HRW.out]; have := HP6.out; have := HR6.out; have := H40.out; omega) HT0 HP0)
          rw [← hR3, HST.out.1] at HAP
          have HW4 := Lib.hid hW4
          have HW5 := Lib.hid hW5
          have Hge := Lib.hid hge
          have Hgs := Lib.hid hgs
          have HNW := Lib.hid hnew
          have HZ45 : Hid (wr.heap.size ≤ ge ∧ ge < W5.heap.size ∧ wr.heap.size ≤ W5.heap.size) := Lib.hid ⟨by omega, lt_of_heap HXE.out, hb45.size⟩
          have HRV5 : Hid (∀ q, (Value.slice ra k rc).ownBlock = some q → ∃ o, W5.heap[q]? = some o ∧ ¬ X q ∧ ¬ Xd q ∧ wr.heap[q]? = W5.heap[q]?) := Lib.hid fun q hq => by
            have h1 := (HRV.out.1.lt q hq).2
            obtain ⟨h2, h3, h4⟩ := HRV.out.2 q hq
            exact ⟨_, Array.getElem?_eq_getElem (Nat.lt_of_lt_of_le h1 hb45.size), h3, h4, (hb45.block q h1).symm⟩
          obtain ⟨e0, e1, e2, e3, ez⟩ := four_cells hxe
          clear hb4 hb5 hb45 hxe hxs hW4 hW5 hlow hnew hbr hge hgs hR3 hB hgB h500 hsz45 hbF hz44
          go_wp2_with fail
          rw [← HW4.out, ← HW5.out, ← Hgs.out, ← Hge.out]
          refine HAP.out.mono ?_
          rintro e w6 ⟨rfl, X', Xd', h6⟩
          have HL6 := Lib.hid h6
          have hxe6 := (h6.kp ge _ ⟨HXE.out, HNW.out ge HZ45.out.1⟩).1
          obtain ⟨e0, e1, e2, e3, ez⟩ := four_cells hxe6
          have HB6 : Hid (RepB w6 (fun i => i < w.heap.size) B (.slice bua B.length buc)) := Lib.hid (HBR.out.same (fun i hi => HF.out i hi) fun i hi => by
            have h0 : i < w0.heap.size := Nat.lt_of_lt_of_le (HF.out i hi) HB0.out.size
            exact (h6.below.block i h0).trans (HLS.out.below.block i h0).symm)
          have HZ6 : Hid (w.heap.size ≤ w6.heap.size) := Lib.hid (Nat.le_trans HB0.out.size h6.below.size)
          have HRO := Lib.hid (RefRow_any (entS B k) (.slice bua B.length buc) (fun i => i < w.heap.size) w6 ⟨⟨by simp only [entS]; omega, by simp only [entS]; omega⟩, ⟨by simp [entS], by simp [entS]⟩, ⟨by simp [entS], by simp [entS]⟩, by simp only [entS]; have := HBL.out; omega⟩ HB6.out (fun i hi => Nat.lt_of_lt_of_le hi HZ6.out))
          unfold enAgg at HRO
          simp only [entS] at HRO
          clear h6 hxe6
          go_wp2_with fail
          refine HRO.out.mono ?_
          rintro e w7 ⟨u, rfl, hown⟩
          have hb7 := hown.1
          obtain ⟨ua, uc, rfl⟩ := hown.slice
          obtain ⟨rn, hrn⟩ : ∃ rn, rn = rowS bs k := ⟨_, rfl⟩
          have hln : (sgRow ⟨(k : Int) + 1, 1, 0, B⟩).length = rn := by rw [hrn]; exact HRW.out.symm
          rw [hln]
          have HRN := Lib.hid hrn
          have hrni : (rn : Int) ≤ 600 := by have := HR6.out; omega
          have HRV7 : Hid ((w7.alloc (.cells #[.int .i64 (rn : Int)] 3)).ownsRow 0 3 1 (.slice ra k rc) k ((List.range k).map fun i => .int .i64 (rowS bs i : Int))) := Lib.hid (ownsRow_same HRV.out.1 fun q hq => by
            obtain ⟨o, h1, h2, h3, h4⟩ := HRV5.out q hq
            have h5 := (HL6.out.kp q o ⟨h1, h2, h3⟩).1
            rw [h4, h1]
            exact old_alloc (old_below h5 hb7))
          have HL7 : Hid (LS NoK w0 X' Xd' g gd (n : Int) R3.2.1 R3.2.2 (w7.alloc (.cells #[.int .i64 (rn : Int)] 3))) := Lib.hid ((show LS NoK w0 X' Xd' g gd (n : Int) R3.2.1 R3.2.2 w6 from ⟨HL6.out.ds, HL6.out.lg, HL6.out.own, HL6.out.dis, fun k o h => h.elim⟩).next (hb7.trans ((below_alloc _ _).mono hb7.size)))
          have HRB7 : Hid (∀ q, (Value.slice ra k rc).ownBlock = some q → w0.heap.size ≤ q ∧ ¬ X' q ∧ ¬ Xd' q) := Lib.hid fun q hq => by
            obtain ⟨o, h1, h2, h3, h4⟩ := HRV5.out q hq
            have h5 := (HL6.out.kp q o ⟨h1, h2, h3⟩).2
            exact ⟨(HRV.out.2 q hq).1, h5.1, h5.2⟩
          obtain ⟨iI, hiI, hiI0, hiI1, hiI2⟩ := info_parts infoInt5
          have hki : k ≤ 40 := by have := H40.out; omega
          clear hown hb7 hrn hln e0 e1 e2 e3 ez
          go_wp2_with (at_builtin; refine wpList_append_any _ rfl (.tmp 73) (.tmp 77) 22 rfl 0 3 iI (.int .i64 0) 1 8 Tryz.underlying22 hiI hiI0 hiI1 hiI2 rfl (by decide) _ k _ rfl HRV7.out _ rfl 1 [.int .i64 (rn : Int)] (yields_int5 rfl) (by unfold maxLen; omega) (by omega) (Nat.zero_le _) ?_)
          intro v9 w9 happ
          obtain ⟨hr9, hg9, hb9⟩ := happ
          obtain ⟨ra9, rc9, rfl⟩ := owned_slice hr9
          have HL9 : Hid (LS NoK w0 X' Xd' g gd (n : Int) R3.2.1 R3.2.2 w9) := Lib.hid (HL7.out.other (only_row hg9) (fun q hq => HRB7.out q hq) fun q o _ h => h.elim)
          have HR9 : Hid (RowsAt w0 X' Xd' (rowS bs) (k + 1) (.slice ra9 (k + 1) rc9) w9) := Lib.hid ⟨by
            rw [List.range_succ, List.map_append, List.map_cons, List.map_nil, ← HRN.out]
            exact hr9, fun q hq => by
              rcases hb9 with h | h
              · exact HRB7.out q (h ▸ hq)
              · rw [h] at hq
                obtain rfl := Option.some.inj hq
                exact ⟨HL7.out.below.size, fun hx => Nat.lt_irrefl _ (HL7.out.lt hx), fun hx => Nat.lt_irrefl _ (HL7.out.ds.lt _ hx)⟩⟩
          clear hr9 hg9 hb9
          go_wp2_with fail
          go_roundw
          case rel => exact ⟨k + 1, R3.2.1, R3.2.2, X', Xd', ra9, rc9, by go_num, rfl, by omega, Lib.hid HST.out.2, HL9, HR9, Lib.hid (by have h1 : pre (rowS bs) (k + 1) = pre (rowS bs) k + rowS bs k := rfl; have := HP6.out; have := HR6.out; omega)⟩
          case measure => simp [intOf]; omega
      · have hkk : ¬ (k : Int) < (bs.length : Int) := by omega
        obtain rfl : k = bs.length := by omega
        obtain ⟨ps, hcov, hfi, hshp⟩ := HSZ.out.ex
        have hnames : d.fs.map (fun f => Value.string f.nm) = ps.map (fun p => .string (sgName ((p.1 + 1 : Nat) : Int))) := by
          have h1 := congrArg (List.map fun p : ByteArray × Nat => Value.string p.1) hshp
          unfold shp at h1
          rw [List.map_map, List.map_map] at h1
          exact h1
        have hlen : d.fs.length = ps.length := by rw [← shp_length, hshp, List.length_map]
        have hpl := Cov.len hcov
        have HCOV := Lib.hid hcov
        have HSHP := Lib.hid hshp
        have HWE := Lib.hid HSZ.out.well
        have HUS : Hid (D.used d.fs ≤ 1000000) := Lib.hid (Nat.le_trans HSZ.out.used (by have := HP6.out; have := H40.out; omega))
        have HNMC := Lib.hid (Names_any d Xd gd wr HLS.out.ds.dsk HSZ.out.well.1.2.1 (by omega))
        rw [hnames, hlen] at HNMC
        have HPL : Hid (ps.length ≤ bs.length) := Lib.hid (by omega)
        have HLEN := Lib.hid hlen
        obtain ⟨np, hnp⟩ : ∃ np, np = ps.length := ⟨_, rfl⟩
        rw [← hnp] at HNMC
        have HNP := Lib.hid hnp
        clear hcov hfi hshp hnames hlen hpl hnp
        go_wp2_with fail
        refine HNMC.out.mono ?_
        rintro e wn ⟨vn, rfl, hbn, hrown⟩
        obtain ⟨na, nc, rfl⟩ := owned_slice hrown
        have HBN := Lib.hid hbn
        have HROWN := Lib.hid hrown
        have HLN := Lib.hid (HLS.out.next hbn)
        have HRN : Hid (wn.ownsRow 0 3 1 (.slice ra bs.length rc) bs.length ((List.range bs.length).map fun i => .int .i64 (rowS bs i : Int))) := Lib.hid (ownsRow_same HRV.out.1 fun q hq => hbn.block q (HRV.out.1.lt q hq).2)
        have hnpi : (np : Int) ≤ 40 := by have := HNP.out; have := HPL.out; have := H40.out; omega
        clear hbn hrown
        go_wp2_with fail
        go_loopg [14, 15, 16, 17, 18] np (fun gk va vi _ _ _ wr => ∃ (a j : Nat), j + gk = np ∧ va = .int .i64 (a : Int) ∧ vi = .int .i64 (j : Int) ∧ j ≤ np ∧ a ≤ bs.length ∧ Hid (Cov (rowS bs) n a (ps.drop j) bs.length) ∧ Hid (Below wn.heap.size wn wr))
        case atStart => exact ⟨0, 0, Nat.zero_add _, rfl, rfl, Nat.zero_le _, Nat.zero_le _, HCOV, Lib.hid (Below.refl _ _)⟩
        case round =>
          obtain ⟨a, j, hjg, rfl, rfl, hj, hab, HCV, HBR⟩ := hrel
          obtain ⟨gO, hgO⟩ : ∃ gO, gO = gk := ⟨_, rfl⟩
          rw [← hgO] at hjg
          have HJG := Lib.hid hjg
          have HGO := Lib.hid hgO
          clear hjg hgO
          by_cases hlt : j < np
          · have hjj : (j : Int) < (np : Int) := by omega
            have hjp : j < ps.length := by rw [← HNP.out]; exact hlt
            obtain ⟨p, hp⟩ : ∃ p, p = ps[j] := ⟨_, rfl⟩
            have hdr : ps.drop j = p :: ps.drop (j + 1) := by rw [List.drop_eq_getElem_cons hjp, hp]
            have hcv := HCV.out
            rw [hdr] at hcv
            obtain ⟨h1, h2, h3, h4, h5⟩ := hcv
            obtain ⟨z, hz⟩ : ∃ z, z = p.2 := ⟨_, rfl⟩
            rw [← hz] at h2 h3 h4 h5
            have HC5 := Lib.hid h5
            have hzb := Cov.le h5
            obtain ⟨gn, hna, hgn1, hgn2, hcn⟩ := row_cell HROWN.out j (by rw [← HNP.out] at hjp; exact hjp)
            cases hna
            obtain ⟨nm, hnm⟩ : ∃ nm, nm = sgName ((a + 1 : Nat) : Int) := ⟨_, rfl⟩
            rw [List.getElem?_map, List.getElem?_eq_getElem hjp, ← hp, Option.map_some, h1, ← hnm] at hcn
            have hcr : wr.cell? ⟨gn, j, none⟩ = some (.string nm) := (World.cell?_of_block (a := ⟨gn, j, none⟩) (HBR.out.block gn hgn2)).trans hcn
            have hgr : gn < wr.heap.size := Nat.lt_of_lt_of_le hgn2 HBR.out.size
            -- the file of that name
            have hfile : ∃ f ∈ d.fs, f.nm = nm ∧ f.b.length = pre (rowS bs) z - pre (rowS bs) a := by
              have h6 : shS (rowS bs) p ∈ shp d.fs := by rw [HSHP.out]; exact List.mem_map.2 ⟨p, by rw [hp]; exact List.getElem_mem _, rfl⟩
              obtain ⟨f, hf, hfe⟩ := List.mem_map.1 h6
              refine ⟨f, hf, ?_, ?_⟩
              · have := congrArg Prod.fst hfe
                simp only [shS] at this
                rw [hnm, ← h1]
                exact this
              · have := congrArg Prod.snd hfe
                simp only [shS] at this
                rw [hz, ← h1]
                exact this
            obtain ⟨f, hf, hfn, hfl⟩ := hfile
            have HBO : Hid (bytesOf d.fs nm = f.b ∧ D.isThere d.fs nm = true) := Lib.hid (by
              rw [← hfn]
              unfold bytesOf
              rw [find_some HWE.out.1.2.1 hf]
              exact ⟨rfl, D.isThere_mem.2 ⟨f, hf, rfl⟩⟩)
            have HNS : Hid (nm.size ≤ 9223372036854775807) := Lib.hid (by rw [← hfn]; exact HWE.out.names f hf)
            have HNMD : Hid (∀ W, Calls Tryz.prog 21 #[.int .i64 ((a : Int) + 1)] W fun e w' => e = .returned (.string nm) ∧ w' = W) := Lib.hid fun W => by
              rw [hnm]
              exact RefName5_any (a + 1) W (by have := H40.out; omega)
            have HDR : Hid (PDskIn wr Xd gd d) := Lib.hid (HLN.out.next HBR.out).ds.dsk
            have HH3 := Lib.hid h3
            have hpos := pre_lt (fun i => (rowS_in bs i).1) h2
            have hmz := pre_le (rowS bs) hzb
            have HH4 : Hid (j + 1 < np → pre (rowS bs) a + n ≤ pre (rowS bs) z) := Lib.hid fun hjn => h4 (by
              intro e
              have := congrArg List.length e
              rw [List.length_drop, ← HNP.out] at this
              simp only [List.length_nil] at this
              omega)
            have HFL := Lib.hid hfl
            have HPZ := Lib.hid hmz
            have hai : (a : Int) ≤ 40 := by have := H40.out; omega
            have HAZ : Hid (a < z ∧ z ≤ bs.length) := Lib.hid ⟨h2, hzb⟩
            clear h1 h2 h3 h4 h5 hdr hp hz hcn hnm hf hfn hfl hpos hmz hzb hjp
            go_wp2_with fail
            refine (PRead_any d Xd gd nm wr HDR.out HWE.out.1.2.1 HNS.out (by have := HUS.out; omega)).mono ?_
            rintro e w3 ⟨v, rfl, hown⟩
            rw [HBO.out.1] at hown
            rw [HBO.out.2]
            have HB3 : Hid (Below wn.heap.size wn w3) := Lib.hid (HBR.out.trans (hown.1.mono HBR.out.size))
            have hb3 := hown.1
            obtain ⟨va, vc, rfl⟩ := hown.slice
            obtain ⟨fl, hfl⟩ : ∃ fl, fl = f.b.length := ⟨_, rfl⟩
            rw [← hfl]
            have HFLL : Hid (fl = pre (rowS bs) z - pre (rowS bs) a) := Lib.hid (by rw [hfl]; exact HFL.out)
            have r0 : ∀ w', Below w3.heap.size w3 w' → w'.cell? ⟨gn, j, none⟩ = some (.string nm) := fun w' hb => (World.cell?_of_block (a := ⟨gn, j, none⟩) ((hb3.trans (hb.mono hb3.size)).block gn hgr)).trans hcr
            have hS : Below w3.heap.size w3 w3.drew := (Below.refl _ _).drew
            have hw1 : IntKind.i64.wrap ((a : Int) + 1) = (a : Int) + 1 := IntWalk.i64_in _ (by omega)
            clear hown hb3 hcr hfl hgr
            go_wp2_with fail
            refine wp_region_held (S := fun w' => Below w3.heap.size w3 w') (by kernel_rfl) ?_
            refine H_take (i := 0) (v := ?_) rfl (by as_aux_lemma => kernel_rfl) (by as_aux_lemma => kernel_rfl) (by as_aux_lemma => kernel_rfl) (fun _ _ _ h => h) (by rfl) hS ?_ ?_
            rotate_left
            · intro w' hw'; go_simp; with_reducible rfl
            go_simp
            refine H_take (i := 1) (v := ?_) rfl (by as_aux_lemma => kernel_rfl) (by as_aux_lemma => kernel_rfl) (by as_aux_lemma => kernel_rfl) (fun _ _ _ h => h) (by rfl) hS ?_ ?_
            rotate_left
            · intro w' hw'; go_simp; with_reducible rfl
            go_simp
            refine H_take (i := 2) (v := ?_) rfl (by as_aux_lemma => kernel_rfl) (by as_aux_lemma => kernel_rfl) (by as_aux_lemma => kernel_rfl) (fun _ _ _ h => h) (by rfl) hS ?_ ?_
            rotate_left
            · intro w' hw'; go_simp; with_reducible rfl
            go_simp
            refine H_take (i := 3) (v := ?_) rfl (by as_aux_lemma => kernel_rfl) (by as_aux_lemma => kernel_rfl) (by as_aux_lemma => kernel_rfl) (fun _ _ _ h => h) (by rfl) hS ?_ ?_
            rotate_left
            · intro w' hw'; go_simp; with_reducible rfl
            go_simp
            refine H_take (i := 4) (v := ?_) rfl (by as_aux_lemma => kernel_rfl) (by as_aux_lemma => kernel_rfl) (by as_aux_lemma => kernel_rfl) (fun _ _ _ h => h) (by rfl) hS ?_ ?_
            rotate_left
            · intro w' hw'; go_simp; with_reducible rfl
            go_simp
            refine H_take (i := 5) (v := ?_) rfl (by as_aux_lemma => kernel_rfl) (by as_aux_lemma => kernel_rfl) (by as_aux_lemma => kernel_rfl) (fun _ _ _ h => h) (by rfl) hS ?_ ?_
            rotate_left
            · intro w' hw'; go_simp; with_reducible rfl
            go_simp
            refine H_one (i := 6) (by as_aux_lemma => kernel_rfl) rfl (by rfl) ?_
            go_simp
            refine (HNMD.out w3.drew).mono ?_
            rintro e w4 ⟨rfl, rfl⟩
            refine ⟨hS, ?_⟩
            go_simp
            refine H_take (i := 7) (v := ?_) rfl (by as_aux_lemma => kernel_rfl) (by as_aux_lemma => kernel_rfl) (by as_aux_lemma => kernel_rfl) (fun _ _ _ h => h) (by rfl) hS ?_ ?_
            rotate_left
            · intro w' hw'; go_simp; with_reducible rfl
            go_simp
            refine wpAnyH_done (by as_aux_lemma => kernel_rfl) ?_ _
            obtain ⟨w4, hw4⟩ : ∃ w4, w4 = w3.drew := ⟨_, rfl⟩
            have HB4 : Hid (Below wn.heap.size wn w4) := Lib.hid (by rw [hw4]; exact HB3.out.drew)
            rw [← hw4]
            clear r0 hS hw4 hw1
            go_wp2_with fail
            have HRC : Hid (∀ t, t < bs.length → ∃ gr, ra = some ⟨gr, 0, none⟩ ∧ gr < w4.heap.size ∧ w4.cell? ⟨gr, t, none⟩ = some (.int .i64 (rowS bs t : Int))) := Lib.hid fun t ht => by
              obtain ⟨gr, h1, -, h3, h4⟩ := row_cell HRN.out t ht
              refine ⟨gr, h1, Nat.lt_of_lt_of_le h3 HB4.out.size, (World.cell?_of_block (a := ⟨gr, t, none⟩) (HB4.out.block gr h3)).trans ?_⟩
              rw [h4, List.getElem?_map, List.getElem?_range ht]
              rfl
            have HPT : Hid (pre (rowS bs) bs.length ≤ 24000) := Lib.hid (by have := HP6.out; have := H40.out; omega)
            clear hlt
            go_loopg [14, 18] z (fun gm va vt wr2 => ∃ (t tt : Nat), t + gm = a + z ∧ va = .int .i64 (t : Int) ∧ vt = .int .i64 (tt : Int) ∧ a ≤ t ∧ t ≤ z ∧ Hid (tt + pre (rowS bs) a = pre (rowS bs) t) ∧ Hid (wr2 = w4))
            case atStart => exact ⟨a, 0, rfl, rfl, rfl, Nat.le_refl _, Nat.le_of_lt HAZ.out.1, Lib.hid (Nat.zero_add _), Lib.hid rfl⟩
            case round =>
              obtain ⟨t, tt, htg, rfl, rfl, hat, htz, HTT, HWW⟩ := hrel
              have HTG := Lib.hid htg
              obtain rfl := HWW.out
              clear htg
              have hfle : fl + pre (rowS bs) a = pre (rowS bs) z := by
                have h1 := HFLL.out
                have h2 := pre_le (rowS bs) (Nat.le_of_lt HAZ.out.1)
                omega
              by_cases htl : t < z
              · have htb : t < bs.length := Nat.lt_of_lt_of_le htl HAZ.out.2
                have f1 : (tt : Int) < (fl : Int) := by
                  have h1 := pre_lt (fun i => (rowS_in bs i).1) htl
                  have h2 := HTT.out
                  omega
                have f2 : (t : Int) < (bs.length : Int) := by omega
                have f3 : decide ((n : Int) ≤ (tt : Int)) = false := decide_eq_false (by
                  have h2 := HTT.out
                  rcases Nat.eq_or_lt_of_le hat with rfl | hat
                  · omega
                  · have h3 := HH3.out t hat htl
                    omega)
                have f9 : ¬ n ≤ tt := by have h9 := of_decide_eq_false f3; omega
                have f10 : decide (n ≤ tt) = false := decide_eq_false f9
                obtain ⟨gr, hra, hgz, hcr⟩ := HRC.out t htb
                obtain ⟨rr, hrr⟩ : ∃ rr, rr = rowS bs t := ⟨_, rfl⟩
                rw [← hrr] at hcr
                have HNX : Hid (tt + rr + pre (rowS bs) a = pre (rowS bs) (t + 1)) := Lib.hid (by
                  have h1 : pre (rowS bs) (t + 1) = pre (rowS bs) t + rowS bs t := rfl
                  have h2 := HTT.out
                  omega)
                have f4 : (tt : Int) + (rr : Int) ≤ 24000 := by
                  have h1 := HNX.out
                  have h2 := pre_le (rowS bs) (show t + 1 ≤ bs.length from htb)
                  have h3 := HPT.out
                  omega
                have HRA := Lib.hid hra
                subst hra
                clear hrr hfle
                go_wp2_with fail
                go_roundg (gk - 1)
                case measure => have := HTG.out; omega
                case rel => exact ⟨t + 1, tt + rr, by have := HTG.out; omega, by go_num, by go_num, by omega, htl, HNX, Lib.hid rfl⟩
              · have hte : t = z := by omega
                have htf : tt = fl := by
                  have h2 := HTT.out
                  rw [hte] at h2
                  omega
                subst hte
                subst htf
                have HEND : Hid (t ≤ bs.length ∧ Cov (rowS bs) n t (ps.drop (j + 1)) bs.length) := Lib.hid ⟨HAZ.out.2, HC5.out⟩
                have HBE : Hid (Below wn.heap.size wn wr) := HB4
                clear hfle htl
                by_cases hjn : j + 1 < np
                · have f5 : (j : Int) + 1 < (np : Int) := by omega
                  have f6 : decide ((tt : Int) < (n : Int)) = false := decide_eq_false (by
                    have h1 := HH4.out hjn
                    have h2 := HTT.out
                    omega)
                  have f7 : decide (tt < n) = false := decide_eq_false (by
                    have h1 := HH4.out hjn
                    have h2 := HTT.out
                    omega)
                  have f8 : ¬ tt < n := of_decide_eq_false f7
                  go_wp2_with fail
                  go_roundg (gO - 1)
                  case measure => have := HJG.out; have := HGO.out; omega
                  case rel => exact ⟨t, j + 1, by have := HJG.out; omega, rfl, by go_num, by omega, HEND.out.1, Lib.hid HEND.out.2, HBE⟩
                · have f5 : decide ((j : Int) + 1 < (np : Int)) = false := decide_eq_false (by omega)
                  go_wp2_with fail
                  go_roundg (gO - 1)
                  case measure => have := HJG.out; have := HGO.out; omega
                  case rel => exact ⟨t, j + 1, by have := HJG.out; omega, rfl, by go_num, by omega, HEND.out.1, Lib.hid HEND.out.2, HBE⟩
          · have hjj : ¬ (j : Int) < (np : Int) := by omega
            have hje : a = bs.length := by
              have h := HCV.out
              rw [List.drop_of_length_le (by rw [← HNP.out]; omega)] at h
              exact h
            subst hje
            have HE : Hid (Below w.heap.size w wr) := Lib.hid ((HB0.out.trans (HLN.out.below.mono HB0.out.size)).trans (HBR.out.mono (Nat.le_trans HB0.out.size HLN.out.below.size)))
            go_wp2_with fail
            go_ret
            exact ⟨rfl, HE.out⟩
end Go.Proofs.YtbcpcopapbgcdaaGreatDoor.M
