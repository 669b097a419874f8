/- The document's shelf: which marks are right, a snapshot's bytes. The document's shelf: a snapshot out of its bytes. The document's shelf: what a file's name says. -/
import Derived.Test.YtbcpcopapbgcdaaGreatDoorSW44
import Derived.Test.YtbcpcopapbgcdaaGreatDoorSW27
import Derived.Test.YtbcpcopapbgcdaaGreatDoorSW45
import Derived.Test.YtbcpcopapbgcdaaGreatDoorSW38
import Derived.Test.YtbcpcopapbgcdaaGreatDoorSW29
/- Part: ShR3. -/
namespace Go.Proofs.YtbcpcopapbgcdaaGreatDoor.M
open Go.RowKit

set_option maxRecDepth 20000 in
theorem RefRight6_any (a b : Int) (w : World) : Calls Tryz.prog 27 #[.agg #[.int .i64 a, .int .i64 b]] w fun e w' => e = .returned (.bool (okSn (a, b))) ∧ Below w.heap.size w w' := by
  have H : Hid (∀ x, x = decide (1 ≤ a ∧ a < 10000000000 ∧ 1 ≤ b ∧ b < 10000000000) → okSn (a, b) = x) := Lib.hid fun x h => h.symm
  rcases (show a < 1 ∨ (0 < a ∧ b < 1) ∨ (0 < a ∧ 0 < b ∧ ¬ a < 10000000000) ∨ (0 < a ∧ 0 < b ∧ a < 10000000000 ∧ ¬ b < 10000000000) ∨ (0 < a ∧ 0 < b ∧ a < 10000000000 ∧ b < 10000000000) by omega) with h | ⟨h, h2⟩ | ⟨h, h2, h3⟩ | ⟨h, h2, h3, h4⟩ | ⟨h, h2, h3, h4⟩
  · have q : decide (0 < a) = false := decide_eq_false (by omega)
    go_enter Tryz.func27, Tryz.ntmps27
    go_wp2_with fail
    go_ret
    exact ⟨by rw [H.out false (decide_eq_false (by omega)).symm]; rfl, below_alloc _ _⟩
  · have q : decide (0 < b) = false := decide_eq_false (by omega)
    go_enter Tryz.func27, Tryz.ntmps27
    go_wp2_with fail
    go_ret
    exact ⟨by rw [H.out false (decide_eq_false (by omega)).symm]; rfl, below_alloc _ _⟩
  · have q : decide (a < 10000000000) = false := decide_eq_false (by omega)
    go_enter Tryz.func27, Tryz.ntmps27
    go_wp2_with fail
    go_ret
    exact ⟨by rw [H.out false (decide_eq_false (by omega)).symm]; rfl, below_alloc _ _⟩
  · have q : decide (b < 10000000000) = false := decide_eq_false (by omega)
    go_enter Tryz.func27, Tryz.ntmps27
    go_wp2_with fail
    go_ret
    exact ⟨by rw [H.out false (decide_eq_false (by omega)).symm]; rfl, below_alloc _ _⟩
  · go_enter Tryz.func27, Tryz.ntmps27
    go_wp2_with fail
    go_ret
    exact ⟨by rw [H.out true (decide_eq_true (by omega)).symm]; rfl, below_alloc _ _⟩

/-- A sum's four bytes, laid as a literal. -/
theorem own_four6 {w wr : World} {cs g : Nat} (h : Below w.heap.size w wr) (hg : g = wr.heap.size) (hc : cs < 4294967296) :
    Own w (four cs) (.slice (some ⟨g, 0, none⟩) 4 4) (wr.alloc (.cells #[.int .u8 ((cs : Int) / 16777216), .int .u8 ((cs : Int) / 65536 % 256), .int .u8 ((cs : Int) / 256 % 256), .int .u8 ((cs : Int) % 256)] 5)) := by
  subst hg
  refine ⟨h.alloc h.size _, ?_⟩
  have h1 := World.ownsRow_lit wr #[.int .u8 ((cs : Int) / 16777216), .int .u8 ((cs : Int) / 65536 % 256), .int .u8 ((cs : Int) / 256 % 256), .int .u8 ((cs : Int) % 256)] 4 (base := w.heap.size) (e := 5) (size := 1) h.size (by unfold maxLen; omega) rfl
  rw [four_map cs hc]
  exact h1

set_option maxRecDepth 20000 in
set_option maxHeartbeats 3200000 in
theorem RefBytes6_any (x : Sn) (cv bv : Value) (F : Nat → Prop) (w : World) (hx : okSn (x.idx, x.term) = true) (hc : RepB w F x.conf cv) (hb : RepB w F x.body bv) (hF : ∀ k, F k → k < w.heap.size) (hl : x.conf.length + x.body.length ≤ 1000000000) :
    Calls Tryz.prog 28 #[snAgg x cv bv] w fun e w' => ∃ u, e = .returned u ∧ Own w (snBytes x) u w' := by
  obtain ⟨xi, xt, c, b⟩ := x
  have hx := okSn_iff.1 hx
  simp only at hx hc hb hl
  obtain ⟨i, rfl⟩ := Int.eq_ofNat_of_zero_le (show 0 ≤ xi by omega)
  obtain ⟨t, rfl⟩ := Int.eq_ofNat_of_zero_le (show 0 ≤ xt by omega)
  have HSN : Hid (snForm ⟨(i : Int), (t : Int), c, b⟩ = num i ++ (num t ++ (num c.length ++ (c ++ (num b.length ++ b))))) := Lib.hid (by
    unfold snForm
    simp only
    rw [u64_nn (by omega) (by omega), u64_nn (by omega) (by omega)]
    rfl)
  unfold snAgg snBytes
  simp only
  obtain ⟨ca, cc, rfl, hcz⟩ := hc.slice
  obtain ⟨ba, bc, rfl, hbz⟩ := hb.slice
  obtain ⟨cn, hcn⟩ : ∃ n, n = c.length := ⟨_, rfl⟩
  obtain ⟨bn, hbn⟩ : ∃ n, n = b.length := ⟨_, rfl⟩
  rw [← hcn] at hc HSN ⊢
  rw [← hbn] at hb HSN ⊢
  have HCN := Lib.hid hcn
  have HBN := Lib.hid hbn
  have hi64 : i < 18446744073709551616 := by omega
  have ht64 : t < 18446744073709551616 := by omega
  have hit : (i : Int) < 10000000000 := by omega
  have htt : (t : Int) < 10000000000 := by omega
  have HI := Lib.hid hi64
  have HT := Lib.hid ht64
  have hcn64 : cn ≤ 1000000000 := by omega
  have hbn64 : bn ≤ 1000000000 := by omega
  have hcni : (cn : Int) ≤ 1099511627776 := by omega
  have hbni : (bn : Int) ≤ 1099511627776 := by omega
  have HCB := Lib.hid hcn64
  have HBB := Lib.hid hbn64
  obtain ⟨W, hW⟩ : ∃ W, W = w.alloc (.cells #[.int .i64 (i : Int), .int .i64 (t : Int), .slice ca cn cc, .slice ba bn bc] 53) := ⟨_, rfl⟩
  have HB : Hid (Below w.heap.size w W) := Lib.hid (by rw [hW]; exact below_alloc _ _)
  obtain ⟨g, hg⟩ : ∃ g, g = w.heap.size := ⟨_, rfl⟩
  have HC : Hid (∀ w' : World, Below W.heap.size W w' → w'.cell? ⟨g, 0, none⟩ = some (.int .i64 (i : Int)) ∧ w'.cell? ⟨g, 1, none⟩ = some (.int .i64 (t : Int)) ∧ w'.cell? ⟨g, 2, none⟩ = some (.slice ca cn cc) ∧ w'.cell? ⟨g, 3, none⟩ = some (.slice ba bn bc) ∧ g < w'.heap.size) := Lib.hid fun w' hb => by
    have h0 : W.heap[g]? = some (.cells #[.int .i64 (i : Int), .int .i64 (t : Int), .slice ca cn cc, .slice ba bn bc] 53) := by rw [hW, hg]; exact heap_new _ _ _ rfl
    obtain ⟨c0, c1, c2, c3, -, -, -, -, cz⟩ := sh_four ((hb.block g (lt_of_heap h0)).trans h0)
    exact ⟨c0, c1, c2, c3, cz⟩
  have HRC : Hid (∀ w' : World, Below w.heap.size w w' → RepB w' (fun _ => True) c (.slice ca cn cc)) := Lib.hid fun w' hb => hc.same (fun _ _ => trivial) fun k hk => hb.block k (hF k hk)
  have HRB : Hid (∀ w' : World, Below w.heap.size w w' → RepB w' (fun _ => True) b (.slice ba bn bc)) := Lib.hid fun w' hb' => hb.same (fun _ _ => trivial) fun k hk => hb'.block k (hF k hk)
  have HG := Lib.hid hg
  have HW := Lib.hid hW
  clear hg hW hc hb hF hl hcn hbn hx hcz hbz hi64 ht64 hcn64 hbn64
  go_enter Tryz.func28, Tryz.ntmps28
  go_wp2_with fail
  rw [← HG.out, ← HW.out]
  obtain ⟨e0, e1, e2, e3, ez⟩ := HC.out W (Below.refl _ W)
  go_wp2_with fail
  refine (Number_any i W (Lib.hid HI.out)).mono ?_
  rintro e w0a ⟨v0, rfl, h0⟩
  have H0 : Hid (Own W (num i) v0 w0a) := Lib.hid h0
  obtain ⟨a0, k0, rfl⟩ := H0.out.slice
  have P0 : Hid (Own W [] (.slice none 0 0) w0a) := Lib.hid (Own.bare h0.1)
  clear h0 e0 e1 e2 e3 ez
  go_wp2_with (at_builtin; refine wpList_own_append (w := W) (L := []) (L2 := num i) rfl (.tmp 5) (.tmp 10) rfl rfl rfl P0.out rfl H0.out.rep (by have := num_le i; simp; omega) ?_)
  intro x0 w0b g0
  obtain ⟨L0, hL0⟩ : ∃ L, L = num i := ⟨_, rfl⟩
  rw [← hL0] at g0
  have O0 : Hid (Own W L0 x0 w0b) := Lib.hid g0
  have HL0 := Lib.hid hL0
  have HZ0 : Hid (L0.length ≤ 1000000100) := Lib.hid (by rw [hL0]; have := num_le i; simp; omega)
  obtain ⟨b0, l0, rfl⟩ := O0.out.slice
  skip
  obtain ⟨e0, e1, e2, e3, ez⟩ := HC.out w0b O0.out.1
  clear g0 hL0
  go_wp2_with fail
  refine (Number_any t w0b (Lib.hid HT.out)).mono ?_
  rintro e w1a ⟨v1, rfl, h1⟩
  have H1 : Hid (Own w0b (num t) v1 w1a) := Lib.hid h1
  obtain ⟨a1, k1, rfl⟩ := H1.out.slice
  have P1 : Hid (Own W L0 (.slice b0 L0.length l0) w1a) := Lib.hid (O0.out.next h1.1)
  clear h1 e0 e1 e2 e3 ez
  go_wp2_with (at_builtin; refine wpList_own_append (w := W) (L := L0) (L2 := num t) rfl (.tmp 12) (.tmp 17) rfl rfl rfl P1.out rfl H1.out.rep (by have := num_le t; have := HZ0.out; simp; omega) ?_)
  intro x1 w1b g1
  obtain ⟨L1, hL1⟩ : ∃ L, L = L0 ++ num t := ⟨_, rfl⟩
  rw [← hL1] at g1
  have O1 : Hid (Own W L1 x1 w1b) := Lib.hid g1
  have HL1 := Lib.hid hL1
  have HZ1 : Hid (L1.length ≤ 2000000100) := Lib.hid (by rw [hL1, List.length_append]; have := num_le t; have := HZ0.out; simp; omega)
  obtain ⟨b1, l1, rfl⟩ := O1.out.slice
  skip
  obtain ⟨e0, e1, e2, e3, ez⟩ := HC.out w1b O1.out.1
  clear g1 hL1
  go_wp2_with fail
  refine (Number_any cn w1b (Lib.hid (by have := HCB.out; omega))).mono ?_
  rintro e w2a ⟨v2, rfl, h2⟩
  have H2 : Hid (Own w1b (num cn) v2 w2a) := Lib.hid h2
  obtain ⟨a2, k2, rfl⟩ := H2.out.slice
  have P2 : Hid (Own W L1 (.slice b1 L1.length l1) w2a) := Lib.hid (O1.out.next h2.1)
  clear h2 e0 e1 e2 e3 ez
  go_wp2_with (at_builtin; refine wpList_own_append (w := W) (L := L1) (L2 := num cn) rfl (.tmp 19) (.tmp 24) rfl rfl rfl P2.out rfl H2.out.rep (by have := num_le cn; have := HZ1.out; simp; omega) ?_)
  intro x2 w2b g2
  obtain ⟨L2, hL2⟩ : ∃ L, L = L1 ++ num cn := ⟨_, rfl⟩
  rw [← hL2] at g2
  have O2 : Hid (Own W L2 x2 w2b) := Lib.hid g2
  have HL2 := Lib.hid hL2
  have HZ2 : Hid (L2.length ≤ 3000000100) := Lib.hid (by rw [hL2, List.length_append]; have := num_le cn; have := HZ1.out; simp; omega)
  obtain ⟨b2, l2, rfl⟩ := O2.out.slice
  skip
  obtain ⟨e0, e1, e2, e3, ez⟩ := HC.out w2b O2.out.1
  clear g2 hL2
  go_wp2_with (at_builtin; refine wpList_own_append (w := W) (L := L2) (L2 := c) rfl (.tmp 26) (.tmp 28) rfl rfl rfl O2.out rfl (HRC.out _ (HB.out.trans (O2.out.1.mono HB.out.size))) (by have := HZ2.out; have := HCN.out; have := HBN.out; have := HCB.out; have := HBB.out; omega) ?_)
  intro x3 w3b g3
  obtain ⟨L3, hL3⟩ : ∃ L, L = L2 ++ c := ⟨_, rfl⟩
  rw [← hL3] at g3
  have O3 : Hid (Own W L3 x3 w3b) := Lib.hid g3
  have HL3 := Lib.hid hL3
  have HZ3 : Hid (L3.length ≤ 4000000100) := Lib.hid (by rw [hL3, List.length_append]; have := HCN.out; have := HBN.out; have := HCB.out; have := HBB.out; have := HZ2.out; simp; omega)
  obtain ⟨b3, l3, rfl⟩ := O3.out.slice
  clear e0 e1 e2 e3 ez
  obtain ⟨e0, e1, e2, e3, ez⟩ := HC.out w3b O3.out.1
  clear g3 hL3
  go_wp2_with fail
  refine (Number_any bn w3b (Lib.hid (by have := HBB.out; omega))).mono ?_
  rintro e w4a ⟨v4, rfl, h4⟩
  have H4 : Hid (Own w3b (num bn) v4 w4a) := Lib.hid h4
  obtain ⟨a4, k4, rfl⟩ := H4.out.slice
  have P4 : Hid (Own W L3 (.slice b3 L3.length l3) w4a) := Lib.hid (O3.out.next h4.1)
  clear h4 e0 e1 e2 e3 ez
  go_wp2_with (at_builtin; refine wpList_own_append (w := W) (L := L3) (L2 := num bn) rfl (.tmp 30) (.tmp 35) rfl rfl rfl P4.out rfl H4.out.rep (by have := num_le bn; have := HZ3.out; simp; omega) ?_)
  intro x4 w4b g4
  obtain ⟨L4, hL4⟩ : ∃ L, L = L3 ++ num bn := ⟨_, rfl⟩
  rw [← hL4] at g4
  have O4 : Hid (Own W L4 x4 w4b) := Lib.hid g4
  have HL4 := Lib.hid hL4
  have HZ4 : Hid (L4.length ≤ 5000000100) := Lib.hid (by rw [hL4, List.length_append]; have := num_le bn; have := HZ3.out; simp; omega)
  obtain ⟨b4, l4, rfl⟩ := O4.out.slice
  skip
  obtain ⟨e0, e1, e2, e3, ez⟩ := HC.out w4b O4.out.1
  clear g4 hL4
  go_wp2_with (at_builtin; refine wpList_own_append (w := W) (L := L4) (L2 := b) rfl (.tmp 37) (.tmp 39) rfl rfl rfl O4.out rfl (HRB.out _ (HB.out.trans (O4.out.1.mono HB.out.size))) (by have := HZ4.out; have := HCN.out; have := HBN.out; have := HCB.out; have := HBB.out; omega) ?_)
  intro x5 w5b g5
  obtain ⟨L5, hL5⟩ : ∃ L, L = L4 ++ b := ⟨_, rfl⟩
  rw [← hL5] at g5
  have O5 : Hid (Own W L5 x5 w5b) := Lib.hid g5
  have HL5 := Lib.hid hL5
  have HZ5 : Hid (L5.length ≤ 6000000100) := Lib.hid (by rw [hL5, List.length_append]; have := HCN.out; have := HBN.out; have := HCB.out; have := HBB.out; have := HZ4.out; simp; omega)
  obtain ⟨b5, l5, rfl⟩ := O5.out.slice
  clear e0 e1 e2 e3 ez
  obtain ⟨e0, e1, e2, e3, ez⟩ := HC.out w5b O5.out.1
  clear g5 hL5
  go_wp2_with fail
  have HLL : Hid (snForm ⟨(i : Int), (t : Int), c, b⟩ = L5) := Lib.hid (by
    rw [HSN.out, HL5.out, HL4.out, HL3.out, HL2.out, HL1.out, HL0.out]
    simp only [List.nil_append, List.append_assoc])
  refine (RefOf_any L5 _ _ w5b O5.out.rep).mono ?_
  rintro e w7 ⟨rfl, rfl⟩
  have hcs : C.sumOf L5 < 4294967296 := C.sumOf_lt L5
  obtain ⟨cs, hcs2⟩ : ∃ cs, cs = C.sumOf L5 := ⟨_, rfl⟩
  rw [← hcs2] at hcs ⊢
  have HCS := Lib.hid hcs2
  clear hcs2 e0 e1 e2 e3 ez hcni hbni hit htt
  go_wp2_with (at_builtin; refine wpList_own_append (w := W) (L := four cs) (L2 := L5) rfl (.tmp 54) (.tmp 55) rfl rfl rfl (own_four6 O5.out.1 rfl hcs) rfl (O5.out.rep.same (fun _ h => h) fun k hk => Below.heap_alloc _ _ _ hk.2) (by have := HZ5.out; rw [four_length]; omega) ?_)
  intro v8 w8 h8
  have H8 : Hid (Own w (four (C.sumOf (snForm ⟨(i : Int), (t : Int), c, b⟩)) ++ snForm ⟨(i : Int), (t : Int), c, b⟩) v8 w8) := Lib.hid (by rw [HLL.out, ← HCS.out]; exact h8.base HB.out)
  clear h8
  go_wp2_with fail
  go_ret
  exact ⟨_, rfl, H8.out⟩
end Go.Proofs.YtbcpcopapbgcdaaGreatDoor.M

/- Part: ShR4. -/
namespace Go.Proofs.YtbcpcopapbgcdaaGreatDoor.M
open Go.RowKit


theorem four_iff {cs : Nat} (h : cs < 4294967296) (x0 x1 x2 x3 : UInt8) : [x0, x1, x2, x3] = four cs ↔
    ((x0.toNat : Int) = (cs : Int) / 16777216 ∧ (x1.toNat : Int) = (cs : Int) / 65536 % 256 ∧ (x2.toNat : Int) = (cs : Int) / 256 % 256 ∧ (x3.toNat : Int) = (cs : Int) % 256) := by
  unfold four
  simp only [List.cons.injEq, and_true, ← UInt8.toNat_inj, UInt8.toNat_ofNat']
  constructor
  · rintro ⟨h0, h1, h2, h3⟩
    refine ⟨?_, ?_, ?_, ?_⟩ <;> omega
  · rintro ⟨h0, h1, h2, h3⟩
    refine ⟨?_, ?_, ?_, ?_⟩ <;> omega

theorem snTake_ok {b r : List UInt8} {x y : Nat} {c d : List UInt8} (h : snParts b = .ok ((x, y, c, d), r)) : snTake b = if r.length ≠ 0 then .error 12 else if 1 ≤ x ∧ x < 10000000000 ∧ 1 ≤ y ∧ y < 10000000000 then .ok ⟨x, y, c, d⟩ else .error 13 := by
  unfold snTake
  rw [h]
  cases r with
  | nil => simp
  | cons a r => simp

theorem snParts_fair {b : List UInt8} {e : Int} (h : snParts b = .error e) : (e != 0) = true := by
  unfold snParts at h
  cases h1 : takeNum b with
  | error c => rw [h1] at h; cases h; exact takeNum_fair h1
  | ok p =>
    obtain ⟨x, b1⟩ := p
    rw [h1] at h
    simp only at h
    cases h2 : takeNum b1 with
    | error c => rw [h2] at h; cases h; exact takeNum_fair h2
    | ok p =>
      obtain ⟨y, b2⟩ := p
      rw [h2] at h
      simp only at h
      cases h3 : takeB b2 with
      | error c => rw [h3] at h; cases h; exact takeB_fair h3
      | ok p =>
        obtain ⟨c, b3⟩ := p
        rw [h3] at h
        simp only at h
        cases h4 : takeB b3 with
        | error c => rw [h4] at h; cases h; exact takeB_fair h4
        | ok p => rw [h4] at h; cases h

theorem SnPost.err {w w' : World} {r : Except Int Sn} {c : Int} (h : r = .error c) (hb : Below w.heap.size w w') : SnPost w r (.returned (.tuple #[.agg #[.int .i64 0, .int .i64 0, .slice none 0 0, .slice none 0 0], .int .i64 c])) w' := by
  subst h
  exact ⟨hb, rfl⟩

set_option maxRecDepth 20000 in
set_option maxHeartbeats 6400000 in
theorem RefParse_any (L : List UInt8) (F : Nat → Prop) (v : Value) (w : World) (hv : RepB w F L v) (hF : ∀ k, F k → k < w.heap.size) (hL : L.length ≤ 1000000) :
    Calls Tryz.prog 24 #[v] w (SnPost w (snParse L)) := by
  obtain ⟨W, hW⟩ : ∃ W, W = (w.alloc (.cells #[.int .i64 0, .int .i64 0, .slice none 0 0, .slice none 0 0] 53)).alloc (.cells #[.int .i64 0, .int .i64 0, .slice none 0 0, .slice none 0 0] 53) := ⟨_, rfl⟩
  have HB : Hid (Below w.heap.size w W) := Lib.hid (by rw [hW]; exact ((Below.refl _ w).alloc (Nat.le_refl _) _).alloc (by simp) _)
  have HWZ : Hid (W.heap.size = w.heap.size + 2) := Lib.hid (by rw [hW]; simp)
  have HX0 : Hid (W.heap[w.heap.size]? = some (.cells #[.int .i64 0, .int .i64 0, .slice none 0 0, .slice none 0 0] 53)) := Lib.hid (by rw [hW]; exact old_alloc (heap_new _ _ _ rfl))
  have HX1 : Hid (W.heap[w.heap.size + 1]? = some (.cells #[.int .i64 0, .int .i64 0, .slice none 0 0, .slice none 0 0] 53)) := Lib.hid (by rw [hW]; exact heap_new _ _ _ (by simp))
  have HV : Hid (RepB W F L v) := Lib.hid (hv.same (fun _ h => h) fun k hk => HB.out.block k (hF k hk))
  have HF : Hid (∀ b, F b → b < W.heap.size) := Lib.hid fun b hb => Nat.lt_of_lt_of_le (hF b hb) HB.out.size
  obtain ⟨R, hR⟩ : ∃ R, R = snParse L := ⟨_, rfl⟩
  rw [← hR]
  have HR := Lib.hid hR
  have HW := Lib.hid hW
  have HL := Lib.hid hL
  obtain ⟨va, vc, rfl, hvl⟩ := hv.slice
  obtain ⟨n, hn⟩ : ∃ n, n = L.length := ⟨_, rfl⟩
  have HN := Lib.hid hn
  rw [← hn] at HV hvl ⊢
  clear hv hF hR hW hL hn
  obtain ⟨c0, c1, c2, c3, f0, f1, f2, f3, cz⟩ := sh_four HX0.out
  obtain ⟨d0, d1, d2, d3, g0, g1, g2, g3, dz⟩ := sh_four HX1.out
  by_cases h4 : n < 4
  · have h4i : (n : Int) < 4 := by omega
    have HE : Hid (R = .error 11) := Lib.hid (by rw [HR.out]; unfold snParse; rw [if_pos (by have := HN.out; omega)])
    clear h4
    go_enter Tryz.func24, Tryz.ntmps24
    go_wp2_with fail
    rw [← HW.out]
    go_wp2_with fail
    refine bodyPost_ret (v := .tuple #[.agg #[.int .i64 0, .int .i64 0, .slice none 0 0, .slice none 0 0], .int .i64 11]) (by simp [results, Tryz.results24, go_sem, c0, c1, c2, c3, cz]) rfl ?_
    refine SnPost.err HE.out ?_
    have HBE := HB
    first
      | exact HBE.out
      | exact (((HBE.out.setCell (by simp) _).setCell (by simp) _).setCell (by simp) _).setCell (by simp) _
  · have h4i : decide ((n : Int) < 4) = false := by simp; omega
    have h4b : (4 : Int) ≤ (n : Int) := by omega
    obtain ⟨b, off, rfl, hFb, hnc, hcm, hat⟩ := (show RepB W F L (.slice va L.length vc) by rw [← HN.out]; exact HV.out).elem3 (i := 0) (by have := HN.out; omega)
    rw [← HN.out] at hnc
    obtain ⟨y0, y1, y2, y3, L4, hLL⟩ : ∃ y0 y1 y2 y3 L4, L = y0 :: y1 :: y2 :: y3 :: L4 := by
      have := HN.out
      match L, this with
      | [], h => simp at h; omega
      | [_], h => simp at h; omega
      | [_, _], h => simp at h; omega
      | [_, _, _], h => simp at h; omega
      | a :: b :: c :: d :: l, _ => exact ⟨a, b, c, d, l, rfl⟩
    have m0 : W.cell? ⟨b, off, none⟩ = some (.int .u8 (y0.toNat : Int)) := by
      have h := hat 0 (by rw [hLL]; simp)
      simp only [hLL] at h
      exact h
    have m1 : W.cell? ⟨b, off + 1, none⟩ = some (.int .u8 (y1.toNat : Int)) := by
      have h := hat 1 (by rw [hLL]; simp)
      simp only [hLL] at h
      exact h
    have m2 : W.cell? ⟨b, off + 2, none⟩ = some (.int .u8 (y2.toNat : Int)) := by
      have h := hat 2 (by rw [hLL]; simp)
      simp only [hLL] at h
      exact h
    have m3 : W.cell? ⟨b, off + 3, none⟩ = some (.int .u8 (y3.toNat : Int)) := by
      have h := hat 3 (by rw [hLL]; simp)
      simp only [hLL] at h
      exact h
    have HTK : Hid (L.take 4 = [y0, y1, y2, y3]) := Lib.hid (by rw [hLL]; rfl)
    have HDR : Hid (RepB W F (L.drop 4) (.slice (if vc = 4 then some ⟨b, off, none⟩ else some ⟨b, off + 4, none⟩) (n - 4) (vc - 4))) := Lib.hid (by
      have h := RepB.dropAt (w := W) (F := F) (L := L) (b := b) (off := off) (c := vc) hFb hat (by have := HN.out; omega) (by have := HN.out; omega) hcm
      rw [← HN.out] at h
      exact h)
    have h4c : (4 : Int) ≤ (vc : Int) := by omega
    have h4d : (1 : Int) < (n : Int) := by omega
    have h4e : (2 : Int) < (n : Int) := by omega
    have h4f : (3 : Int) < (n : Int) := by omega
    have h4g : (0 : Int) < (n : Int) := by omega
    obtain ⟨sa, hsa⟩ : ∃ sa, sa = (if vc = 4 then some (⟨b, off, none⟩ : Addr) else some ⟨b, off + 4, none⟩) := ⟨_, rfl⟩
    rw [← hsa] at HDR
    obtain ⟨cs, hcs⟩ : ∃ cs, cs = C.sumOf (L.drop 4) := ⟨_, rfl⟩
    have hcs32 : cs < 4294967296 := by rw [hcs]; exact C.sumOf_lt _
    have HOF : Hid (Calls Tryz.prog 71 #[.slice sa (n - 4) (vc - 4)] W fun e w' => e = .returned (.int .u32 (cs : Int)) ∧ W = w') := Lib.hid (by
      rw [hcs]
      have h := RefOf_any (L.drop 4) _ _ W HDR.out
      exact h)
    have H4I := four_iff hcs32 y0 y1 y2 y3
    have HBE := HB
    have HS : Hid (R = if [y0, y1, y2, y3] ≠ four cs then .error 51 else snTake (L.drop 4)) := Lib.hid (by
      rw [HR.out, hcs, ← HTK.out]
      unfold snParse
      rw [if_neg (by have := HN.out; omega)])
    have z0 := y0.toNat_lt
    have z1 := y1.toNat_lt
    have z2 := y2.toNat_lt
    have z3 := y3.toNat_lt
    have HSA := Lib.hid hsa
    clear hat h4 hLL hcs hsa
    by_cases k0 : (y0.toNat : Int) = (cs : Int) / 16777216
    case neg =>
      have HE : Hid (R = .error 51) := Lib.hid (by rw [HS.out, if_pos fun h => k0 (H4I.1 h).1])
      have q0 : ((y0.toNat : Int) != (cs : Int) / 16777216) = true := by simpa using k0
      clear k0 H4I
      go_enter Tryz.func24, Tryz.ntmps24
      go_wp2_with (go_at_call 71; rw [← HW.out, ← HSA.out]; refine HOF.out.mono ?_; rintro e w1 ⟨rfl, rfl⟩)
      refine bodyPost_ret (v := .tuple #[.agg #[.int .i64 0, .int .i64 0, .slice none 0 0, .slice none 0 0], .int .i64 51]) (by simp [results, Tryz.results24, go_sem, c0, c1, c2, c3, cz]) rfl ?_
      refine SnPost.err HE.out ?_
      first
        | exact HBE.out
        | exact (((HBE.out.setCell (by simp) _).setCell (by simp) _).setCell (by simp) _).setCell (by simp) _
    have p0 : ((y0.toNat : Int) != (cs : Int) / 16777216) = false := by simpa using k0
    by_cases k1 : (y1.toNat : Int) = (cs : Int) / 65536 % 256
    case neg =>
      have HE : Hid (R = .error 51) := Lib.hid (by rw [HS.out, if_pos fun h => k1 (H4I.1 h).2.1])
      have q0 : ((y1.toNat : Int) != (cs : Int) / 65536 % 256) = true := by simpa using k1
      clear k0 k1 H4I
      go_enter Tryz.func24, Tryz.ntmps24
      go_wp2_with (go_at_call 71; rw [← HW.out, ← HSA.out]; refine HOF.out.mono ?_; rintro e w1 ⟨rfl, rfl⟩)
      refine bodyPost_ret (v := .tuple #[.agg #[.int .i64 0, .int .i64 0, .slice none 0 0, .slice none 0 0], .int .i64 51]) (by simp [results, Tryz.results24, go_sem, c0, c1, c2, c3, cz]) rfl ?_
      refine SnPost.err HE.out ?_
      first
        | exact HBE.out
        | exact (((HBE.out.setCell (by simp) _).setCell (by simp) _).setCell (by simp) _).setCell (by simp) _
    have p1 : ((y1.toNat : Int) != (cs : Int) / 65536 % 256) = false := by simpa using k1
    by_cases k2 : (y2.toNat : Int) = (cs : Int) / 256 % 256
    case neg =>
      have HE : Hid (R = .error 51) := Lib.hid (by rw [HS.out, if_pos fun h => k2 (H4I.1 h).2.2.1])
      have q0 : ((y2.toNat : Int) != (cs : Int) / 256 % 256) = true := by simpa using k2
      clear k0 k1 k2 H4I
      go_enter Tryz.func24, Tryz.ntmps24
      go_wp2_with (go_at_call 71; rw [← HW.out, ← HSA.out]; refine HOF.out.mono ?_; rintro e w1 ⟨rfl, rfl⟩)
      refine bodyPost_ret (v := .tuple #[.agg #[.int .i64 0, .int .i64 0, .slice none 0 0, .slice none 0 0], .int .i64 51]) (by simp [results, Tryz.results24, go_sem, c0, c1, c2, c3, cz]) rfl ?_
      refine SnPost.err HE.out ?_
      first
        | exact HBE.out
        | exact (((HBE.out.setCell (by simp) _).setCell (by simp) _).setCell (by simp) _).setCell (by simp) _
    have p2 : ((y2.toNat : Int) != (cs : Int) / 256 % 256) = false := by simpa using k2
    by_cases k3 : (y3.toNat : Int) = (cs : Int) % 256
    case neg =>
      have HE : Hid (R = .error 51) := Lib.hid (by rw [HS.out, if_pos fun h => k3 (H4I.1 h).2.2.2])
      have q0 : ((y3.toNat : Int) != (cs : Int) % 256) = true := by simpa using k3
      clear k0 k1 k2 k3 H4I
      go_enter Tryz.func24, Tryz.ntmps24
      go_wp2_with (go_at_call 71; rw [← HW.out, ← HSA.out]; refine HOF.out.mono ?_; rintro e w1 ⟨rfl, rfl⟩)
      refine bodyPost_ret (v := .tuple #[.agg #[.int .i64 0, .int .i64 0, .slice none 0 0, .slice none 0 0], .int .i64 51]) (by simp [results, Tryz.results24, go_sem, c0, c1, c2, c3, cz]) rfl ?_
      refine SnPost.err HE.out ?_
      first
        | exact HBE.out
        | exact (((HBE.out.setCell (by simp) _).setCell (by simp) _).setCell (by simp) _).setCell (by simp) _
    have p3 : ((y3.toNat : Int) != (cs : Int) % 256) = false := by simpa using k3
    have HE : Hid (R = snTake (L.drop 4)) := Lib.hid (by rw [HS.out, if_neg fun h => h (H4I.2 ⟨k0, k1, k2, k3⟩)])
    have HTS := Lib.hid (TakeSnap_any L F (.slice (some ⟨b, off, none⟩) L.length vc) 4 W (by have := HV.out; rw [HN.out] at this; exact this) HF.out HL.out (by have := HN.out; omega))
    rw [← HN.out] at HTS
    clear k0 k1 k2 k3 H4I
    go_enter Tryz.func24, Tryz.ntmps24
    go_wp2_with (go_at_call 71; rw [← HW.out, ← HSA.out]; refine HOF.out.mono ?_; rintro e w1 ⟨rfl, rfl⟩)
    refine HTS.out.mono ?_
    rintro e w1 ⟨hb1, hp⟩
    have HB1 : Hid (Below w.heap.size w w1) := Lib.hid (HB.out.trans (hb1.mono HB.out.size))
    have HX0' := Lib.hid (old_below HX0.out hb1)
    have HX1' := Lib.hid (old_below HX1.out hb1)
    clear c0 c1 c2 c3 f0 f1 f2 f3 cz d0 d1 d2 d3 g0 g1 g2 g3 dz
    obtain ⟨c0, c1, c2, c3, f0, f1, f2, f3, cz⟩ := sh_four HX0'.out
    obtain ⟨d0, d1, d2, d3, g0, g1, g2, g3, dz⟩ := sh_four HX1'.out
    clear p0 p1 p2 p3 m0 m1 m2 m3 z0 z1 z2 z3 hcs32 hnc hcm h4c h4d h4e h4f h4g
    cases hq : snParts (L.drop 4) with
    | error c =>
      rw [hq] at hp
      obtain ⟨z, rfl⟩ := hp
      have hc := snParts_fair hq
      have HE' : Hid (R = .error c) := Lib.hid (by rw [HE.out]; unfold snTake; rw [hq])
      clear hq
      go_wp2_with fail
      refine bodyPost_ret (v := .tuple #[.agg #[.int .i64 0, .int .i64 0, .slice none 0 0, .slice none 0 0], .int .i64 c]) (by simp [results, Tryz.results24, go_sem, c0, c1, c2, c3, cz]) rfl ?_
      refine SnPost.err HE'.out ?_
      first
        | exact HB1.out.alloc HB1.out.size _
        | exact ((((HB1.out.setCell (by simp) _).setCell (by simp) _).setCell (by simp) _).setCell (by simp) _).alloc (by simpa using HB1.out.size) _
    | ok p =>
      obtain ⟨⟨x, y, c, d⟩, r⟩ := p
      rw [hq] at hp
      obtain ⟨g, cap, u1, u2, rfl, hgz, ⟨e0, e3, e7, e10⟩, hr1, hr2⟩ := hp
      have HT := Lib.hid (HE.out.trans (snTake_ok hq))
      obtain ⟨m, hm⟩ : ∃ m, m = L.length - r.length := ⟨_, rfl⟩
      rw [← hm]
      have hgz1 := hgz.1
      have hgz2 := hgz.2
      have hrl : r.length ≤ L.length := by
        have h1 := congrArg List.length (snParts_inv hq)
        simp only [List.length_drop, List.length_append] at h1
        omega
      have hmr : (m : Int) + (r.length : Int) = (n : Int) := by have := HN.out; omega
      have HM := Lib.hid hm
      clear hq hm
      by_cases hr0 : r.length ≠ 0
      · have HE' : Hid (R = .error 12) := Lib.hid (by rw [HT.out, if_pos hr0])
        have q1 : (m : Int) < (n : Int) := by omega
        clear hrl hmr hr0
        go_wp2_with fail
        refine bodyPost_ret (v := .tuple #[.agg #[.int .i64 0, .int .i64 0, .slice none 0 0, .slice none 0 0], .int .i64 12]) (by simp [results, Tryz.results24, go_sem, c0, c1, c2, c3, cz]) rfl ?_
        refine SnPost.err HE'.out ?_
        first
          | exact HB1.out.alloc HB1.out.size _
          | exact ((((HB1.out.setCell (by simp) _).setCell (by simp) _).setCell (by simp) _).setCell (by simp) _).alloc (by simpa using HB1.out.size) _
      · obtain rfl : m = n := by omega
        rw [if_neg hr0] at HT
        have q1 : decide ((m : Int) < (m : Int)) = false := by simp
        clear hrl hmr hr0
        by_cases hx : x < 10000000000
        case neg =>
          have HE' : Hid (R = .error 13) := Lib.hid (by rw [HT.out, if_neg fun h => hx h.2.1])
          have q2 : (10000000000 : Int) ≤ (x : Int) := by omega
          clear hx
          go_wp2_with fail
          refine bodyPost_ret (v := .tuple #[.agg #[.int .i64 0, .int .i64 0, .slice none 0 0, .slice none 0 0], .int .i64 13]) (by simp [results, Tryz.results24, go_sem, c0, c1, c2, c3, cz]) rfl ?_
          refine SnPost.err HE'.out ?_
          first
            | exact HB1.out.alloc HB1.out.size _
            | exact ((((HB1.out.setCell (by simp) _).setCell (by simp) _).setCell (by simp) _).setCell (by simp) _).alloc (by simpa using HB1.out.size) _
        have q2 : decide ((10000000000 : Int) ≤ (x : Int)) = false := by simp; omega
        by_cases hy : y < 10000000000
        case neg =>
          have HE' : Hid (R = .error 13) := Lib.hid (by rw [HT.out, if_neg fun h => hy h.2.2.2])
          have q3 : (10000000000 : Int) ≤ (y : Int) := by omega
          clear hy
          go_wp2_with fail
          refine bodyPost_ret (v := .tuple #[.agg #[.int .i64 0, .int .i64 0, .slice none 0 0, .slice none 0 0], .int .i64 13]) (by simp [results, Tryz.results24, go_sem, c0, c1, c2, c3, cz]) rfl ?_
          refine SnPost.err HE'.out ?_
          first
            | exact HB1.out.alloc HB1.out.size _
            | exact ((((HB1.out.setCell (by simp) _).setCell (by simp) _).setCell (by simp) _).setCell (by simp) _).alloc (by simpa using HB1.out.size) _
        have q3 : decide ((10000000000 : Int) ≤ (y : Int)) = false := by simp; omega
        have hwx : IntKind.i64.wrap (x : Int) = (x : Int) := IntWalk.i64_in _ (by omega)
        have hwy : IntKind.i64.wrap (y : Int) = (y : Int) := IntWalk.i64_in _ (by omega)
        have HXY : Hid (x < 10000000000 ∧ y < 10000000000) := Lib.hid ⟨hx, hy⟩
        go_wp2_with fail
        obtain ⟨W2, hW2⟩ : ∃ W2, W2 = w1.alloc (.cells #[.int .u64 0, .slice none 0 0, .slice (some ⟨g, 0, none⟩) 4 cap] 132) := ⟨_, rfl⟩
        rw [← hW2]
        have hb2 : Below w1.heap.size w1 W2 := by rw [hW2]; exact below_alloc _ _
        have HB2 : Hid (Below w.heap.size w W2) := Lib.hid (HB1.out.trans (hb2.mono HB1.out.size))
        obtain ⟨-, -, k2, -, -, -, kz⟩ := block3 (show W2.heap[w1.heap.size]? = some (.cells #[.int .u64 0, .slice none 0 0, .slice (some ⟨g, 0, none⟩) 4 cap] 132) by rw [hW2]; exact heap_new _ _ _ rfl)
        have hgz3 : g < W2.heap.size := Nat.lt_of_lt_of_le hgz2 hb2.size
        have E := fun o => World.cell?_of_block (w := w1) (w' := W2) (a := ⟨g, o, none⟩) (hb2.block g hgz2)
        have HX0'' := Lib.hid (old_below HX0'.out hb2)
        have HX1'' := Lib.hid (old_below HX1'.out hb2)
        have hr1' : RepB W2 (fun j => W.heap.size ≤ j ∧ j < W2.heap.size) c u1 := hr1.same (fun j hj => ⟨hj.1, Nat.lt_of_lt_of_le hj.2 hb2.size⟩) fun j hj => hb2.block j hj.2
        have hr2' : RepB W2 (fun j => W.heap.size ≤ j ∧ j < W2.heap.size) d u2 := hr2.same (fun j hj => ⟨hj.1, Nat.lt_of_lt_of_le hj.2 hb2.size⟩) fun j hj => hb2.block j hj.2
        have r0 : ∀ w', Below W2.heap.size W2 w' → w'.cell? ⟨w1.heap.size, 2, none⟩ = some (.slice (some ⟨g, 0, none⟩) 4 cap) := fun w' hw' => (World.cell?_of_block (a := ⟨w1.heap.size, 2, none⟩) (hw'.block _ kz)).trans k2
        have r1 : ∀ w', Below W2.heap.size W2 w' → w'.cell? ⟨g, 0, none⟩ = some (.int .u64 (x : Int)) := fun w' hw' => (World.cell?_of_block (a := ⟨g, 0, none⟩) (hw'.block g hgz3)).trans ((E 0).trans e0)
        have r2 : ∀ w', Below W2.heap.size W2 w' → w'.cell? ⟨g, 3, none⟩ = some (.int .u64 (y : Int)) := fun w' hw' => (World.cell?_of_block (a := ⟨g, 3, none⟩) (hw'.block g hgz3)).trans ((E 3).trans e3)
        obtain ⟨a1, l1, hu1, -⟩ := hr1.slice
        obtain ⟨a2, l2, hu2, -⟩ := hr2.slice
        obtain ⟨cn, hcn⟩ : ∃ n, n = c.length := ⟨_, rfl⟩
        obtain ⟨dn, hdn⟩ : ∃ n, n = d.length := ⟨_, rfl⟩
        rw [← hcn] at hu1
        rw [← hdn] at hu2
        subst hu1 hu2
        have HR1 := Lib.hid hr1'
        have HR2 := Lib.hid hr2'
        have r3 : ∀ w', Below W2.heap.size W2 w' → w'.cell? ⟨g, 7, none⟩ = some (.slice a1 cn l1) := fun w' hw' => (World.cell?_of_block (a := ⟨g, 7, none⟩) (hw'.block g hgz3)).trans ((E 7).trans e7)
        have r4 : ∀ w', Below W2.heap.size W2 w' → w'.cell? ⟨g, 10, none⟩ = some (.slice a2 dn l2) := fun w' hw' => (World.cell?_of_block (a := ⟨g, 10, none⟩) (hw'.block g hgz3)).trans ((E 10).trans e10)
        have hS : Below W2.heap.size W2 W2.drew := (Below.refl _ W2).drew
        clear hW2 hb2 k2 kz E e0 e3 e7 e10 hr1 hr2 hr1' hr2' hcn hdn q1 q2 q3 c0 c1 c2 c3 f0 f1 f2 f3 cz d0 d1 d2 d3 g0 g1 g2 g3 dz hx hy hgz hgz1 hgz2 hgz3
        refine wp_region_held (S := fun w' => Below W2.heap.size W2 w') (by kernel_rfl) ?_
        refine H_take (i := 0) (v := ?_) rfl (by as_aux_lemma => kernel_rfl) (by as_aux_lemma => kernel_rfl) (by as_aux_lemma => kernel_rfl) (fun _ _ _ h => h) (by rfl) hS ?_ ?_
        rotate_left
        · intro w' hw'; go_simp; with_reducible rfl
        go_simp
        refine H_take (i := 1) (v := ?_) rfl (by as_aux_lemma => kernel_rfl) (by as_aux_lemma => kernel_rfl) (by as_aux_lemma => kernel_rfl) (fun _ _ _ h => h) (by rfl) hS ?_ ?_
        rotate_left
        · intro w' hw'; go_simp; with_reducible rfl
        go_simp
        refine H_take (i := 2) (v := ?_) rfl (by as_aux_lemma => kernel_rfl) (by as_aux_lemma => kernel_rfl) (by as_aux_lemma => kernel_rfl) (fun _ _ _ h => h) (by rfl) hS ?_ ?_
        rotate_left
        · intro w' hw'; go_simp; with_reducible rfl
        go_simp
        refine H_take (i := 3) (v := ?_) rfl (by as_aux_lemma => kernel_rfl) (by as_aux_lemma => kernel_rfl) (by as_aux_lemma => kernel_rfl) (fun _ _ _ h => h) (by rfl) hS ?_ ?_
        rotate_left
        · intro w' hw'; go_simp; with_reducible rfl
        go_simp
        refine H_take (i := 4) (v := ?_) rfl (by as_aux_lemma => kernel_rfl) (by as_aux_lemma => kernel_rfl) (by as_aux_lemma => kernel_rfl) (fun _ _ _ h => h) (by rfl) hS ?_ ?_
        rotate_left
        · intro w' hw'; go_simp; with_reducible rfl
        go_simp
        refine H_take (i := 5) (v := ?_) rfl (by as_aux_lemma => kernel_rfl) (by as_aux_lemma => kernel_rfl) (by as_aux_lemma => kernel_rfl) (fun _ _ _ h => h) (by rfl) hS ?_ ?_
        rotate_left
        · intro w' hw'; go_simp; with_reducible rfl
        go_simp
        refine H_take (i := 6) (v := ?_) rfl (by as_aux_lemma => kernel_rfl) (by as_aux_lemma => kernel_rfl) (by as_aux_lemma => kernel_rfl) (fun _ _ _ h => h) (by rfl) hS ?_ ?_
        rotate_left
        · intro w' hw'; go_simp; with_reducible rfl
        go_simp
        refine H_take (i := 7) (v := ?_) rfl (by as_aux_lemma => kernel_rfl) (by as_aux_lemma => kernel_rfl) (by as_aux_lemma => kernel_rfl) (fun _ _ _ h => h) (by rfl) hS ?_ ?_
        rotate_left
        · intro w' hw'; go_simp; with_reducible rfl
        go_simp
        refine H_take (i := 8) (v := ?_) rfl (by as_aux_lemma => kernel_rfl) (by as_aux_lemma => kernel_rfl) (by as_aux_lemma => kernel_rfl) (fun _ _ _ h => h) (by rfl) hS ?_ ?_
        rotate_left
        · intro w' hw'; go_simp; with_reducible rfl
        go_simp
        refine H_take (i := 9) (v := ?_) rfl (by as_aux_lemma => kernel_rfl) (by as_aux_lemma => kernel_rfl) (by as_aux_lemma => kernel_rfl) (fun _ _ _ h => h) (by rfl) hS ?_ ?_
        rotate_left
        · intro w' hw'; go_simp; with_reducible rfl
        go_simp
        refine H_take (i := 10) (v := ?_) rfl (by as_aux_lemma => kernel_rfl) (by as_aux_lemma => kernel_rfl) (by as_aux_lemma => kernel_rfl) (fun _ _ _ h => h) (by rfl) hS ?_ ?_
        rotate_left
        · intro w' hw'; go_simp; with_reducible rfl
        go_simp
        refine H_take (i := 11) (v := ?_) rfl (by as_aux_lemma => kernel_rfl) (by as_aux_lemma => kernel_rfl) (by as_aux_lemma => kernel_rfl) (fun _ _ _ h => h) (by rfl) hS ?_ ?_
        rotate_left
        · intro w' hw'; go_simp; with_reducible rfl
        go_simp
        refine H_take (i := 12) (v := ?_) rfl (by as_aux_lemma => kernel_rfl) (by as_aux_lemma => kernel_rfl) (by as_aux_lemma => kernel_rfl) (fun _ _ _ h => h) (by rfl) hS ?_ ?_
        rotate_left
        · intro w' hw'; go_simp; with_reducible rfl
        go_simp
        refine H_take (i := 13) (v := ?_) rfl (by as_aux_lemma => kernel_rfl) (by as_aux_lemma => kernel_rfl) (by as_aux_lemma => kernel_rfl) (fun _ _ _ h => h) (by rfl) hS ?_ ?_
        rotate_left
        · intro w' hw'; go_simp; with_reducible rfl
        go_simp
        refine H_take (i := 14) (v := ?_) rfl (by as_aux_lemma => kernel_rfl) (by as_aux_lemma => kernel_rfl) (by as_aux_lemma => kernel_rfl) (fun _ _ _ h => h) (by rfl) hS ?_ ?_
        rotate_left
        · intro w' hw'; go_simp; with_reducible rfl
        go_simp
        refine H_take (i := 15) (v := ?_) rfl (by as_aux_lemma => kernel_rfl) (by as_aux_lemma => kernel_rfl) (by as_aux_lemma => kernel_rfl) (fun _ _ _ h => h) (by rfl) hS ?_ ?_
        rotate_left
        · intro w' hw'; go_simp; with_reducible rfl
        go_simp
        refine H_take (i := 16) (v := ?_) rfl (by as_aux_lemma => kernel_rfl) (by as_aux_lemma => kernel_rfl) (by as_aux_lemma => kernel_rfl) (fun _ _ _ h => h) (by rfl) hS ?_ ?_
        rotate_left
        · intro w' hw'; go_simp; with_reducible rfl
        go_simp
        refine H_take (i := 17) (v := ?_) rfl (by as_aux_lemma => kernel_rfl) (by as_aux_lemma => kernel_rfl) (by as_aux_lemma => kernel_rfl) (fun _ _ _ h => h) (by rfl) hS ?_ ?_
        rotate_left
        · intro w' hw'; go_simp; with_reducible rfl
        go_simp
        refine H_take (i := 18) (v := ?_) rfl (by as_aux_lemma => kernel_rfl) (by as_aux_lemma => kernel_rfl) (by as_aux_lemma => kernel_rfl) (fun _ _ _ h => h) (by rfl) hS ?_ ?_
        rotate_left
        · intro w' hw'; go_simp; with_reducible rfl
        go_simp
        refine H_take (i := 19) (v := ?_) rfl (by as_aux_lemma => kernel_rfl) (by as_aux_lemma => kernel_rfl) (by as_aux_lemma => kernel_rfl) (fun _ _ _ h => h) (by rfl) hS ?_ ?_
        rotate_left
        · intro w' hw'; go_simp; with_reducible rfl
        go_simp
        refine H_take (i := 20) (v := ?_) rfl (by as_aux_lemma => kernel_rfl) (by as_aux_lemma => kernel_rfl) (by as_aux_lemma => kernel_rfl) (fun _ _ _ h => h) (by rfl) hS ?_ ?_
        rotate_left
        · intro w' hw'; go_simp; with_reducible rfl
        go_simp
        refine H_take (i := 21) (v := ?_) rfl (by as_aux_lemma => kernel_rfl) (by as_aux_lemma => kernel_rfl) (by as_aux_lemma => kernel_rfl) (fun _ _ _ h => h) (by rfl) hS ?_ ?_
        rotate_left
        · intro w' hw'; go_simp; with_reducible rfl
        go_simp
        refine H_take (i := 22) (v := ?_) rfl (by as_aux_lemma => kernel_rfl) (by as_aux_lemma => kernel_rfl) (by as_aux_lemma => kernel_rfl) (fun _ _ _ h => h) (by rfl) hS ?_ ?_
        rotate_left
        · intro w' hw'; go_simp; with_reducible rfl
        go_simp
        refine H_take (i := 23) (v := ?_) rfl (by as_aux_lemma => kernel_rfl) (by as_aux_lemma => kernel_rfl) (by as_aux_lemma => kernel_rfl) (fun _ _ _ h => h) (by rfl) hS ?_ ?_
        rotate_left
        · intro w' hw'; go_simp; with_reducible rfl
        go_simp
        refine H_one (i := 24) (by as_aux_lemma => kernel_rfl) rfl (by rfl) ?_
        go_simp
        refine ⟨hS.alloc (Nat.le_refl _) _, ?_⟩
        go_simp
        refine H_one (i := 25) (by as_aux_lemma => kernel_rfl) rfl (by rfl) ?_
        go_simp
        obtain ⟨W3, hW3⟩ : ∃ W3, W3 = (W2.alloc (.cells #[.int .i64 (x : Int), .int .i64 (y : Int), .slice a1 cn l1, .slice a2 dn l2] 53)).drew := ⟨_, rfl⟩
        rw [← hW3]
        have hb3 : Below W2.heap.size W2 W3 := by rw [hW3]; exact (below_alloc _ _).drew
        have HB3 : Hid (Below w.heap.size w W3) := Lib.hid (HB2.out.trans (hb3.mono HB2.out.size))
        have HX3 : Hid (W3.heap[W2.heap.size]? = some (.cells #[.int .i64 (x : Int), .int .i64 (y : Int), .slice a1 cn l1, .slice a2 dn l2] 53)) := Lib.hid (by rw [hW3]; exact heap_new W2 _ _ rfl)
        obtain ⟨s0, s1, s2, s3, -, -, -, -, sz⟩ := sh_four HX3.out
        have HBB := Lib.hid hb3
        refine ⟨hb3, ?_⟩
        refine wpAnyH_done (by as_aux_lemma => kernel_rfl) ?_ _
        clear r0 r1 r2 r3 r4 hS hb3 hW3
        go_wp2_with fail
        refine (RefRight6_any (x : Int) (y : Int) W3).mono ?_
        rintro e w4 ⟨rfl, hb4⟩
        clear s0 s1 s2 s3 sz
        have HB4 : Hid (Below w.heap.size w w4) := Lib.hid (HB3.out.trans (hb4.mono HB3.out.size))
        have hb24 : Below W2.heap.size W2 w4 := HBB.out.trans (hb4.mono HBB.out.size)
        obtain ⟨c0, c1, c2, c3, f0, f1, f2, f3, cz⟩ := sh_four (old_below HX0''.out hb24)
        obtain ⟨d0, d1, d2, d3, g0, g1, g2, g3, dz⟩ := sh_four (old_below HX1''.out hb24)
        obtain ⟨s0, s1, s2, s3, -, -, -, -, sz⟩ := sh_four (old_below HX3.out hb4)
        have HR1' : Hid (RepB w4 (fun j => w.heap.size ≤ j ∧ j < w4.heap.size ∧ j ≠ w.heap.size) c (.slice a1 cn l1)) := Lib.hid (HR1.out.same (fun j hj => ⟨by have := HWZ.out; have := hj.1; omega, by have := hb24.size; have := hj.2; omega, by have := HWZ.out; have := hj.1; omega⟩) fun j hj => hb24.block j hj.2)
        have HR2' : Hid (RepB w4 (fun j => w.heap.size ≤ j ∧ j < w4.heap.size ∧ j ≠ w.heap.size) d (.slice a2 dn l2)) := Lib.hid (HR2.out.same (fun j hj => ⟨by have := HWZ.out; have := hj.1; omega, by have := hb24.size; have := hj.2; omega, by have := HWZ.out; have := hj.1; omega⟩) fun j hj => hb24.block j hj.2)
        clear hb4 hb24
        cases hok : okSn ((x : Int), (y : Int)) with
        | false =>
          have HE' : Hid (R = .error 13) := Lib.hid (by
            rw [HT.out, if_neg]
            intro h
            have h2 : okSn ((x : Int), (y : Int)) = true := okSn_iff.2 (by
              show 1 ≤ (x : Int) ∧ (x : Int) < 10000000000 ∧ 1 ≤ (y : Int) ∧ (y : Int) < 10000000000
              omega)
            rw [h2] at hok
            cases hok)
          clear hok
          go_wp2_with fail
          refine bodyPost_ret (v := .tuple #[.agg #[.int .i64 0, .int .i64 0, .slice none 0 0, .slice none 0 0], .int .i64 13]) (by simp [results, Tryz.results24, go_sem, c0, c1, c2, c3, cz]) rfl ?_
          refine SnPost.err HE'.out ?_
          first
            | exact HB4.out
            | exact (((HB4.out.setCell (by simp) _).setCell (by simp) _).setCell (by simp) _).setCell (by simp) _
        | true =>
          have HE' : Hid (R = .ok ⟨x, y, c, d⟩) := Lib.hid (by
            have h := okSn_iff.1 hok
            simp only at h
            rw [HT.out, if_pos ⟨by omega, by omega, by omega, by omega⟩])
          clear hok
          go_wp2_with fail
          refine bodyPost_ret (v := .tuple #[.agg #[.int .i64 (x : Int), .int .i64 (y : Int), .slice a1 cn l1, .slice a2 dn l2], .int .i64 0]) (by simp [results, Tryz.results24, go_sem, c0, c1, c2, c3, cz]) rfl ?_
          rw [HE'.out]
          refine ⟨(((HB4.out.setCell (by simp) _).setCell (by simp) _).setCell (by simp) _).setCell (by simp) _, _, _, rfl, ?_, ?_⟩
          · refine HR1'.out.same (fun j hj => ⟨hj.1, by simpa using hj.2.1⟩) fun j hj => ?_
            rw [Below.heap_setCell _ _ _ _ (by simpa using hj.2.2), Below.heap_setCell _ _ _ _ (by simpa using hj.2.2), Below.heap_setCell _ _ _ _ (by simpa using hj.2.2), Below.heap_setCell _ _ _ _ (by simpa using hj.2.2)]
          · refine HR2'.out.same (fun j hj => ⟨hj.1, by simpa using hj.2.1⟩) fun j hj => ?_
            rw [Below.heap_setCell _ _ _ _ (by simpa using hj.2.2), Below.heap_setCell _ _ _ _ (by simpa using hj.2.2), Below.heap_setCell _ _ _ _ (by simpa using hj.2.2), Below.heap_setCell _ _ _ _ (by simpa using hj.2.2)]
end Go.Proofs.YtbcpcopapbgcdaaGreatDoor.M

/- Part: ShR5. -/
namespace Go.Proofs.YtbcpcopapbgcdaaGreatDoor.M
open Go.RowKit

/-- What a name says, as an int. -/
def idxN (nm : ByteArray) : Int := match snIdx nm with
  | none => -1
  | some n => n

theorem idxN_none {nm : ByteArray} (h : snIdx nm = none) : idxN nm = -1 := by unfold idxN; rw [h]
theorem idxN_some {nm : ByteArray} {n : Nat} (h : snIdx nm = some n) : idxN nm = n := by unfold idxN; rw [h]

set_option maxRecDepth 20000 in
set_option maxHeartbeats 1600000 in
theorem RefIdx6_any (nm : ByteArray) (w : World) (hnm : nm.size ≤ 9223372036854775807) :
    Calls Tryz.prog 90 #[.string nm] w fun e w' => e = .returned (.int .i64 (idxN nm)) ∧ w' = w := by
  obtain ⟨R, hR⟩ : ∃ R, R = idxN nm := ⟨_, rfl⟩
  rw [← hR]
  have HR := Lib.hid hR
  clear hR
  by_cases h15 : nm.size = 15
  · have q1 : (nm.size : Int) = 15 := by omega
    have q2 : ((nm.size : Int) != 15) = false := by simp; omega
    have HPX : Hid (((nm.extract 0 5).toList == [115, 110, 97, 112, 45]) = (nm.data.toList.take 5 == [115, 110, 97, 112, 45])) := Lib.hid (by
      have e : nm.extract 0 5 = strOf (nm.data.toList.take 5) := by
        apply ByteArray.ext
        simp only [strOf, ByteArray.data_extract]
        apply Array.ext'
        simp [Array.toList_extract, List.extract_eq_take_drop]
      have e2 : ([115, 110, 97, 112, 45] : List UInt8) = (strOf [115, 110, 97, 112, 45]).toList := by decide +kernel
      rw [e, e2, str_beq, ← e2])
    obtain ⟨T, hT⟩ : ∃ T, T = nm.data.toList.drop 5 := ⟨_, rfl⟩
    have hTL : T.length = 10 := by rw [hT, List.length_drop]; show nm.data.toList.length - 5 = 10; have : nm.data.toList.length = nm.size := rfl; omega
    have HTL := Lib.hid hTL
    have HGT : Hid (∀ (k : Nat) (hk : k < nm.size) (h5 : 5 ≤ k) (hk2 : k - 5 < T.length), nm[k] = T[k - 5]) := Lib.hid fun k hk h5 hk2 => by
      subst hT
      rw [List.getElem_drop]
      have e : 5 + (k - 5) = k := by omega
      simp only [e]
      rfl
    have HS : Hid (snIdx nm = if nm.data.toList.take 5 = [115, 110, 97, 112, 45] ∧ T.all isDig = true then some (digs T) else none) := Lib.hid (by
      unfold snIdx
      rw [← hT]
      simp only [h15, true_and])
    have H15 := Lib.hid h15
    clear hT hTL h15 hnm
    cases hpf : (nm.data.toList.take 5 == [115, 110, 97, 112, 45]) with
    | false =>
      have p0 := HPX.out.trans hpf
      have HE : Hid (R = -1) := Lib.hid (by rw [HR.out]; exact idxN_none (by rw [HS.out, if_neg]; rintro ⟨h, -⟩; rw [h] at hpf; simp at hpf))
      clear hpf
      go_enter Tryz.func90, Tryz.ntmps90
      go_wp2_with fail
      go_ret
      exact ⟨by rw [HE.out]; rfl, rfl⟩
    | true =>
      have p0 := HPX.out.trans hpf
      have HS2 : Hid (snIdx nm = if T.all isDig = true then some (digs T) else none) := Lib.hid (by
        have h : nm.data.toList.take 5 = [115, 110, 97, 112, 45] := by simpa using hpf
        rw [HS.out]
        simp only [h, true_and])
      clear hpf
      go_enter Tryz.func90, Tryz.ntmps90
      go_wp2_with fail
      clear p0
      go_loop [3, 4] (fun n i => ∃ j : Nat, 5 ≤ j ∧ j ≤ 15 ∧ i = .int .i64 (j : Int) ∧ n = .int .i64 ((digs (T.take (j - 5)) : Nat) : Int) ∧ Hid ((T.take (j - 5)).all isDig = true)) (fun _ i => 15 - (intOf i).toNat)
      case atStart => exact ⟨5, Nat.le_refl _, by omega, rfl, rfl, Lib.hid rfl⟩
      case round =>
        obtain ⟨j, hj5, hj, rfl, rfl, HAL⟩ := hrel
        by_cases hlt : j < 15
        · have hkk : (j : Int) < 15 := by omega
          have hjn : j < nm.size := by rw [H15.out]; exact hlt
          have hjn2 : (j : Int) < (nm.size : Int) := by omega
          have hk2 : j - 5 < T.length := by rw [HTL.out]; omega
          have hb : digs (T.take (j - 5)) < 10000000000 := by
            have h1 := digs_bound _ HAL.out
            rw [List.length_take, Nat.min_eq_left (by omega)] at h1
            have : 10 ^ (j - 5) ≤ 10 ^ 10 := Nat.pow_le_pow_right (by omega) (by omega)
            omega
          have hcl := nm[j].toNat_lt
          have hdg : isDig T[j - 5] = decide (48 ≤ nm[j].toNat ∧ nm[j].toNat ≤ 57) := by unfold isDig; rw [HGT.out j hjn hj5 hk2]
          have HND : Hid (¬ (48 ≤ nm[j].toNat ∧ nm[j].toNat ≤ 57) → R = -1) := Lib.hid fun h => by
            rw [HR.out]
            refine idxN_none ?_
            rw [HS2.out, if_neg]
            intro h2
            have h3 := List.all_eq_true.1 h2 _ (List.getElem_mem hk2)
            rw [hdg] at h3
            exact h (of_decide_eq_true h3)
          have HST : Hid (digs (T.take (j + 1 - 5)) = 10 * digs (T.take (j - 5)) + (nm[j].toNat - 48) ∧ ((48 ≤ nm[j].toNat ∧ nm[j].toNat ≤ 57) → (T.take (j + 1 - 5)).all isDig = true)) := Lib.hid ⟨by rw [show j + 1 - 5 = (j - 5) + 1 by omega, HGT.out j hjn hj5 hk2]; exact take_digs hk2, fun h => by
            rw [show j + 1 - 5 = (j - 5) + 1 by omega, List.take_succ_eq_append_getElem hk2, List.all_append, HAL.out]
            simp only [List.all_cons, List.all_nil, Bool.and_true, Bool.true_and]
            rw [hdg]
            exact decide_eq_true h⟩
          obtain ⟨p, hp⟩ : ∃ p, p = digs (T.take (j - 5)) := ⟨_, rfl⟩
          rw [← hp] at hb HST ⊢
          have b1 : (p : Int) < 10000000000 := by omega
          have b3 : (0 : Int) ≤ (p : Int) := by omega
          have HLT := Lib.hid hlt
          clear hdg hp hb hk2
          rcases (show nm[j].toNat < 48 ∨ (48 ≤ nm[j].toNat ∧ ¬ nm[j].toNat ≤ 57) ∨ (48 ≤ nm[j].toNat ∧ nm[j].toNat ≤ 57) by omega) with h | ⟨h, h2⟩ | ⟨h, h2⟩
          · have p1 : (nm[j].toNat : Int) < 48 := by omega
            have HF : Hid (R = -1) := Lib.hid (HND.out (by omega))
            clear h
            go_wp2_with fail
            go_ret
            exact ⟨by rw [HF.out]; rfl, rfl⟩
          · have p1 : decide ((nm[j].toNat : Int) < 48) = false := decide_eq_false (by omega)
            have p2 : (57 : Int) < (nm[j].toNat : Int) := by omega
            have HF : Hid (R = -1) := Lib.hid (HND.out (by omega))
            clear h h2
            go_wp2_with fail
            go_ret
            exact ⟨by rw [HF.out]; rfl, rfl⟩
          · have p1 : decide ((nm[j].toNat : Int) < 48) = false := decide_eq_false (by omega)
            have p2 : decide ((57 : Int) < (nm[j].toNat : Int)) = false := decide_eq_false (by omega)
            have p3 : (48 : Int) ≤ (nm[j].toNat : Int) := by omega
            have p4 : (nm[j].toNat : Int) ≤ 57 := by omega
            have HAL2 : Hid ((T.take (j + 1 - 5)).all isDig = true) := Lib.hid (HST.out.2 ⟨h, h2⟩)
            have HC48 := Lib.hid h
            clear h h2
            go_wp2_with fail
            go_round
            case rel => exact ⟨j + 1, by omega, by omega, by go_num, by rw [HST.out.1]; have := HC48.out; go_num, HAL2⟩
            case measure => simp [intOf]; omega
        · have hkk : ¬ (j : Int) < 15 := by omega
          obtain rfl : j = 15 := by omega
          have HF : Hid (R = ((digs (T.take 10) : Nat) : Int)) := Lib.hid (by
            have e : T.take 10 = T := List.take_of_length_le (by rw [HTL.out]; omega)
            have h := HAL.out
            rw [show (15 : Nat) - 5 = 10 from rfl, e] at h
            rw [e, HR.out]
            exact idxN_some (by rw [HS2.out, if_pos h]))
          go_wp2_with fail
          go_ret
          exact ⟨by rw [HF.out]; rfl, rfl⟩
  · have q : decide ((nm.size : Int) = 15) = false := by simp; omega
    have q2 : ((nm.size : Int) != 15) = true := by simp; omega
    have HE : Hid (R = -1) := Lib.hid (by rw [HR.out]; exact idxN_none (by unfold snIdx; rw [if_neg fun h => h15 h.1]))
    clear h15
    go_enter Tryz.func90, Tryz.ntmps90
    go_wp2_with fail
    go_ret
    exact ⟨by rw [HE.out]; rfl, rfl⟩
end Go.Proofs.YtbcpcopapbgcdaaGreatDoor.M
