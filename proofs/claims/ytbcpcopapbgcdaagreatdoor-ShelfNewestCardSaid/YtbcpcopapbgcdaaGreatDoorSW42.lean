/- The law ShelfParses. The document's shelf: the newest of a disk. The document's shelf: a snapshot's name. -/
import Derived.Test.YtbcpcopapbgcdaaGreatDoorSW31
import Derived.Test.YtbcpcopapbgcdaaGreatDoorSW41
/- Part: LawShParses. -/
namespace Go.Proofs.YtbcpcopapbgcdaaGreatDoor.M
open Go.RowKit

def ansS : Except Int Sn → Sn
  | .error _ => Sn.zero
  | .ok x => x

def ansE : Except Int Sn → Int
  | .error c => c
  | .ok _ => 0

theorem SnPost.ans {w : World} {r : Except Int Sn} {e : Ending} {w' : World} (h : SnPost w r e w') : Below w.heap.size w w' ∧ ∃ (a1 : Option Addr) (n1 c1 : Nat) (a2 : Option Addr) (n2 c2 : Nat),
    e = .returned (.tuple #[.agg #[.int .i64 (ansS r).idx, .int .i64 (ansS r).term, .slice a1 n1 c1, .slice a2 n2 c2], .int .i64 (ansE r)]) ∧
    RepB w' (fun k => w.heap.size ≤ k ∧ k < w'.heap.size) (ansS r).conf (.slice a1 n1 c1) ∧ RepB w' (fun k => w.heap.size ≤ k ∧ k < w'.heap.size) (ansS r).body (.slice a2 n2 c2) := by
  obtain ⟨hb, h2⟩ := h
  refine ⟨hb, ?_⟩
  cases r with
  | error c => exact ⟨none, 0, 0, none, 0, 0, h2, .inl ⟨rfl, Bare.nil⟩, .inl ⟨rfl, Bare.nil⟩⟩
  | ok x =>
    obtain ⟨u1, u2, he, r1, r2⟩ := h2
    obtain ⟨a1, c1, rfl, -⟩ := r1.slice
    obtain ⟨a2, c2, rfl, -⟩ := r2.slice
    exact ⟨a1, _, c1, a2, _, c2, he, r1, r2⟩

/-- A refusal is no 0. -/
theorem snParse_fair {b : List UInt8} (h : ansE (snParse b) = 0) : ∃ y, snParse b = .ok y := by
  cases h1 : snParse b with
  | ok y => exact ⟨y, rfl⟩
  | error c =>
    rw [h1] at h
    have h : c = 0 := h
    subst h
    exfalso
    unfold snParse at h1
    split at h1
    · cases h1
    · split at h1
      · cases h1
      · rcases snTake_err h1 with h | h | h <;> cases h


set_option maxRecDepth 20000 in
set_option maxHeartbeats 12800000 in
theorem ShelfParses_any (B : List UInt8) (x : Sn) (F : Nat → Prop) (v cv bv : Value) (w : World) (hv : RepB w F B v) (hc : RepB w F x.conf cv) (hb : RepB w F x.body bv) (hF : ∀ k, F k → k < w.heap.size) (hT : Hid (Tab w)) (hP : Hid (Pow10 w)) (hbk : x.conf.length + x.body.length ≤ 281474976710656) :
    Calls Tryz.prog 5 #[v, snAgg x cv bv] w fun e w' => e = .returned (.bool true) ∧ Below w.heap.size w w' := by
  obtain ⟨xi, xt, xc, xb⟩ := x
  simp only at hc hb hbk
  unfold snAgg
  simp only
  obtain ⟨va, vc, rfl, hvl⟩ := hv.slice
  obtain ⟨ca, cc, rfl, hcl⟩ := hc.slice
  obtain ⟨ba, bc, rfl, hbl⟩ := hb.slice
  obtain ⟨W, hW⟩ : ∃ W, W = w.alloc (.cells #[.int .i64 xi, .int .i64 xt, .slice ca xc.length cc, .slice ba xb.length bc] 53) := ⟨_, rfl⟩
  have hbw : Below w.heap.size w W := by rw [hW]; exact below_alloc _ _
  have HBW := Lib.hid hbw
  have HX : Hid (W.heap[w.heap.size]? = some (.cells #[.int .i64 xi, .int .i64 xt, .slice ca xc.length cc, .slice ba xb.length bc] 53)) := Lib.hid (by rw [hW]; exact heap_new _ _ _ rfl)
  have HCV : Hid (∀ w', Below W.heap.size W w' → RepB w' F B (.slice va B.length vc)) := Lib.hid fun w' hw' => hv.same (fun _ h => h) fun k hk => (hw'.block k (Nat.lt_of_lt_of_le (hF k hk) hbw.size)).trans (hbw.block k (hF k hk))
  have HCC : Hid (∀ w', Below W.heap.size W w' → RepB w' F xc (.slice ca xc.length cc)) := Lib.hid fun w' hw' => hc.same (fun _ h => h) fun k hk => (hw'.block k (Nat.lt_of_lt_of_le (hF k hk) hbw.size)).trans (hbw.block k (hF k hk))
  have HCB : Hid (∀ w', Below W.heap.size W w' → RepB w' F xb (.slice ba xb.length bc)) := Lib.hid fun w' hw' => hb.same (fun _ h => h) fun k hk => (hw'.block k (Nat.lt_of_lt_of_le (hF k hk) hbw.size)).trans (hbw.block k (hF k hk))
  have HF := Lib.hid hF
  have HTW : Hid (Tab W) := Lib.hid (hT.out.next hbw)
  have HPW : Hid (Pow10 W) := Lib.hid (hP.out.next hbw)
  have HA : Hid (∀ wx : World, Below W.heap.size W wx → Calls Tryz.prog 22 #[] wx fun e w' => e = .returned (.bool true) ∧ Below W.heap.size W w') := Lib.hid fun wx hb =>
    (awake6_any wx (Lib.hid (HTW.out.next hb)) (Lib.hid (HPW.out.next hb))).mono fun e w' h => ⟨h.1, hb.trans (h.2.mono hb.size)⟩
  have HW := Lib.hid hW
  have hcl' : (xc.length : Int) ≤ 9223372036854775807 := by omega
  have hbl' : (xb.length : Int) ≤ 9223372036854775807 := by omega
  clear hv hc hb hF hbw hW hvl hcl hbl
  by_cases hbig : 2000 < B.length ∨ 2000 < xc.length + xb.length
  · obtain ⟨x0, x1, x2, x3, -, -, -, -, xz⟩ := sh_four HX.out
    have hsum : (xc.length : Int) + (xb.length : Int) ≤ 281474976710656 := by omega
    rcases (show 2000 < (B.length : Int) ∨ (¬ 2000 < (B.length : Int) ∧ 2000 < (xc.length : Int) + (xb.length : Int)) by omega) with q | ⟨q, q2⟩
    · clear hbig hbk
      go_enter Tryz.func5, Tryz.ntmps5
      go_wp2_with fail
      rw [← HW.out]
      refine (HA.out W (Below.refl _ _)).mono ?_
      rintro e w0 ⟨rfl, hb0⟩
      clear x0 x1 x2 x3 xz
      obtain ⟨x0, x1, x2, x3, -, -, -, -, xz⟩ := sh_four (old_below HX.out hb0)
      have HB0 := Lib.hid hb0
      clear hb0
      go_wp2_with fail
      refine (HA.out w0 HB0.out).mono ?_
      rintro e w1 ⟨rfl, hb1⟩
      have HB1 := Lib.hid hb1
      clear x0 x1 x2 x3 xz hb1
      go_wp2_with fail
      go_ret
      exact ⟨rfl, HBW.out.trans (HB1.out.mono HBW.out.size)⟩
    · have q1 : decide ((2000 : Int) < (B.length : Int)) = false := by simp; omega
      clear hbig q hbk
      go_enter Tryz.func5, Tryz.ntmps5
      go_wp2_with fail
      rw [← HW.out]
      refine (HA.out W (Below.refl _ _)).mono ?_
      rintro e w0 ⟨rfl, hb0⟩
      clear x0 x1 x2 x3 xz
      obtain ⟨x0, x1, x2, x3, -, -, -, -, xz⟩ := sh_four (old_below HX.out hb0)
      have HB0 := Lib.hid hb0
      clear hb0
      go_wp2_with fail
      refine (HA.out w0 HB0.out).mono ?_
      rintro e w1 ⟨rfl, hb1⟩
      have HB1 := Lib.hid hb1
      clear x0 x1 x2 x3 xz hb1
      go_wp2_with fail
      go_ret
      exact ⟨rfl, HBW.out.trans (HB1.out.mono HBW.out.size)⟩
  · have q1 : decide ((2000 : Int) < (B.length : Int)) = false := by simp; omega
    have q2 : decide ((2000 : Int) < (xc.length : Int) + (xb.length : Int)) = false := by simp; omega
    have hcb : (xc.length : Int) + (xb.length : Int) ≤ 281474976710656 := by omega
    have HLB : Hid (B.length ≤ 2000) := Lib.hid (by omega)
    have HLX : Hid (xc.length + xb.length ≤ 2000) := Lib.hid (by omega)
    obtain ⟨⟨yi, yt, yc, yb⟩, hy⟩ : ∃ y, y = ansS (snParse B) := ⟨_, rfl⟩
    obtain ⟨ce, hce⟩ : ∃ c, c = ansE (snParse B) := ⟨_, rfl⟩
    have HY := Lib.hid hy
    have HCE := Lib.hid hce
    have HP1 : Hid (∀ (wx : World) (G : Nat → Prop) (u : Value), RepB wx G B u → (∀ k, G k → k < wx.heap.size) → Below W.heap.size W wx → Calls Tryz.prog 23 #[u] wx fun e w' => Below wx.heap.size wx w' ∧ ∃ (a1 : Option Addr) (n1 c1 : Nat) (a2 : Option Addr) (n2 c2 : Nat),
        e = .returned (.tuple #[.agg #[.int .i64 yi, .int .i64 yt, .slice a1 n1 c1, .slice a2 n2 c2], .int .i64 ce]) ∧ RepB w' (fun k => wx.heap.size ≤ k ∧ k < w'.heap.size) yc (.slice a1 n1 c1) ∧ RepB w' (fun k => wx.heap.size ≤ k ∧ k < w'.heap.size) yb (.slice a2 n2 c2)) := Lib.hid fun wx G u hu hG hbx =>
      (ShParse_any B G u wx hu hG (by have := HLB.out; omega) (Lib.hid (HTW.out.next hbx))).mono fun e w' h => by
        have h2 := h.ans
        rw [← HY.out, ← HCE.out] at h2
        exact h2
    have HP2 : Hid (∀ (wx : World) (G : Nat → Prop) (u : Value), RepB wx G B u → (∀ k, G k → k < wx.heap.size) → Calls Tryz.prog 24 #[u] wx fun e w' => Below wx.heap.size wx w' ∧ ∃ (a1 : Option Addr) (n1 c1 : Nat) (a2 : Option Addr) (n2 c2 : Nat),
        e = .returned (.tuple #[.agg #[.int .i64 yi, .int .i64 yt, .slice a1 n1 c1, .slice a2 n2 c2], .int .i64 ce]) ∧ RepB w' (fun k => wx.heap.size ≤ k ∧ k < w'.heap.size) yc (.slice a1 n1 c1) ∧ RepB w' (fun k => wx.heap.size ≤ k ∧ k < w'.heap.size) yb (.slice a2 n2 c2)) := Lib.hid fun wx G u hu hG =>
      (RefParse_any B G u wx hu hG (by have := HLB.out; omega)).mono fun e w' h => by
        have h2 := h.ans
        rw [← HY.out, ← HCE.out] at h2
        exact h2
    obtain ⟨x0, x1, x2, x3, -, -, -, -, xz⟩ := sh_four HX.out
    clear hbig hy hce hbk
    go_enter Tryz.func5, Tryz.ntmps5
    go_wp2_with fail
    rw [← HW.out]
    refine (HA.out W (Below.refl _ _)).mono ?_
    rintro e w1 ⟨rfl, hb1⟩
    clear x0 x1 x2 x3 xz
    have HB1 := Lib.hid hb1
    obtain ⟨x0, x1, x2, x3, -, -, -, -, xz⟩ := sh_four (old_below HX.out hb1)
    clear hb1
    go_wp2_with (at_builtin; refine wpList_own_append (w := w1) (L := []) (L2 := B) rfl (.tmp 31) (.tmp 32) rfl rfl rfl (Own.lit (Below.refl _ w1) rfl) rfl (F := F) ((HCV.out _ HB1.out).same (fun _ h => h) fun k hk => Below.heap_alloc _ _ _ (Nat.lt_of_lt_of_le (HF.out k hk) (Nat.le_trans HBW.out.size HB1.out.size))) (by have := HLB.out; simp; omega) ?_)
    intro v2 w2 h2
    have H2 : Hid (Own w1 B v2 w2) := Lib.hid (by simpa using h2)
    obtain ⟨a2, k2, rfl⟩ := H2.out.slice
    have HB2 : Hid (Below W.heap.size W w2) := Lib.hid (HB1.out.trans (H2.out.1.mono HB1.out.size))
    clear h2 x0 x1 x2 x3 xz
    go_wp2_with fail
    refine (HP1.out w2 _ _ H2.out.rep (fun k hk => hk.2) HB2.out).mono ?_
    rintro e w3 ⟨hb3, g1, m1, l1, g2, m2, l2, rfl, hr1, hr2⟩
    have HB3 : Hid (Below W.heap.size W w3) := Lib.hid (HB2.out.trans (hb3.mono HB2.out.size))
    have HR1 := Lib.hid hr1
    have HR2 := Lib.hid hr2
    clear hb3 hr1 hr2
    go_wp2_with fail
    obtain ⟨W3, hW3⟩ : ∃ W3, W3 = w3.alloc (.cells #[.int .i64 yi, .int .i64 yt, .slice g1 m1 l1, .slice g2 m2 l2] 53) := ⟨_, rfl⟩
    rw [← hW3]
    have hb3 : Below w3.heap.size w3 W3 := by rw [hW3]; exact below_alloc _ _
    have HX3 : Hid (W3.heap[w3.heap.size]? = some (.cells #[.int .i64 yi, .int .i64 yt, .slice g1 m1 l1, .slice g2 m2 l2] 53)) := Lib.hid (by rw [hW3]; exact heap_new _ _ _ rfl)
    have HB3' : Hid (Below W.heap.size W W3) := Lib.hid (HB3.out.trans (hb3.mono HB3.out.size))
    have HRW1 : Hid (RepB W3 (fun k => k < W3.heap.size) yc (.slice g1 m1 l1)) := Lib.hid (HR1.out.same (fun k hk => Nat.lt_of_lt_of_le hk.2 hb3.size) fun k hk => hb3.block k hk.2)
    have HRW2 : Hid (RepB W3 (fun k => k < W3.heap.size) yb (.slice g2 m2 l2)) := Lib.hid (HR2.out.same (fun k hk => Nat.lt_of_lt_of_le hk.2 hb3.size) fun k hk => hb3.block k hk.2)
    clear hW3 hb3
    refine (HP2.out W3 _ _ (HCV.out W3 HB3'.out) (fun k hk => Nat.lt_of_lt_of_le (HF.out k hk) (Nat.le_trans HBW.out.size HB3'.out.size))).mono ?_
    rintro e w4 ⟨hb4, g3, m3, l3, g4, m4, l4, rfl, hr3, hr4⟩
    have HR3 := Lib.hid hr3
    have HR4 := Lib.hid hr4
    have HB34 := Lib.hid hb4
    obtain ⟨y0, y1, y2, y3, -, -, -, -, yz⟩ := sh_four (old_below HX3.out hb4)
    clear hb4 hr3 hr4
    go_wp2_with fail
    obtain ⟨W4, hW4⟩ : ∃ W4, W4 = w4.alloc (.cells #[.int .i64 yi, .int .i64 yt, .slice g3 m3 l3, .slice g4 m4 l4] 53) := ⟨_, rfl⟩
    rw [← hW4]
    have hb4 : Below w4.heap.size w4 W4 := by rw [hW4]; exact below_alloc _ _
    have h34 : Below W3.heap.size W3 W4 := HB34.out.trans (hb4.mono HB34.out.size)
    have HRZ1 : Hid (RepB W4 (fun k => k < W4.heap.size) yc (.slice g1 m1 l1)) := Lib.hid (HRW1.out.same (fun k hk => Nat.lt_of_lt_of_le hk h34.size) fun k hk => h34.block k hk)
    have HRZ2 : Hid (RepB W4 (fun k => k < W4.heap.size) yb (.slice g2 m2 l2)) := Lib.hid (HRW2.out.same (fun k hk => Nat.lt_of_lt_of_le hk h34.size) fun k hk => h34.block k hk)
    have hr3 : RepB W4 (fun k => k < W4.heap.size) yc (.slice g3 m3 l3) := HR3.out.same (fun k hk => Nat.lt_of_lt_of_le hk.2 hb4.size) fun k hk => hb4.block k hk.2
    have hr4 : RepB W4 (fun k => k < W4.heap.size) yb (.slice g4 m4 l4) := HR4.out.same (fun k hk => Nat.lt_of_lt_of_le hk.2 hb4.size) fun k hk => hb4.block k hk.2
    have HX4 : Hid (W4.heap[w3.heap.size]? = some (.cells #[.int .i64 yi, .int .i64 yt, .slice g1 m1 l1, .slice g2 m2 l2] 53)) := Lib.hid (old_below HX3.out h34)
    have HB4 : Hid (Below W.heap.size W W4) := Lib.hid (HB3'.out.trans (h34.mono HB3'.out.size))
    refine (Same6_any ⟨yi, yt, yc, yb⟩ ⟨yi, yt, yc, yb⟩ (.slice g1 m1 l1) (.slice g2 m2 l2) (.slice g3 m3 l3) (.slice g4 m4 l4) (fun k => k < W4.heap.size) W4 HRZ1.out HRZ2.out hr3 hr4 (fun _ h => h)).mono ?_
    rintro e w5 ⟨rfl, hb5⟩
    rw [(sameSn_iff _ _).2 rfl]
    have HB5 : Hid (Below W.heap.size W w5) := Lib.hid (HB4.out.trans (hb5.mono HB4.out.size))
    have HX5 : Hid (w5.heap[w3.heap.size]? = some (.cells #[.int .i64 yi, .int .i64 yt, .slice g1 m1 l1, .slice g2 m2 l2] 53)) := Lib.hid (old_below HX4.out hb5)
    have HRY1 : Hid (RepB w5 (fun k => k < w5.heap.size) yc (.slice g1 m1 l1)) := Lib.hid (HRZ1.out.same (fun k hk => Nat.lt_of_lt_of_le hk hb5.size) fun k hk => hb5.block k hk)
    have HRY2 : Hid (RepB w5 (fun k => k < w5.heap.size) yb (.slice g2 m2 l2)) := Lib.hid (HRZ2.out.same (fun k hk => Nat.lt_of_lt_of_le hk hb5.size) fun k hk => hb5.block k hk)
    clear y0 y1 y2 y3 yz hb4 h34 hr3 hr4 hW4 hb5
    have hS : Below w5.heap.size w5 w5.drew := (Below.refl _ _).drew
    by_cases h0 : ce = 0
    · have HIN : Hid (B = snBytes ⟨yi, yt, yc, yb⟩ ∧ okSn (yi, yt) = true ∧ yc.length + yb.length ≤ 2000) := Lib.hid (by
        obtain ⟨y, hy⟩ := snParse_fair (HCE.out.symm.trans h0)
        have h1 := HY.out
        rw [hy] at h1
        have h1 : (⟨yi, yt, yc, yb⟩ : Sn) = y := h1
        subst h1
        have h2 := snParse_inv hy
        refine ⟨h2.1, h2.2, ?_⟩
        have h3 := HLB.out
        have h4 := congrArg List.length h2.1
        unfold snBytes snForm at h4
        simp only [List.length_append] at h4
        omega)
      have HYL := HIN.out.2.2
      have HYL := Lib.hid HYL
      subst h0
      go_wp2_with fail
      obtain ⟨y0, y1, y2, y3, -, -, -, -, yz⟩ := sh_four HX5.out
      have cell : ∀ {g o : Nat} {u : Value}, g < w5.heap.size → w5.cell? ⟨g, o, none⟩ = some u → ∀ w', Below w5.heap.size w5 w' → w'.cell? ⟨g, o, none⟩ = some u := fun {g o u} hg h w' hw' => (World.cell?_of_block (a := ⟨g, o, none⟩) (hw'.block g hg)).trans h
      have a0 := cell yz y0
      have a1 := cell yz y1
      have a2 := cell yz y2
      have a3 := cell yz y3
      have hcx : ∀ w', Below w5.heap.size w5 w' → (convert 34 9 (.slice va B.length vc)).run Tryz.prog w' = .ok (.string (strOf B)) w' := fun w' hw' => run_string (P := Tryz.prog) (HCV.out w' (HB5.out.trans (hw'.mono HB5.out.size))) 34 5 9 Tryz.underlying34 Tryz.underlying5 Tryz.underlying9
      obtain ⟨SB, hSB⟩ : ∃ S, S = strOf B := ⟨_, rfl⟩
      rw [← hSB] at hcx
      have HSB := Lib.hid hSB
      clear y0 y1 y2 y3 yz cell hSB
      refine wp_region_held (S := fun w' => Below w5.heap.size w5 w') (by kernel_rfl) ?_
      refine H_take (i := 0) (v := ?_) rfl (by as_aux_lemma => kernel_rfl) (by as_aux_lemma => kernel_rfl) (by as_aux_lemma => kernel_rfl) (fun _ _ _ h => h) (by rfl) hS ?_ ?_
      rotate_left
      · intro w' hw'; go_simp; with_reducible rfl
      go_simp
      refine H_take (i := 1) (v := ?_) rfl (by as_aux_lemma => kernel_rfl) (by as_aux_lemma => kernel_rfl) (by as_aux_lemma => kernel_rfl) (fun _ _ _ h => h) (by rfl) hS ?_ ?_
      rotate_left
      · intro w' hw'; go_simp; with_reducible rfl
      go_simp
      refine H_take (i := 2) (v := ?_) rfl (by as_aux_lemma => kernel_rfl) (by as_aux_lemma => kernel_rfl) (by as_aux_lemma => kernel_rfl) (fun _ _ _ h => h) (by rfl) hS ?_ ?_
      rotate_left
      · intro w' hw'; go_simp; with_reducible rfl
      go_simp
      refine H_take (i := 3) (v := ?_) rfl (by as_aux_lemma => kernel_rfl) (by as_aux_lemma => kernel_rfl) (by as_aux_lemma => kernel_rfl) (fun _ _ _ h => h) (by rfl) hS ?_ ?_
      rotate_left
      · intro w' hw'; go_simp; with_reducible rfl
      go_simp
      refine H_take (i := 6) (v := ?_) rfl (by as_aux_lemma => kernel_rfl) (by as_aux_lemma => kernel_rfl) (by as_aux_lemma => kernel_rfl) (fun _ _ _ h => h) (by rfl) hS ?_ ?_
      rotate_left
      · intro w' hw'; go_simp; with_reducible rfl
      go_simp
      refine H_take (i := 7) (v := ?_) rfl (by as_aux_lemma => kernel_rfl) (by as_aux_lemma => kernel_rfl) (by as_aux_lemma => kernel_rfl) (fun _ _ _ h => h) (by rfl) hS ?_ ?_
      rotate_left
      · intro w' hw'; go_simp; with_reducible rfl
      go_simp
      refine H_one (i := 4) (by as_aux_lemma => kernel_rfl) rfl (by rfl) ?_
      go_simp
      refine (ShBytes_any ⟨yi, yt, yc, yb⟩ (.slice g1 m1 l1) (.slice g2 m2 l2) (fun k => k < w5.heap.size) w5.drew HIN.out.2.1 (HRY1.out.same (fun _ h => h) fun _ _ => rfl) (HRY2.out.same (fun _ h => h) fun _ _ => rfl) (fun _ h => h) (by have := HYL.out; simp only; omega) (Lib.hid (HTW.out.next HB5.out.drew))).mono ?_
      rintro e wt ⟨u10, rfl, h10⟩
      rw [← HIN.out.1] at h10
      obtain ⟨a10, k10, rfl⟩ := h10.slice
      have hc10 := run_string (P := Tryz.prog) h10.rep 34 5 9 Tryz.underlying34 Tryz.underlying5 Tryz.underlying9
      rw [← HSB.out] at hc10
      have hS10 : Below w5.heap.size w5 wt := hS.trans h10.1
      clear h10
      refine ⟨hS10, ?_⟩
      go_simp
      refine H_one (i := 5) (by as_aux_lemma => kernel_rfl) rfl (by rfl) ?_
      go_simp
      clear hc10
      refine H_take (i := 8) (v := ?_) rfl (by as_aux_lemma => kernel_rfl) (by as_aux_lemma => kernel_rfl) (by as_aux_lemma => kernel_rfl) (fun _ _ _ h => h) (by rfl) hS10 ?_ ?_
      rotate_left
      · intro w' hw'; go_simp; with_reducible rfl
      go_simp
      refine H_take (i := 9) (v := ?_) rfl (by as_aux_lemma => kernel_rfl) (by as_aux_lemma => kernel_rfl) (by as_aux_lemma => kernel_rfl) (fun _ _ _ h => h) (by rfl) hS10 ?_ ?_
      rotate_left
      · intro w' hw'; go_simp; with_reducible rfl
      go_simp
      refine wpAnyH_done (by as_aux_lemma => kernel_rfl) ?_ _
      have HTL : Hid (Below W.heap.size W wt) := Lib.hid (HB5.out.trans (hS10.mono HB5.out.size))
      clear hS hS10 a0 a1 a2 a3 hcx
      obtain ⟨x0, x1, x2, x3, -, -, -, -, xz⟩ := sh_four (old_below HX.out HTL.out)
      go_wp2_with fail
      refine (RefRight6_any xi xt wt).mono ?_
      rintro e w6 ⟨rfl, hb6⟩
      have HB6 : Hid (Below W.heap.size W w6) := Lib.hid (HTL.out.trans (hb6.mono HTL.out.size))
      clear x0 x1 x2 x3 xz hb6
      obtain ⟨x0, x1, x2, x3, -, -, -, -, xz⟩ := sh_four (old_below HX.out HB6.out)
      cases hok : okSn (xi, xt) with
      | false =>
        clear hok
        go_wp2_with fail
        go_ret
        exact ⟨rfl, HBW.out.trans (HB6.out.mono HBW.out.size)⟩
      | true =>
        have HOK := Lib.hid hok
        clear hok
        go_wp2_with fail
        refine (ShBytes_any ⟨xi, xt, xc, xb⟩ (.slice ca xc.length cc) (.slice ba xb.length bc) F w6 HOK.out (HCC.out w6 HB6.out) (HCB.out w6 HB6.out) (fun k hk => Nat.lt_of_lt_of_le (HF.out k hk) (Nat.le_trans HBW.out.size HB6.out.size)) (by have := HLX.out; simp only; omega) (Lib.hid (HTW.out.next HB6.out))).mono ?_
        rintro e w7 ⟨u7, rfl, h7⟩
        obtain ⟨X, hX⟩ : ∃ X, X = snBytes ⟨xi, xt, xc, xb⟩ := ⟨_, rfl⟩
        rw [← hX] at h7
        have HXX := Lib.hid hX
        obtain ⟨a7, k7, rfl⟩ := h7.slice
        have H7 := Lib.hid h7
        have HB7 : Hid (Below W.heap.size W w7) := Lib.hid (HB6.out.trans (h7.1.mono HB6.out.size))
        clear h7 hX x0 x1 x2 x3 xz
        go_wp2_with fail
        have HPX : Hid (snParse X = .ok ⟨xi, xt, xc, xb⟩) := Lib.hid (by rw [HXX.out]; exact snParse_back HOK.out (by have := HLX.out; simp only; omega) (by have := HLX.out; simp only; omega))
        refine (ShParse_any X _ _ w7 H7.out.rep (fun k hk => hk.2) (by have := HLX.out; have := snBytes_le ⟨xi, xt, xc, xb⟩; rw [← HXX.out] at this; simp only at this; omega) (Lib.hid (HTW.out.next HB7.out))).mono ?_
        intro e w8 hp8
        obtain ⟨hb8, p1, n1, q1', p2, n2, q2', rfl, hr1, hr2⟩ := hp8.ans
        rw [HPX.out] at hr1 hr2 ⊢
        simp only [ansS, ansE] at hr1 hr2 ⊢
        have HR1 := Lib.hid hr1
        have HR2 := Lib.hid hr2
        have HB8 : Hid (Below W.heap.size W w8) := Lib.hid (HB7.out.trans (hb8.mono HB7.out.size))
        have HB78 := Lib.hid hb8
        clear hp8 hr1 hr2 hb8
        go_wp2_with fail
        obtain ⟨W8, hW8⟩ : ∃ W8, W8 = w8.alloc (.cells #[.int .i64 xi, .int .i64 xt, .slice p1 n1 q1', .slice p2 n2 q2'] 53) := ⟨_, rfl⟩
        rw [← hW8]
        have hb9 : Below w8.heap.size w8 W8 := by rw [hW8]; exact below_alloc _ _
        have HX8 : Hid (W8.heap[w8.heap.size]? = some (.cells #[.int .i64 xi, .int .i64 xt, .slice p1 n1 q1', .slice p2 n2 q2'] 53)) := Lib.hid (by rw [hW8]; exact heap_new _ _ _ rfl)
        have HB9 : Hid (Below W.heap.size W W8) := Lib.hid (HB8.out.trans (hb9.mono HB8.out.size))
        obtain ⟨y0, y1, y2, y3, -, -, -, -, yz⟩ := sh_four HX8.out
        obtain ⟨x0, x1, x2, x3, -, -, -, -, xz⟩ := sh_four (old_below HX.out HB9.out)
        have cell : ∀ {g o : Nat} {u : Value}, g < W8.heap.size → W8.cell? ⟨g, o, none⟩ = some u → ∀ w', Below W8.heap.size W8 w' → w'.cell? ⟨g, o, none⟩ = some u := fun {g o u} hg h w' hw' => (World.cell?_of_block (a := ⟨g, o, none⟩) (hw'.block g hg)).trans h
        have a0 := cell yz y0
        have a1 := cell yz y1
        have a2 := cell yz y2
        have a3 := cell yz y3
        have b0 := cell xz x0
        have b1 := cell xz x1
        have b2 := cell xz x2
        have b3 := cell xz x3
        have HOX : Hid (∀ w', Below W8.heap.size W8 w' → Own w6 X (.slice a7 X.length k7) w') := Lib.hid fun w' hw' => ((H7.out.next HB78.out).next hb9).next hw'
        have hcx : ∀ w', Below W8.heap.size W8 w' → (convert 34 9 (.slice a7 X.length k7)).run Tryz.prog w' = .ok (.string (strOf X)) w' := fun w' hw' => run_string (P := Tryz.prog) (HOX.out w' hw').rep 34 5 9 Tryz.underlying34 Tryz.underlying5 Tryz.underlying9
        have HRR1 : Hid (∀ w', Below W8.heap.size W8 w' → RepB w' (fun k => k < w'.heap.size) xc (.slice p1 n1 q1')) := Lib.hid fun w' hw' => HR1.out.same (fun k hk => Nat.lt_of_lt_of_le hk.2 (Nat.le_trans hb9.size hw'.size)) fun k hk => (hw'.block k (Nat.lt_of_lt_of_le hk.2 hb9.size)).trans (hb9.block k hk.2)
        have HRR2 : Hid (∀ w', Below W8.heap.size W8 w' → RepB w' (fun k => k < w'.heap.size) xb (.slice p2 n2 q2')) := Lib.hid fun w' hw' => HR2.out.same (fun k hk => Nat.lt_of_lt_of_le hk.2 (Nat.le_trans hb9.size hw'.size)) fun k hk => (hw'.block k (Nat.lt_of_lt_of_le hk.2 hb9.size)).trans (hb9.block k hk.2)
        obtain ⟨SX, hSX⟩ : ∃ S, S = strOf X := ⟨_, rfl⟩
        rw [← hSX] at hcx
        have HSX := Lib.hid hSX
        have hS : Below W8.heap.size W8 W8.drew := (Below.refl _ _).drew
        clear hW8 hb9 y0 y1 y2 y3 yz x0 x1 x2 x3 xz cell hSX
        refine wp_region_held (S := fun w' => Below W8.heap.size W8 w') (by kernel_rfl) ?_
        refine H_take (i := 0) (v := ?_) rfl (by as_aux_lemma => kernel_rfl) (by as_aux_lemma => kernel_rfl) (by as_aux_lemma => kernel_rfl) (fun _ _ _ h => h) (by rfl) hS ?_ ?_
        rotate_left
        · intro w' hw'; go_simp; with_reducible rfl
        go_simp
        refine H_take (i := 1) (v := ?_) rfl (by as_aux_lemma => kernel_rfl) (by as_aux_lemma => kernel_rfl) (by as_aux_lemma => kernel_rfl) (fun _ _ _ h => h) (by rfl) hS ?_ ?_
        rotate_left
        · intro w' hw'; go_simp; with_reducible rfl
        go_simp
        refine H_take (i := 2) (v := ?_) rfl (by as_aux_lemma => kernel_rfl) (by as_aux_lemma => kernel_rfl) (by as_aux_lemma => kernel_rfl) (fun _ _ _ h => h) (by rfl) hS ?_ ?_
        rotate_left
        · intro w' hw'; go_simp; with_reducible rfl
        go_simp
        refine H_one (i := 3) (by as_aux_lemma => kernel_rfl) rfl (by rfl) ?_
        go_simp
        refine (RefBytes6_any ⟨xi, xt, xc, xb⟩ (.slice ca xc.length cc) (.slice ba xb.length bc) F _ HOK.out (HCC.out _ (HB9.out.drew)) (HCB.out _ (HB9.out.drew)) (fun k hk => Nat.lt_of_lt_of_le (HF.out k hk) (Nat.le_trans HBW.out.size HB9.out.size)) (by have := HLX.out; simp only; omega)).mono ?_
        rintro e w10 ⟨u10, rfl, h10⟩
        rw [← HXX.out] at h10
        obtain ⟨a10, k10, rfl⟩ := h10.slice
        have hc10 := run_string (P := Tryz.prog) h10.rep 34 5 9 Tryz.underlying34 Tryz.underlying5 Tryz.underlying9
        rw [← HSX.out] at hc10
        have hS10 : Below W8.heap.size W8 w10 := hS.trans h10.1
        clear h10
        refine ⟨hS10, ?_⟩
        go_simp
        refine H_one (i := 4) (by as_aux_lemma => kernel_rfl) rfl (by rfl) ?_
        go_simp
        clear hc10
        refine H_take (i := 5) (v := ?_) rfl (by as_aux_lemma => kernel_rfl) (by as_aux_lemma => kernel_rfl) (by as_aux_lemma => kernel_rfl) (fun _ _ _ h => h) (by rfl) hS10 ?_ ?_
        rotate_left
        · intro w' hw'; go_simp; with_reducible rfl
        go_simp
        refine H_take (i := 6) (v := ?_) rfl (by as_aux_lemma => kernel_rfl) (by as_aux_lemma => kernel_rfl) (by as_aux_lemma => kernel_rfl) (fun _ _ _ h => h) (by rfl) hS10 ?_ ?_
        rotate_left
        · intro w' hw'; go_simp; with_reducible rfl
        go_simp
        refine H_take (i := 7) (v := ?_) rfl (by as_aux_lemma => kernel_rfl) (by as_aux_lemma => kernel_rfl) (by as_aux_lemma => kernel_rfl) (fun _ _ _ h => h) (by rfl) hS10 ?_ ?_
        rotate_left
        · intro w' hw'; go_simp; with_reducible rfl
        go_simp
        refine H_take (i := 8) (v := ?_) rfl (by as_aux_lemma => kernel_rfl) (by as_aux_lemma => kernel_rfl) (by as_aux_lemma => kernel_rfl) (fun _ _ _ h => h) (by rfl) hS10 ?_ ?_
        rotate_left
        · intro w' hw'; go_simp; with_reducible rfl
        go_simp
        refine H_take (i := 9) (v := ?_) rfl (by as_aux_lemma => kernel_rfl) (by as_aux_lemma => kernel_rfl) (by as_aux_lemma => kernel_rfl) (fun _ _ _ h => h) (by rfl) hS10 ?_ ?_
        rotate_left
        · intro w' hw'; go_simp; with_reducible rfl
        go_simp
        refine H_take (i := 10) (v := ?_) rfl (by as_aux_lemma => kernel_rfl) (by as_aux_lemma => kernel_rfl) (by as_aux_lemma => kernel_rfl) (fun _ _ _ h => h) (by rfl) hS10 ?_ ?_
        rotate_left
        · intro w' hw'; go_simp; with_reducible rfl
        go_simp
        refine H_take (i := 11) (v := ?_) rfl (by as_aux_lemma => kernel_rfl) (by as_aux_lemma => kernel_rfl) (by as_aux_lemma => kernel_rfl) (fun _ _ _ h => h) (by rfl) hS10 ?_ ?_
        rotate_left
        · intro w' hw'; go_simp; with_reducible rfl
        go_simp
        refine H_take (i := 12) (v := ?_) rfl (by as_aux_lemma => kernel_rfl) (by as_aux_lemma => kernel_rfl) (by as_aux_lemma => kernel_rfl) (fun _ _ _ h => h) (by rfl) hS10 ?_ ?_
        rotate_left
        · intro w' hw'; go_simp; with_reducible rfl
        go_simp
        refine H_one (i := 13) (by as_aux_lemma => kernel_rfl) rfl (by rfl) ?_
        go_simp
        refine (Same6_any ⟨xi, xt, xc, xb⟩ ⟨xi, xt, xc, xb⟩ (.slice p1 n1 q1') (.slice p2 n2 q2') (.slice ca xc.length cc) (.slice ba xb.length bc) (fun k => k < w10.heap.size) w10 (HRR1.out _ hS10) (HRR2.out _ hS10) ((HCC.out _ (HB9.out.trans (hS10.mono HB9.out.size))).weak fun k hk => Nat.lt_of_lt_of_le (HF.out k hk) (Nat.le_trans HBW.out.size (Nat.le_trans HB9.out.size hS10.size))) ((HCB.out _ (HB9.out.trans (hS10.mono HB9.out.size))).weak fun k hk => Nat.lt_of_lt_of_le (HF.out k hk) (Nat.le_trans HBW.out.size (Nat.le_trans HB9.out.size hS10.size))) (fun _ h => h)).mono ?_
        rintro e w11 ⟨rfl, hb11⟩
        rw [(sameSn_iff _ _).2 rfl]
        have hS11 : Below W8.heap.size W8 w11 := hS10.trans (hb11.mono hS10.size)
        refine ⟨hS11, ?_⟩
        go_simp
        refine H_take (i := 14) (v := ?_) rfl (by as_aux_lemma => kernel_rfl) (by as_aux_lemma => kernel_rfl) (by as_aux_lemma => kernel_rfl) (fun _ _ _ h => h) (by rfl) hS11 ?_ ?_
        rotate_left
        · intro w' hw'; go_simp; with_reducible rfl
        go_simp
        refine H_take (i := 15) (v := ?_) rfl (by as_aux_lemma => kernel_rfl) (by as_aux_lemma => kernel_rfl) (by as_aux_lemma => kernel_rfl) (fun _ _ _ h => h) (by rfl) hS11 ?_ ?_
        rotate_left
        · intro w' hw'; go_simp; with_reducible rfl
        go_simp
        refine wpAnyH_done (by as_aux_lemma => kernel_rfl) ?_ _
        have HEND : Hid (Below w.heap.size w w11) := Lib.hid (HBW.out.trans ((HB9.out.trans (hS11.mono HB9.out.size)).mono HBW.out.size))
        clear hS hS10 hS11 hb11 a0 a1 a2 a3 b0 b1 b2 b3 hcx
        go_wp2_with fail
        go_ret
        exact ⟨rfl, HEND.out⟩
    · have q3 : (ce == 0) = false := by simpa using h0
      clear h0
      go_wp2_with fail
      refine wp_region_held (S := fun w' => Below w5.heap.size w5 w') (by kernel_rfl) ?_
      refine H_take (i := 0) (v := ?_) rfl (by as_aux_lemma => kernel_rfl) (by as_aux_lemma => kernel_rfl) (by as_aux_lemma => kernel_rfl) (fun _ _ _ h => h) (by rfl) hS ?_ ?_
      rotate_left
      · intro w' hw'; go_simp; with_reducible rfl
      go_simp
      refine H_take (i := 1) (v := ?_) rfl (by as_aux_lemma => kernel_rfl) (by as_aux_lemma => kernel_rfl) (by as_aux_lemma => kernel_rfl) (fun _ _ _ h => h) (by rfl) hS ?_ ?_
      rotate_left
      · intro w' hw'; go_simp; with_reducible rfl
      go_simp
      refine H_take (i := 2) (v := ?_) rfl (by as_aux_lemma => kernel_rfl) (by as_aux_lemma => kernel_rfl) (by as_aux_lemma => kernel_rfl) (fun _ _ _ h => h) (by rfl) hS ?_ ?_
      rotate_left
      · intro w' hw'; go_simp; with_reducible rfl
      go_simp
      refine H_skip (i := 3) rfl (by as_aux_lemma => kernel_rfl) (by as_aux_lemma => kernel_rfl) (by as_aux_lemma => kernel_rfl) (fun _ _ _ h => h) (by rfl) hS ?_
      go_simp
      refine H_skip (i := 4) rfl (by as_aux_lemma => kernel_rfl) (by as_aux_lemma => kernel_rfl) (by as_aux_lemma => kernel_rfl) (fun _ _ _ h => h) (by rfl) hS ?_
      go_simp
      refine H_skip (i := 5) rfl (by as_aux_lemma => kernel_rfl) (by as_aux_lemma => kernel_rfl) (by as_aux_lemma => kernel_rfl) (fun _ _ _ h => h) (by rfl) hS ?_
      go_simp
      refine H_skip (i := 6) rfl (by as_aux_lemma => kernel_rfl) (by as_aux_lemma => kernel_rfl) (by as_aux_lemma => kernel_rfl) (fun _ _ _ h => h) (by rfl) hS ?_
      go_simp
      refine H_skip (i := 7) rfl (by as_aux_lemma => kernel_rfl) (by as_aux_lemma => kernel_rfl) (by as_aux_lemma => kernel_rfl) (fun _ _ _ h => h) (by rfl) hS ?_
      go_simp
      refine H_skip (i := 8) rfl (by as_aux_lemma => kernel_rfl) (by as_aux_lemma => kernel_rfl) (by as_aux_lemma => kernel_rfl) (fun _ _ _ h => h) (by rfl) hS ?_
      go_simp
      refine H_take (i := 9) (v := ?_) rfl (by as_aux_lemma => kernel_rfl) (by as_aux_lemma => kernel_rfl) (by as_aux_lemma => kernel_rfl) (fun _ _ _ h => h) (by rfl) hS ?_ ?_
      rotate_left
      · intro w' hw'; go_simp; with_reducible rfl
      go_simp
      refine wpAnyH_done (by as_aux_lemma => kernel_rfl) ?_ _
      obtain ⟨wt, hwt⟩ : ∃ wt, wt = w5.drew := ⟨_, rfl⟩
      rw [← hwt]
      have HTL : Hid (Below W.heap.size W wt) := Lib.hid (by rw [hwt]; exact HB5.out.drew)
      clear hS hwt q3
      obtain ⟨x0, x1, x2, x3, -, -, -, -, xz⟩ := sh_four (old_below HX.out HTL.out)
      go_wp2_with fail
      refine (RefRight6_any xi xt wt).mono ?_
      rintro e w6 ⟨rfl, hb6⟩
      have HB6 : Hid (Below W.heap.size W w6) := Lib.hid (HTL.out.trans (hb6.mono HTL.out.size))
      clear x0 x1 x2 x3 xz hb6
      obtain ⟨x0, x1, x2, x3, -, -, -, -, xz⟩ := sh_four (old_below HX.out HB6.out)
      cases hok : okSn (xi, xt) with
      | false =>
        clear hok
        go_wp2_with fail
        go_ret
        exact ⟨rfl, HBW.out.trans (HB6.out.mono HBW.out.size)⟩
      | true =>
        have HOK := Lib.hid hok
        clear hok
        go_wp2_with fail
        refine (ShBytes_any ⟨xi, xt, xc, xb⟩ (.slice ca xc.length cc) (.slice ba xb.length bc) F w6 HOK.out (HCC.out w6 HB6.out) (HCB.out w6 HB6.out) (fun k hk => Nat.lt_of_lt_of_le (HF.out k hk) (Nat.le_trans HBW.out.size HB6.out.size)) (by have := HLX.out; simp only; omega) (Lib.hid (HTW.out.next HB6.out))).mono ?_
        rintro e w7 ⟨u7, rfl, h7⟩
        obtain ⟨X, hX⟩ : ∃ X, X = snBytes ⟨xi, xt, xc, xb⟩ := ⟨_, rfl⟩
        rw [← hX] at h7
        have HXX := Lib.hid hX
        obtain ⟨a7, k7, rfl⟩ := h7.slice
        have H7 := Lib.hid h7
        have HB7 : Hid (Below W.heap.size W w7) := Lib.hid (HB6.out.trans (h7.1.mono HB6.out.size))
        clear h7 hX x0 x1 x2 x3 xz
        go_wp2_with fail
        have HPX : Hid (snParse X = .ok ⟨xi, xt, xc, xb⟩) := Lib.hid (by rw [HXX.out]; exact snParse_back HOK.out (by have := HLX.out; simp only; omega) (by have := HLX.out; simp only; omega))
        refine (ShParse_any X _ _ w7 H7.out.rep (fun k hk => hk.2) (by have := HLX.out; have := snBytes_le ⟨xi, xt, xc, xb⟩; rw [← HXX.out] at this; simp only at this; omega) (Lib.hid (HTW.out.next HB7.out))).mono ?_
        intro e w8 hp8
        obtain ⟨hb8, p1, n1, q1', p2, n2, q2', rfl, hr1, hr2⟩ := hp8.ans
        rw [HPX.out] at hr1 hr2 ⊢
        simp only [ansS, ansE] at hr1 hr2 ⊢
        have HR1 := Lib.hid hr1
        have HR2 := Lib.hid hr2
        have HB8 : Hid (Below W.heap.size W w8) := Lib.hid (HB7.out.trans (hb8.mono HB7.out.size))
        have HB78 := Lib.hid hb8
        clear hp8 hr1 hr2 hb8
        go_wp2_with fail
        obtain ⟨W8, hW8⟩ : ∃ W8, W8 = w8.alloc (.cells #[.int .i64 xi, .int .i64 xt, .slice p1 n1 q1', .slice p2 n2 q2'] 53) := ⟨_, rfl⟩
        rw [← hW8]
        have hb9 : Below w8.heap.size w8 W8 := by rw [hW8]; exact below_alloc _ _
        have HX8 : Hid (W8.heap[w8.heap.size]? = some (.cells #[.int .i64 xi, .int .i64 xt, .slice p1 n1 q1', .slice p2 n2 q2'] 53)) := Lib.hid (by rw [hW8]; exact heap_new _ _ _ rfl)
        have HB9 : Hid (Below W.heap.size W W8) := Lib.hid (HB8.out.trans (hb9.mono HB8.out.size))
        obtain ⟨y0, y1, y2, y3, -, -, -, -, yz⟩ := sh_four HX8.out
        obtain ⟨x0, x1, x2, x3, -, -, -, -, xz⟩ := sh_four (old_below HX.out HB9.out)
        have cell : ∀ {g o : Nat} {u : Value}, g < W8.heap.size → W8.cell? ⟨g, o, none⟩ = some u → ∀ w', Below W8.heap.size W8 w' → w'.cell? ⟨g, o, none⟩ = some u := fun {g o u} hg h w' hw' => (World.cell?_of_block (a := ⟨g, o, none⟩) (hw'.block g hg)).trans h
        have a0 := cell yz y0
        have a1 := cell yz y1
        have a2 := cell yz y2
        have a3 := cell yz y3
        have b0 := cell xz x0
        have b1 := cell xz x1
        have b2 := cell xz x2
        have b3 := cell xz x3
        have HOX : Hid (∀ w', Below W8.heap.size W8 w' → Own w6 X (.slice a7 X.length k7) w') := Lib.hid fun w' hw' => ((H7.out.next HB78.out).next hb9).next hw'
        have hcx : ∀ w', Below W8.heap.size W8 w' → (convert 34 9 (.slice a7 X.length k7)).run Tryz.prog w' = .ok (.string (strOf X)) w' := fun w' hw' => run_string (P := Tryz.prog) (HOX.out w' hw').rep 34 5 9 Tryz.underlying34 Tryz.underlying5 Tryz.underlying9
        have HRR1 : Hid (∀ w', Below W8.heap.size W8 w' → RepB w' (fun k => k < w'.heap.size) xc (.slice p1 n1 q1')) := Lib.hid fun w' hw' => HR1.out.same (fun k hk => Nat.lt_of_lt_of_le hk.2 (Nat.le_trans hb9.size hw'.size)) fun k hk => (hw'.block k (Nat.lt_of_lt_of_le hk.2 hb9.size)).trans (hb9.block k hk.2)
        have HRR2 : Hid (∀ w', Below W8.heap.size W8 w' → RepB w' (fun k => k < w'.heap.size) xb (.slice p2 n2 q2')) := Lib.hid fun w' hw' => HR2.out.same (fun k hk => Nat.lt_of_lt_of_le hk.2 (Nat.le_trans hb9.size hw'.size)) fun k hk => (hw'.block k (Nat.lt_of_lt_of_le hk.2 hb9.size)).trans (hb9.block k hk.2)
        obtain ⟨SX, hSX⟩ : ∃ S, S = strOf X := ⟨_, rfl⟩
        rw [← hSX] at hcx
        have HSX := Lib.hid hSX
        have hS : Below W8.heap.size W8 W8.drew := (Below.refl _ _).drew
        clear hW8 hb9 y0 y1 y2 y3 yz x0 x1 x2 x3 xz cell hSX
        refine wp_region_held (S := fun w' => Below W8.heap.size W8 w') (by kernel_rfl) ?_
        refine H_take (i := 0) (v := ?_) rfl (by as_aux_lemma => kernel_rfl) (by as_aux_lemma => kernel_rfl) (by as_aux_lemma => kernel_rfl) (fun _ _ _ h => h) (by rfl) hS ?_ ?_
        rotate_left
        · intro w' hw'; go_simp; with_reducible rfl
        go_simp
        refine H_take (i := 1) (v := ?_) rfl (by as_aux_lemma => kernel_rfl) (by as_aux_lemma => kernel_rfl) (by as_aux_lemma => kernel_rfl) (fun _ _ _ h => h) (by rfl) hS ?_ ?_
        rotate_left
        · intro w' hw'; go_simp; with_reducible rfl
        go_simp
        refine H_take (i := 2) (v := ?_) rfl (by as_aux_lemma => kernel_rfl) (by as_aux_lemma => kernel_rfl) (by as_aux_lemma => kernel_rfl) (fun _ _ _ h => h) (by rfl) hS ?_ ?_
        rotate_left
        · intro w' hw'; go_simp; with_reducible rfl
        go_simp
        refine H_one (i := 3) (by as_aux_lemma => kernel_rfl) rfl (by rfl) ?_
        go_simp
        refine (RefBytes6_any ⟨xi, xt, xc, xb⟩ (.slice ca xc.length cc) (.slice ba xb.length bc) F _ HOK.out (HCC.out _ (HB9.out.drew)) (HCB.out _ (HB9.out.drew)) (fun k hk => Nat.lt_of_lt_of_le (HF.out k hk) (Nat.le_trans HBW.out.size HB9.out.size)) (by have := HLX.out; simp only; omega)).mono ?_
        rintro e w10 ⟨u10, rfl, h10⟩
        rw [← HXX.out] at h10
        obtain ⟨a10, k10, rfl⟩ := h10.slice
        have hc10 := run_string (P := Tryz.prog) h10.rep 34 5 9 Tryz.underlying34 Tryz.underlying5 Tryz.underlying9
        rw [← HSX.out] at hc10
        have hS10 : Below W8.heap.size W8 w10 := hS.trans h10.1
        clear h10
        refine ⟨hS10, ?_⟩
        go_simp
        refine H_one (i := 4) (by as_aux_lemma => kernel_rfl) rfl (by rfl) ?_
        go_simp
        clear hc10
        refine H_take (i := 5) (v := ?_) rfl (by as_aux_lemma => kernel_rfl) (by as_aux_lemma => kernel_rfl) (by as_aux_lemma => kernel_rfl) (fun _ _ _ h => h) (by rfl) hS10 ?_ ?_
        rotate_left
        · intro w' hw'; go_simp; with_reducible rfl
        go_simp
        refine H_take (i := 6) (v := ?_) rfl (by as_aux_lemma => kernel_rfl) (by as_aux_lemma => kernel_rfl) (by as_aux_lemma => kernel_rfl) (fun _ _ _ h => h) (by rfl) hS10 ?_ ?_
        rotate_left
        · intro w' hw'; go_simp; with_reducible rfl
        go_simp
        refine H_take (i := 7) (v := ?_) rfl (by as_aux_lemma => kernel_rfl) (by as_aux_lemma => kernel_rfl) (by as_aux_lemma => kernel_rfl) (fun _ _ _ h => h) (by rfl) hS10 ?_ ?_
        rotate_left
        · intro w' hw'; go_simp; with_reducible rfl
        go_simp
        refine H_take (i := 8) (v := ?_) rfl (by as_aux_lemma => kernel_rfl) (by as_aux_lemma => kernel_rfl) (by as_aux_lemma => kernel_rfl) (fun _ _ _ h => h) (by rfl) hS10 ?_ ?_
        rotate_left
        · intro w' hw'; go_simp; with_reducible rfl
        go_simp
        refine H_take (i := 9) (v := ?_) rfl (by as_aux_lemma => kernel_rfl) (by as_aux_lemma => kernel_rfl) (by as_aux_lemma => kernel_rfl) (fun _ _ _ h => h) (by rfl) hS10 ?_ ?_
        rotate_left
        · intro w' hw'; go_simp; with_reducible rfl
        go_simp
        refine H_take (i := 10) (v := ?_) rfl (by as_aux_lemma => kernel_rfl) (by as_aux_lemma => kernel_rfl) (by as_aux_lemma => kernel_rfl) (fun _ _ _ h => h) (by rfl) hS10 ?_ ?_
        rotate_left
        · intro w' hw'; go_simp; with_reducible rfl
        go_simp
        refine H_take (i := 11) (v := ?_) rfl (by as_aux_lemma => kernel_rfl) (by as_aux_lemma => kernel_rfl) (by as_aux_lemma => kernel_rfl) (fun _ _ _ h => h) (by rfl) hS10 ?_ ?_
        rotate_left
        · intro w' hw'; go_simp; with_reducible rfl
        go_simp
        refine H_take (i := 12) (v := ?_) rfl (by as_aux_lemma => kernel_rfl) (by as_aux_lemma => kernel_rfl) (by as_aux_lemma => kernel_rfl) (fun _ _ _ h => h) (by rfl) hS10 ?_ ?_
        rotate_left
        · intro w' hw'; go_simp; with_reducible rfl
        go_simp
        refine H_one (i := 13) (by as_aux_lemma => kernel_rfl) rfl (by rfl) ?_
        go_simp
        refine (Same6_any ⟨xi, xt, xc, xb⟩ ⟨xi, xt, xc, xb⟩ (.slice p1 n1 q1') (.slice p2 n2 q2') (.slice ca xc.length cc) (.slice ba xb.length bc) (fun k => k < w10.heap.size) w10 (HRR1.out _ hS10) (HRR2.out _ hS10) ((HCC.out _ (HB9.out.trans (hS10.mono HB9.out.size))).weak fun k hk => Nat.lt_of_lt_of_le (HF.out k hk) (Nat.le_trans HBW.out.size (Nat.le_trans HB9.out.size hS10.size))) ((HCB.out _ (HB9.out.trans (hS10.mono HB9.out.size))).weak fun k hk => Nat.lt_of_lt_of_le (HF.out k hk) (Nat.le_trans HBW.out.size (Nat.le_trans HB9.out.size hS10.size))) (fun _ h => h)).mono ?_
        rintro e w11 ⟨rfl, hb11⟩
        rw [(sameSn_iff _ _).2 rfl]
        have hS11 : Below W8.heap.size W8 w11 := hS10.trans (hb11.mono hS10.size)
        refine ⟨hS11, ?_⟩
        go_simp
        refine H_take (i := 14) (v := ?_) rfl (by as_aux_lemma => kernel_rfl) (by as_aux_lemma => kernel_rfl) (by as_aux_lemma => kernel_rfl) (fun _ _ _ h => h) (by rfl) hS11 ?_ ?_
        rotate_left
        · intro w' hw'; go_simp; with_reducible rfl
        go_simp
        refine H_take (i := 15) (v := ?_) rfl (by as_aux_lemma => kernel_rfl) (by as_aux_lemma => kernel_rfl) (by as_aux_lemma => kernel_rfl) (fun _ _ _ h => h) (by rfl) hS11 ?_ ?_
        rotate_left
        · intro w' hw'; go_simp; with_reducible rfl
        go_simp
        refine wpAnyH_done (by as_aux_lemma => kernel_rfl) ?_ _
        have HEND : Hid (Below w.heap.size w w11) := Lib.hid (HBW.out.trans ((HB9.out.trans (hS11.mono HB9.out.size)).mono HBW.out.size))
        clear hS hS10 hS11 hb11 a0 a1 a2 a3 b0 b1 b2 b3 hcx
        go_wp2_with fail
        go_ret
        exact ⟨rfl, HEND.out⟩
end Go.Proofs.YtbcpcopapbgcdaaGreatDoor.M

/- Part: ShR6. -/
namespace Go.Proofs.YtbcpcopapbgcdaaGreatDoor.M
open Go.RowKit
open D (Fl Dk)

theorem idxN_neg {nm : ByteArray} (h : ¬ 0 ≤ idxN nm) : snIdx nm = none := by
  cases h1 : snIdx nm with
  | none => rfl
  | some n => exact absurd (by rw [idxN_some h1]; omega) h

theorem idxN_nn {nm : ByteArray} (h : 0 ≤ idxN nm) : ∃ n : Nat, snIdx nm = some n ∧ idxN nm = n := by
  cases h1 : snIdx nm with
  | none => rw [idxN_none h1] at h; omega
  | some n => exact ⟨n, rfl, idxN_some h1⟩

theorem idxN_lt (nm : ByteArray) : idxN nm < 10000000000 ∧ -1 ≤ idxN nm := by
  cases h : snIdx nm with
  | none => rw [idxN_none h]; omega
  | some n =>
    rw [idxN_some h]
    unfold snIdx at h
    split at h
    · rename_i h1
      obtain ⟨hs, -, hd⟩ := h1
      cases h
      have h2 := digs_bound _ hd
      have h3 : (nm.data.toList.drop 5).length = 10 := by
        rw [List.length_drop]
        have : nm.data.toList.length = nm.size := rfl
        omega
      rw [h3] at h2
      have : (10 : Nat) ^ 10 = 10000000000 := by decide
      omega
    · cases h

/-- One file more. -/
theorem newest_next {fs : List Fl} {k : Nat} (h : k < fs.length) : newestF (fs.take (k + 1)) = (match readF fs[k] with | some x => some x | none => newestF (fs.take k)) := by
  unfold newestF
  rw [List.take_succ_eq_append_getElem h, List.filterMap_append]
  cases h1 : readF fs[k] with
  | none => simp only [List.filterMap_cons, h1, List.filterMap_nil, List.append_nil]
  | some x => simp only [List.filterMap_cons, h1, List.filterMap_nil, List.getLast?_concat]

theorem read_no1 {f : Fl} (h : ¬ 0 ≤ idxN f.nm) : readF f = none := by unfold readF; rw [idxN_neg h]

theorem read_no2 {f : Fl} (h : ansE (snParse f.b) ≠ 0) : readF f = none := by
  unfold readF
  cases snIdx f.nm with
  | none => rfl
  | some n =>
    simp only
    cases h1 : snParse f.b with
    | error c => rfl
    | ok x => rw [h1] at h; exact absurd rfl h

theorem read_no3 {f : Fl} (h0 : 0 ≤ idxN f.nm) (h : (ansS (snParse f.b)).idx ≠ idxN f.nm) : readF f = none := by
  unfold readF
  obtain ⟨n, h1, h2⟩ := idxN_nn h0
  rw [h1]
  simp only
  cases h3 : snParse f.b with
  | error c => rfl
  | ok x =>
    simp only
    rw [if_neg]
    rw [h3, h2] at h
    exact h

theorem read_yes {f : Fl} (h0 : 0 ≤ idxN f.nm) (h1 : ansE (snParse f.b) = 0) (h : (ansS (snParse f.b)).idx = idxN f.nm) : readF f = some (ansS (snParse f.b)) := by
  unfold readF
  obtain ⟨n, h2, h3⟩ := idxN_nn h0
  obtain ⟨y, h4⟩ := snParse_fair h1
  rw [h2, h4]
  simp only
  rw [h4, h3] at h
  have h : y.idx = n := h
  rw [if_pos h]
  rfl

/-- The state at the head of the loop. -/
def NwAt (w : World) (o : Option Sn) (wr : World) : Prop :=
  Below w.heap.size w wr ∧ wr.heap[w.heap.size]? = some (.cells #[.int .i64 0, .int .i64 0, .slice none 0 0, .slice none 0 0] 53) ∧
  ∃ (a1 : Option Addr) (n1 c1 : Nat) (a2 : Option Addr) (n2 c2 : Nat), wr.heap[w.heap.size + 1]? = some (.cells #[.int .i64 (o.getD Sn.zero).idx, .int .i64 (o.getD Sn.zero).term, .slice a1 n1 c1, .slice a2 n2 c2] 53) ∧
    RepB wr (fun j => w.heap.size + 2 ≤ j ∧ j < wr.heap.size) (o.getD Sn.zero).conf (.slice a1 n1 c1) ∧ RepB wr (fun j => w.heap.size + 2 ≤ j ∧ j < wr.heap.size) (o.getD Sn.zero).body (.slice a2 n2 c2)

theorem NwAt.next {w wr w' : World} {o : Option Sn} (h : NwAt w o wr) (hb : Below wr.heap.size wr w') : NwAt w o w' := by
  obtain ⟨h1, h2, a1, n1, c1, a2, n2, c2, h3, h4, h5⟩ := h
  exact ⟨h1.trans (hb.mono h1.size), old_below h2 hb, a1, n1, c1, a2, n2, c2, old_below h3 hb, h4.same (fun j hj => ⟨hj.1, Nat.lt_of_lt_of_le hj.2 hb.size⟩) fun j hj => hb.block j hj.2, h5.same (fun j hj => ⟨hj.1, Nat.lt_of_lt_of_le hj.2 hb.size⟩) fun j hj => hb.block j hj.2⟩

theorem used_get {fs : List Fl} {k : Nat} (h : k < fs.length) : fs[k].b.length ≤ D.used fs := by
  have h1 := D.used_take fs k h
  have h2 := D.used_le fs (k + 1)
  omega

/-- A snapshot is kept. -/
theorem NwAt.put {w wr : World} {o : Option Sn} (h : NwAt w o wr) (y : Sn) {a1 : Option Addr} {n1 c1 : Nat} {a2 : Option Addr} {n2 c2 : Nat} (h1 : RepB wr (fun j => w.heap.size + 2 ≤ j ∧ j < wr.heap.size) y.conf (.slice a1 n1 c1)) (h2 : RepB wr (fun j => w.heap.size + 2 ≤ j ∧ j < wr.heap.size) y.body (.slice a2 n2 c2)) :
    NwAt w (some y) ((((wr.setCell ⟨w.heap.size + 1, 0, none⟩ (.int .i64 y.idx)).setCell ⟨w.heap.size + 1, 1, none⟩ (.int .i64 y.term)).setCell ⟨w.heap.size + 1, 2, none⟩ (.slice a1 n1 c1)).setCell ⟨w.heap.size + 1, 3, none⟩ (.slice a2 n2 c2)) := by
  obtain ⟨hb, hx, b1, m1, d1, b2, m2, d2, hy, -, -⟩ := h
  have hst : ∀ j, j ≠ w.heap.size + 1 → ((((wr.setCell ⟨w.heap.size + 1, 0, none⟩ (.int .i64 y.idx)).setCell ⟨w.heap.size + 1, 1, none⟩ (.int .i64 y.term)).setCell ⟨w.heap.size + 1, 2, none⟩ (.slice a1 n1 c1)).setCell ⟨w.heap.size + 1, 3, none⟩ (.slice a2 n2 c2)).heap[j]? = wr.heap[j]? := fun j hj => by
    rw [Below.heap_setCell _ _ _ _ (by simpa using hj), Below.heap_setCell _ _ _ _ (by simpa using hj), Below.heap_setCell _ _ _ _ (by simpa using hj), Below.heap_setCell _ _ _ _ (by simpa using hj)]
  refine ⟨(((hb.setCell (by simp) _).setCell (by simp) _).setCell (by simp) _).setCell (by simp) _, (hst _ (by omega)).trans hx, a1, n1, c1, a2, n2, c2, ?_, h1.same (fun j hj => ⟨hj.1, by simpa using hj.2⟩) fun j hj => hst j (by have := hj.1; omega), h2.same (fun j hj => ⟨hj.1, by simpa using hj.2⟩) fun j hj => hst j (by have := hj.1; omega)⟩
  simp [World.setCell, Array.getElem?_modify, hy]

set_option maxRecDepth 20000 in
set_option maxHeartbeats 6400000 in
theorem RefNewest6_any (d : Dk) (X : Nat → Prop) (gd : Nat) (w : World) (hd : DskIn w X gd d) (hu : D.used d.fs ≤ 1000000) (hnm : ∀ f ∈ d.fs, f.nm.size ≤ 9223372036854775807) :
    Calls Tryz.prog 37 #[.pointer (some ⟨gd, 0, none⟩)] w fun e w' => Below w.heap.size w w' ∧ ∃ (a1 : Option Addr) (n1 c1 : Nat) (a2 : Option Addr) (n2 c2 : Nat),
      e = .returned (.tuple #[.agg #[.int .i64 (newestS d.fs).idx, .int .i64 (newestS d.fs).term, .slice a1 n1 c1, .slice a2 n2 c2], .bool (newestF d.fs).isSome]) ∧
      RepB w' (fun k => w.heap.size ≤ k ∧ k < w'.heap.size) (newestS d.fs).conf (.slice a1 n1 c1) ∧ RepB w' (fun k => w.heap.size ≤ k ∧ k < w'.heap.size) (newestS d.fs).body (.slice a2 n2 c2) := by
  obtain ⟨⟨vl, fv, hat⟩, hXz⟩ := hd
  obtain ⟨-, ⟨-, c1, -, -⟩, -, hz, -, -⟩ := hat.cells
  obtain ⟨va, vc, rfl⟩ := owned_slice hat.row
  obtain ⟨W, hW⟩ : ∃ W, W = (w.alloc (.cells #[.int .i64 0, .int .i64 0, .slice none 0 0, .slice none 0 0] 53)).alloc (.cells #[.int .i64 0, .int .i64 0, .slice none 0 0, .slice none 0 0] 53) := ⟨_, rfl⟩
  have HB : Hid (Below w.heap.size w W) := Lib.hid (by rw [hW]; exact ((Below.refl _ w).alloc (Nat.le_refl _) _).alloc (by simp) _)
  have HST : Hid (NwAt w none W) := Lib.hid ⟨HB.out, by rw [hW]; exact old_alloc (heap_new _ _ _ rfl), none, 0, 0, none, 0, 0, by rw [hW]; exact heap_new _ _ _ (by simp), .inl ⟨rfl, Bare.nil⟩, .inl ⟨rfl, Bare.nil⟩⟩
  have hfl : (fv.length : Int) ≤ 9223372036854775807 := by have := hat.len.1; omega
  have HLN := Lib.hid hat.len.2
  have HAT := Lib.hid hat
  have HW := Lib.hid hW
  have HU := Lib.hid hu
  have HNM := Lib.hid hnm
  have HXZ := Lib.hid hXz
  have e1 : ∀ {wr : World}, Below w.heap.size w wr → wr.cell? ⟨gd, 1, none⟩ = some (.slice va fv.length vc) ∧ gd < wr.heap.size := fun {wr} hb => ⟨(World.cell?_of_block (a := ⟨gd, 1, none⟩) (hb.block gd hz)).trans c1, Nat.lt_of_lt_of_le hz hb.size⟩
  have E1 : Hid (∀ wr : World, Below w.heap.size w wr → wr.cell? ⟨gd, 1, none⟩ = some (.slice va fv.length vc) ∧ gd < wr.heap.size) := Lib.hid fun wr hb => e1 hb
  clear hat hW hu hnm hXz e1 c1 hz
  go_enter Tryz.func37, Tryz.ntmps37
  go_wp2_with fail
  rw [← HW.out]
  go_loopw [5, 6, 7, 8, 9] (fun ok i _ _ _ wr => ∃ k : Nat, k ≤ fv.length ∧ i = .int .i64 (k : Int) ∧ ok = .bool (newestF (d.fs.take k)).isSome ∧ NwAt w (newestF (d.fs.take k)) wr) (fun _ i _ _ _ _ => fv.length - (intOf i).toNat)
  case atStart => exact ⟨0, Nat.zero_le _, rfl, rfl, HST.out⟩
  case round =>
    obtain ⟨k, hk, rfl, rfl, hnw⟩ := hrel
    have HNW := Lib.hid hnw
    obtain ⟨q1, qz⟩ := E1.out wr hnw.1
    clear hnw
    by_cases hlt : k < fv.length
    · have hkk : (k : Int) < (fv.length : Int) := by omega
      obtain ⟨ga, gc, hv, -, -, hgz, -, -, e0, e1, -, -⟩ := HAT.out.file k hlt
      cases hv
      have hkd : k < d.fs.length := by have := HLN.out; omega
      have hgt := HAT.out.get k hlt hkd
      have hrep0 : RepB w (fun b => b < w.heap.size) fv[k].1.b fv[k].2 := (RepB.of_own (HAT.out.each fv[k] (List.getElem_mem hlt))).weak fun b hb => hb.2
      obtain ⟨u, hu⟩ : ∃ u, u = fv[k].2 := ⟨_, rfl⟩
      rw [hgt] at e0 hrep0
      rw [← hu] at e1 hrep0
      have HFZ : Hid (d.fs[k].b.length ≤ 1000000) := Lib.hid (Nat.le_trans (used_get hkd) HU.out)
      have hnz := HNM.out d.fs[k] (List.getElem_mem hkd)
      have HNX := Lib.hid (newest_next hkd)
      obtain ⟨f, hf⟩ : ∃ f, f = d.fs[k] := ⟨_, rfl⟩
      rw [← hf] at e0 hrep0 HFZ hnz HNX
      have HFF := Lib.hid hf
      obtain ⟨bv, bc, rfl, -⟩ := hrep0.slice
      have e0' := (World.cell?_of_block (a := ⟨ga, k * 3, none⟩) (HNW.out.1.block ga hgz)).trans e0
      have e1' := (World.cell?_of_block (a := ⟨ga, k * 3 + 1, none⟩) (HNW.out.1.block ga hgz)).trans e1
      have HRP : Hid (RepB wr (fun b => b < w.heap.size) f.b (.slice bv f.b.length bc)) := Lib.hid (hrep0.same (fun _ h => h) fun b hb => HNW.out.1.block b hb)
      obtain ⟨nm, hnm⟩ : ∃ nm, nm = f.nm := ⟨_, rfl⟩
      rw [← hnm] at e0' hnz
      have HNMM := Lib.hid hnm
      have HNZ := Lib.hid hnz
      have HGZ := Lib.hid hgz
      have hgw : ga < wr.heap.size := Nat.lt_of_lt_of_le hgz HNW.out.1.size
      obtain ⟨OK, hok⟩ : ∃ b, b = (newestF (d.fs.take k)).isSome := ⟨_, rfl⟩
      rw [← hok]
      have HOK := Lib.hid hok
      clear e0 e1 hrep0 hf hnm hu hgt hok hnz hgz
      go_wp2_with fail
      refine (RefIdx6_any nm wr HNZ.out).mono ?_
      rintro e w0 ⟨rfl, rfl⟩
      obtain ⟨I, hI⟩ : ∃ I, I = idxN nm := ⟨_, rfl⟩
      rw [← hI]
      have HI : Hid (I = idxN f.nm) := Lib.hid (by rw [hI, HNMM.out])
      have hIb := idxN_lt nm
      rw [← hI] at hIb
      have hi1 := hIb.1
      have hi2 := hIb.2
      clear hI hIb
      go_wp2_with fail
      refine (RefParse_any f.b _ _ w0 HRP.out (fun b hb => Nat.lt_of_lt_of_le hb HNW.out.1.size) HFZ.out).mono ?_
      intro e w1 hp
      obtain ⟨hb1, a1, n1, l1, a2, n2, l2, rfl, hr1, hr2⟩ := hp.ans
      obtain ⟨⟨yi, yt, yc, yb⟩, hy⟩ : ∃ y, y = ansS (snParse f.b) := ⟨_, rfl⟩
      obtain ⟨ce, hce⟩ : ∃ c, c = ansE (snParse f.b) := ⟨_, rfl⟩
      rw [← hy] at hr1 hr2 ⊢
      rw [← hce]
      simp only at hr1 hr2 ⊢
      have HY := Lib.hid hy
      have HCE := Lib.hid hce
      have HB1 := Lib.hid hb1
      have HR1 := Lib.hid hr1
      have HR2 := Lib.hid hr2
      have HN1 := Lib.hid (HNW.out.next hb1)
      clear hp hr1 hr2 hy hce hb1 q1 qz e0' e1' hgw
      by_cases g1 : 0 ≤ I
      case neg =>
        have p1 : decide ((0 : Int) ≤ I) = false := by simpa using g1
        have HO : Hid (newestF (d.fs.take (k + 1)) = newestF (d.fs.take k)) := Lib.hid (by rw [HNX.out, read_no1 (by rw [← HI.out]; exact g1)])
        clear g1
        go_wp2_with fail
        go_roundw
        case rel => exact ⟨k + 1, by omega, by go_num, by rw [HO.out, HOK.out], by rw [HO.out]; exact HN1.out.next (below_alloc _ _)⟩
        case measure => simp [intOf]; omega
      by_cases g2 : ce = 0
      case neg =>
        have p1 : (ce == 0) = false := by simpa using g2
        have HO : Hid (newestF (d.fs.take (k + 1)) = newestF (d.fs.take k)) := Lib.hid (by rw [HNX.out, read_no2 (by rw [← HCE.out]; exact g2)])
        clear g2
        go_wp2_with fail
        go_roundw
        case rel => exact ⟨k + 1, by omega, by go_num, by rw [HO.out, HOK.out], by rw [HO.out]; exact HN1.out.next (below_alloc _ _)⟩
        case measure => simp [intOf]; omega
      have HC0 : Hid (ansE (snParse f.b) = 0) := Lib.hid (by rw [← HCE.out]; exact g2)
      subst g2
      by_cases g3 : yi = I
      case neg =>
        have p1 : (yi == I) = false := by simpa using g3
        have HO : Hid (newestF (d.fs.take (k + 1)) = newestF (d.fs.take k)) := Lib.hid (by rw [HNX.out, read_no3 (by rw [← HI.out]; exact g1) (by rw [← HY.out, ← HI.out]; exact g3)])
        clear g3
        go_wp2_with fail
        go_roundw
        case rel => exact ⟨k + 1, by omega, by go_num, by rw [HO.out, HOK.out], by rw [HO.out]; exact HN1.out.next (below_alloc _ _)⟩
        case measure => simp [intOf]; omega
      have HO : Hid (newestF (d.fs.take (k + 1)) = some ⟨yi, yt, yc, yb⟩) := Lib.hid (by rw [HNX.out, read_yes (by rw [← HI.out]; exact g1) HC0.out (by rw [← HY.out, ← HI.out]; exact g3), ← HY.out])
      subst g3
      obtain ⟨y0, y1, y2, y3, b0, b1, b2, b3, yz⟩ : ∃ (x0 x1 x2 x3 : Value), (w1.cell? ⟨w.heap.size + 1, 0, none⟩ = some x0 ∧ w1.cell? ⟨w.heap.size + 1, 1, none⟩ = some x1 ∧ w1.cell? ⟨w.heap.size + 1, 2, none⟩ = some x2 ∧ w1.cell? ⟨w.heap.size + 1, 3, none⟩ = some x3) ∧ w1.frozen? ⟨w.heap.size + 1, 0, none⟩ = false ∧ w1.frozen? ⟨w.heap.size + 1, 1, none⟩ = false ∧ w1.frozen? ⟨w.heap.size + 1, 2, none⟩ = false ∧ w1.frozen? ⟨w.heap.size + 1, 3, none⟩ = false ∧ w.heap.size + 1 < w1.heap.size := by
        obtain ⟨-, -, _, _, _, _, _, _, hy, -, -⟩ := HN1.out
        obtain ⟨c0, c1, c2, c3, f0, f1, f2, f3, cz⟩ := sh_four hy
        exact ⟨_, _, _, _, ⟨c0, c1, c2, c3⟩, f0, f1, f2, f3, cz⟩
      obtain ⟨b0, b00, b01, b02⟩ := b0
      obtain ⟨b3, yz⟩ := yz
      have HPUT : Hid (∀ W1 : World, Below w1.heap.size w1 W1 → NwAt w (some ⟨yi, yt, yc, yb⟩) ((((W1.setCell ⟨w.heap.size + 1, 0, none⟩ (.int .i64 yi)).setCell ⟨w.heap.size + 1, 1, none⟩ (.int .i64 yt)).setCell ⟨w.heap.size + 1, 2, none⟩ (.slice a1 n1 l1)).setCell ⟨w.heap.size + 1, 3, none⟩ (.slice a2 n2 l2))) := Lib.hid fun W1 hb => by
        have hz : w.heap.size + 2 ≤ w0.heap.size := by
          obtain ⟨-, -, _, _, _, _, _, _, hy, -, -⟩ := HNW.out
          have := lt_of_heap hy
          omega
        exact (HN1.out.next hb).put ⟨yi, yt, yc, yb⟩ (HR1.out.same (fun j hj => ⟨by omega, Nat.lt_of_lt_of_le hj.2 hb.size⟩) fun j hj => hb.block j hj.2) (HR2.out.same (fun j hj => ⟨by omega, Nat.lt_of_lt_of_le hj.2 hb.size⟩) fun j hj => hb.block j hj.2)
      go_wp2_with fail
      go_roundw
      case rel =>
        refine ⟨k + 1, by omega, by go_num, by rw [HO.out]; rfl, ?_⟩
        rw [HO.out]
        first
          | exact HPUT.out _ (below_alloc _ _)
          | exact (HPUT.out _ (Below.refl _ _)).next (below_alloc _ _)
      case measure => simp [intOf]; omega
    · have hkk : ¬ (k : Int) < (fv.length : Int) := by omega
      have HE : Hid (d.fs.take k = d.fs) := Lib.hid (List.take_of_length_le (by have := HLN.out; omega))
      rw [HE.out] at HNW ⊢
      obtain ⟨nb, n0, a1, n1, l1, a2, n2, l2, n4, n5, n6⟩ := HNW.out
      obtain ⟨x0, x1, x2, x3, g0, g1, g2, g3, xz⟩ := sh_four n0
      obtain ⟨y0, y1, y2, y3, -, -, -, -, yz⟩ := sh_four n4
      have HNB := Lib.hid nb
      have HN5 := Lib.hid n5
      have HN6 := Lib.hid n6
      clear nb n0 n4 n5 n6
      obtain ⟨OK, hok⟩ : ∃ b, b = (newestF d.fs).isSome := ⟨_, rfl⟩
      rw [← hok]
      have HOK := Lib.hid hok
      clear hok
      go_wp2_with fail
      refine bodyPost_ret (v := .tuple #[.agg #[.int .i64 (newestS d.fs).idx, .int .i64 (newestS d.fs).term, .slice a1 n1 l1, .slice a2 n2 l2], .bool OK]) (by simp [results, Tryz.results37, go_sem, x0, x1, x2, x3, xz]; exact ⟨rfl, rfl⟩) rfl ?_
      refine ⟨(((HNB.out.setCell (by simp) _).setCell (by simp) _).setCell (by simp) _).setCell (by simp) _, a1, n1, l1, a2, n2, l2, by rw [HOK.out], ?_, ?_⟩
      · refine HN5.out.same (fun j hj => ⟨by omega, by simpa using hj.2⟩) fun j hj => ?_
        have hj1 := hj.1
        rw [Below.heap_setCell _ _ _ _ (by simp; omega), Below.heap_setCell _ _ _ _ (by simp; omega), Below.heap_setCell _ _ _ _ (by simp; omega), Below.heap_setCell _ _ _ _ (by simp; omega)]
      · refine HN6.out.same (fun j hj => ⟨by omega, by simpa using hj.2⟩) fun j hj => ?_
        have hj1 := hj.1
        rw [Below.heap_setCell _ _ _ _ (by simp; omega), Below.heap_setCell _ _ _ _ (by simp; omega), Below.heap_setCell _ _ _ _ (by simp; omega), Below.heap_setCell _ _ _ _ (by simp; omega)]
end Go.Proofs.YtbcpcopapbgcdaaGreatDoor.M

/- Part: ShR7. -/
namespace Go.Proofs.YtbcpcopapbgcdaaGreatDoor.M
open Go.RowKit

theorem dg_front : ∀ (k n : Nat), dg (k + 1) n = UInt8.ofNat (48 + n / 10 ^ k % 10) :: dg k n
  | 0, n => by simp [dg]
  | k + 1, n => by
    rw [dg, dg_front k (n / 10), List.cons_append]
    have e : n / 10 / 10 ^ k = n / 10 ^ (k + 1) := by rw [Nat.div_div_eq_div_mul, Nat.pow_succ, Nat.mul_comm]
    rw [e]
    rfl

theorem digit_text : ∀ d : Fin 10, (⟨#[48, 49, 50, 51, 52, 53, 54, 55, 56, 57]⟩ : ByteArray).extract d.1 (d.1 + 1) = ⟨#[UInt8.ofNat (48 + d.1)]⟩ := by decide +kernel

theorem text_cons (c : UInt8) (l : List UInt8) : (⟨#[c]⟩ : ByteArray) ++ (⟨l.toArray⟩ : ByteArray) = ⟨(c :: l).toArray⟩ := by
  apply ByteArray.ext
  simp [ByteArray.data_append]

set_option maxRecDepth 20000 in
set_option maxHeartbeats 1600000 in
theorem RefName6_any (n : Nat) (w : World) (hn : n < 10000000000) :
    Calls Tryz.prog 44 #[.int .i64 (n : Int)] w fun e w' => e = .returned (.string (snName n)) ∧ w' = w := by
  have HN := Lib.hid hn
  have HE : Hid (snName n = (⟨#[115, 110, 97, 112, 45]⟩ : ByteArray) ++ (⟨(dg 10 n).toArray⟩ : ByteArray)) := Lib.hid (by
    apply ByteArray.ext
    simp [snName, ByteArray.data_append])
  obtain ⟨R, hR⟩ : ∃ R, R = snName n := ⟨_, rfl⟩
  rw [← hR] at HE ⊢
  clear hR hn
  go_enter Tryz.func44, Tryz.ntmps44
  go_wp2_with fail
  go_loop [0, 3, 4] (fun x s i => ∃ k m : Nat, k ≤ 10 ∧ i = .int .i64 (k : Int) ∧ x = .int .i64 (m : Int) ∧ Hid (m = n / 10 ^ k) ∧ m < 10000000000 ∧ ∃ t : ByteArray, s = .string t ∧ Hid (t = ⟨(dg k n).toArray⟩)) (fun _ _ i => 10 - (intOf i).toNat)
  case atStart => exact ⟨0, n, Nat.zero_le _, rfl, rfl, Lib.hid (by simp), HN.out, _, rfl, Lib.hid rfl⟩
  case round =>
    obtain ⟨k, m, hk, rfl, rfl, HM, hm, t, rfl, HT⟩ := hrel
    by_cases hlt : k < 10
    · have hkk : (k : Int) < 10 := by omega
      obtain ⟨d, hd⟩ : ∃ d, d = m % 10 := ⟨_, rfl⟩
      have hd10 : d < 10 := by omega
      have hdi : (m : Int) % 10 = (d : Int) := by omega
      have hd1 : ((d : Int) + 1).toNat = d + 1 := by omega
      have hdl : (d : Int) < 10 := by omega
      have hd0 : (0 : Int) ≤ (d : Int) := by omega
      have HTX : Hid ((⟨#[48, 49, 50, 51, 52, 53, 54, 55, 56, 57]⟩ : ByteArray).extract d (d + 1) ++ t = ⟨(dg (k + 1) n).toArray⟩) := Lib.hid (by
        have h := digit_text ⟨d, hd10⟩
        simp only at h
        rw [h, HT.out, text_cons, dg_front, ← HM.out, ← hd])
      have HM2 : Hid (m / 10 = n / 10 ^ (k + 1)) := Lib.hid (by rw [HM.out, Nat.div_div_eq_div_mul, Nat.pow_succ])
      have htz : t.size = k := by rw [HT.out]; show (dg k n).toArray.size = k; simp [dg_length]
      have hsz : ¬ 9223372036854775807 < min (d + 1) 10 - d + t.size := by omega
      have HDM : Hid (m / 10 < 10000000000) := Lib.hid (by omega)
      clear hd hd10 htz
      go_wp2_with fail
      go_round
      case rel => exact ⟨k + 1, m / 10, by omega, by go_num, by go_num, HM2, HDM.out, _, rfl, HTX⟩
      case measure => simp [intOf]; omega
    · have hkk : ¬ (k : Int) < 10 := by omega
      obtain rfl : k = 10 := by omega
      have htz : t.size = 10 := by rw [HT.out]; show (dg 10 n).toArray.size = 10; simp [dg_length]
      have hsz : ¬ 9223372036854775807 < 5 + t.size := by omega
      clear htz
      have HX : Hid (R = (⟨#[115, 110, 97, 112, 45]⟩ : ByteArray) ++ t) := Lib.hid (by rw [HE.out, HT.out])
      go_wp2_with fail
      go_ret
      exact ⟨by rw [HX.out]; rfl, rfl⟩
end Go.Proofs.YtbcpcopapbgcdaaGreatDoor.M
