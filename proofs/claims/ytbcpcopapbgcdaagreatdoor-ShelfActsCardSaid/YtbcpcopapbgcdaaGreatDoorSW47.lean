/- The law ShelfParses. The document's shelf: the newest of a disk. The document's shelf: a snapshot's name. The document's shelf: there, Put. -/
import Derived.Test.YtbcpcopapbgcdaaGreatDoorSW31
import Derived.Test.YtbcpcopapbgcdaaGreatDoorSW46
import Derived.Test.YtbcpcopapbgcdaaGreatDoorSW33
import Derived.Test.YtbcpcopapbgcdaaGreatDoorSW30
/- Part: LawShParses. -/
namespace Go.Proofs.YtbcpcopapbgcdaaGreatDoor.M
open Go.RowKit

def ansS : Except Int Sn → Sn
  | .error _ => Sn.zero
  | .ok x => x

def ansE : Except Int Sn → Int
  | .error c => c
  | .ok _ => 0

theorem SnPost.ans {w : World} {r : Except Int Sn} {e : Ending} {w' : World} (h : SnPost w r e w') : Below w.heap.size w w' ∧ ∃ (a1 : Option Addr) (n1 c1 : Nat) (a2 : Option Addr) (n2 c2 : Nat),
    e = .returned (.tuple #[.agg #[.int .i64 (ansS r).idx, .int .i64 (ansS r).term, .slice a1 n1 c1, .slice a2 n2 c2], .int .i64 (ansE r)]) ∧
    RepB w' (fun k => w.heap.size ≤ k ∧ k < w'.heap.size) (ansS r).conf (.slice a1 n1 c1) ∧ RepB w' (fun k => w.heap.size ≤ k ∧ k < w'.heap.size) (ansS r).body (.slice a2 n2 c2) := by
  obtain ⟨hb, h2⟩ := h
  refine ⟨hb, ?_⟩
  cases r with
  | error c => exact ⟨none, 0, 0, none, 0, 0, h2, .inl ⟨rfl, Bare.nil⟩, .inl ⟨rfl, Bare.nil⟩⟩
  | ok x =>
    obtain ⟨u1, u2, he, r1, r2⟩ := h2
    obtain ⟨a1, c1, rfl, -⟩ := r1.slice
    obtain ⟨a2, c2, rfl, -⟩ := r2.slice
    exact ⟨a1, _, c1, a2, _, c2, he, r1, r2⟩

/-- A refusal is no 0. -/
theorem snParse_fair {b : List UInt8} (h : ansE (snParse b) = 0) : ∃ y, snParse b = .ok y := by
  cases h1 : snParse b with
  | ok y => exact ⟨y, rfl⟩
  | error c =>
    rw [h1] at h
    have h : c = 0 := h
    subst h
    exfalso
    unfold snParse at h1
    split at h1
    · cases h1
    · split at h1
      · cases h1
      · rcases snTake_err h1 with h | h | h <;> cases h


set_option maxRecDepth 20000 in
set_option maxHeartbeats 12800000 in
theorem ShelfParses_any (B : List UInt8) (x : Sn) (F : Nat → Prop) (v cv bv : Value) (w : World) (hv : RepB w F B v) (hc : RepB w F x.conf cv) (hb : RepB w F x.body bv) (hF : ∀ k, F k → k < w.heap.size) (hT : Hid (Tab w)) (hP : Hid (Pow10 w)) (hbk : x.conf.length + x.body.length ≤ 281474976710656) :
    Calls Tryz.prog 5 #[v, snAgg x cv bv] w fun e w' => e = .returned (.bool true) ∧ Below w.heap.size w w' := by
  obtain ⟨xi, xt, xc, xb⟩ := x
  simp only at hc hb hbk
  unfold snAgg
  simp only
  obtain ⟨va, vc, rfl, hvl⟩ := hv.slice
  obtain ⟨ca, cc, rfl, hcl⟩ := hc.slice
  obtain ⟨ba, bc, rfl, hbl⟩ := hb.slice
  obtain ⟨W, hW⟩ : ∃ W, W = w.alloc (.cells #[.int .i64 xi, .int .i64 xt, .slice ca xc.length cc, .slice ba xb.length bc] 53) := ⟨_, rfl⟩
  have hbw : Below w.heap.size w W := by rw [hW]; exact below_alloc _ _
  have HBW := Lib.hid hbw
  have HX : Hid (W.heap[w.heap.size]? = some (.cells #[.int .i64 xi, .int .i64 xt, .slice ca xc.length cc, .slice ba xb.length bc] 53)) := Lib.hid (by rw [hW]; exact heap_new _ _ _ rfl)
  have HCV : Hid (∀ w', Below W.heap.size W w' → RepB w' F B (.slice va B.length vc)) := Lib.hid fun w' hw' => hv.same (fun _ h => h) fun k hk => (hw'.block k (Nat.lt_of_lt_of_le (hF k hk) hbw.size)).trans (hbw.block k (hF k hk))
  have HCC : Hid (∀ w', Below W.heap.size W w' → RepB w' F xc (.slice ca xc.length cc)) := Lib.hid fun w' hw' => hc.same (fun _ h => h) fun k hk => (hw'.block k (Nat.lt_of_lt_of_le (hF k hk) hbw.size)).trans (hbw.block k (hF k hk))
  have HCB : Hid (∀ w', Below W.heap.size W w' → RepB w' F xb (.slice ba xb.length bc)) := Lib.hid fun w' hw' => hb.same (fun _ h => h) fun k hk => (hw'.block k (Nat.lt_of_lt_of_le (hF k hk) hbw.size)).trans (hbw.block k (hF k hk))
  have HF := Lib.hid hF
  have HTW : Hid (Tab W) := Lib.hid (hT.out.next hbw)
  have HPW : Hid (Pow10 W) := Lib.hid (hP.out.next hbw)
  have HA : Hid (∀ wx : World, Below W.heap.size W wx → Calls Tryz.prog 22 #[] wx fun e w' => e = .returned (.bool true) ∧ Below W.heap.size W w') := Lib.hid fun wx hb =>
    (awake6_any wx (Lib.hid (HTW.out.next hb)) (Lib.hid (HPW.out.next hb))).mono fun e w' h => ⟨h.1, hb.trans (h.2.mono hb.size)⟩
  have HW := Lib.hid hW
  have hcl' : (xc.length : Int) ≤ 9223372036854775807 := by omega
  have hbl' : (xb.length : Int) ≤ 9223372036854775807 := by omega
  clear hv hc hb hF hbw hW hvl hcl hbl
  by_cases hbig : 2000 < B.length ∨ 2000 < xc.length + xb.length
  · obtain ⟨x0, x1, x2, x3, -, -, -, -, xz⟩ := sh_four HX.out
    have hsum : (xc.length : Int) + (xb.length : Int) ≤ 281474976710656 := by omega
    rcases (show 2000 < (B.length : Int) ∨ (¬ 2000 < (B.length : Int) ∧ 2000 < (xc.length : Int) + (xb.length : Int)) by omega) with q | ⟨q, q2⟩
    · clear hbig hbk
      go_enter Tryz.func5, Tryz.ntmps5
      go_wp2_with fail
      rw [← HW.out]
      refine (HA.out W (Below.refl _ _)).mono ?_
      rintro e w0 ⟨rfl, hb0⟩
      clear x0 x1 x2 x3 xz
      obtain ⟨x0, x1, x2, x3, -, -, -, -, xz⟩ := sh_four (old_below HX.out hb0)
      have HB0 := Lib.hid hb0
      clear hb0
      go_wp2_with fail
      refine (HA.out w0 HB0.out).mono ?_
      rintro e w1 ⟨rfl, hb1⟩
      have HB1 := Lib.hid hb1
      clear x0 x1 x2 x3 xz hb1
      go_wp2_with fail
      go_ret
      exact ⟨rfl, HBW.out.trans (HB1.out.mono HBW.out.size)⟩
    · have q1 : decide ((2000 : Int) < (B.length : Int)) = false := by simp; omega
      clear hbig q hbk
      go_enter Tryz.func5, Tryz.ntmps5
      go_wp2_with fail
      rw [← HW.out]
      refine (HA.out W (Below.refl _ _)).mono ?_
      rintro e w0 ⟨rfl, hb0⟩
      clear x0 x1 x2 x3 xz
      obtain ⟨x0, x1, x2, x3, -, -, -, -, xz⟩ := sh_four (old_below HX.out hb0)
      have HB0 := Lib.hid hb0
      clear hb0
      go_wp2_with fail
      refine (HA.out w0 HB0.out).mono ?_
      rintro e w1 ⟨rfl, hb1⟩
      have HB1 := Lib.hid hb1
      clear x0 x1 x2 x3 xz hb1
      go_wp2_with fail
      go_ret
      exact ⟨rfl, HBW.out.trans (HB1.out.mono HBW.out.size)⟩
  · have q1 : decide ((2000 : Int) < (B.length : Int)) = false := by simp; omega
    have q2 : decide ((2000 : Int) < (xc.length : Int) + (xb.length : Int)) = false := by simp; omega
    have hcb : (xc.length : Int) + (xb.length : Int) ≤ 281474976710656 := by omega
    have HLB : Hid (B.length ≤ 2000) := Lib.hid (by omega)
    have HLX : Hid (xc.length + xb.length ≤ 2000) := Lib.hid (by omega)
    obtain ⟨⟨yi, yt, yc, yb⟩, hy⟩ : ∃ y, y = ansS (snParse B) := ⟨_, rfl⟩
    obtain ⟨ce, hce⟩ : ∃ c, c = ansE (snParse B) := ⟨_, rfl⟩
    have HY := Lib.hid hy
    have HCE := Lib.hid hce
    have HP1 : Hid (∀ (wx : World) (G : Nat → Prop) (u : Value), RepB wx G B u → (∀ k, G k → k < wx.heap.size) → Below W.heap.size W wx → Calls Tryz.prog 23 #[u] wx fun e w' => Below wx.heap.size wx w' ∧ ∃ (a1 : Option Addr) (n1 c1 : Nat) (a2 : Option Addr) (n2 c2 : Nat),
        e = .returned (.tuple #[.agg #[.int .i64 yi, .int .i64 yt, .slice a1 n1 c1, .slice a2 n2 c2], .int .i64 ce]) ∧ RepB w' (fun k => wx.heap.size ≤ k ∧ k < w'.heap.size) yc (.slice a1 n1 c1) ∧ RepB w' (fun k => wx.heap.size ≤ k ∧ k < w'.heap.size) yb (.slice a2 n2 c2)) := Lib.hid fun wx G u hu hG hbx =>
      (ShParse_any B G u wx hu hG (by have := HLB.out; omega) (Lib.hid (HTW.out.next hbx))).mono fun e w' h => by
        have h2 := h.ans
        rw [← HY.out, ← HCE.out] at h2
        exact h2
    have HP2 : Hid (∀ (wx : World) (G : Nat → Prop) (u : Value), RepB wx G B u → (∀ k, G k → k < wx.heap.size) → Calls Tryz.prog 24 #[u] wx fun e w' => Below wx.heap.size wx w' ∧ ∃ (a1 : Option Addr) (n1 c1 : Nat) (a2 : Option Addr) (n2 c2 : Nat),
        e = .returned (.tuple #[.agg #[.int .i64 yi, .int .i64 yt, .slice a1 n1 c1, .slice a2 n2 c2], .int .i64 ce]) ∧ RepB w' (fun k => wx.heap.size ≤ k ∧ k < w'.heap.size) yc (.slice a1 n1 c1) ∧ RepB w' (fun k => wx.heap.size ≤ k ∧ k < w'.heap.size) yb (.slice a2 n2 c2)) := Lib.hid fun wx G u hu hG =>
      (RefParse_any B G u wx hu hG (by have := HLB.out; omega)).mono fun e w' h => by
        have h2 := h.ans
        rw [← HY.out, ← HCE.out] at h2
        exact h2
    obtain ⟨x0, x1, x2, x3, -, -, -, -, xz⟩ := sh_four HX.out
    clear hbig hy hce hbk
    go_enter Tryz.func5, Tryz.ntmps5
    go_wp2_with fail
    rw [← HW.out]
    refine (HA.out W (Below.refl _ _)).mono ?_
    rintro e w1 ⟨rfl, hb1⟩
    clear x0 x1 x2 x3 xz
    have HB1 := Lib.hid hb1
    obtain ⟨x0, x1, x2, x3, -, -, -, -, xz⟩ := sh_four (old_below HX.out hb1)
    clear hb1
    go_wp2_with (at_builtin; refine wpList_own_append (w := w1) (L := []) (L2 := B) rfl (.tmp 31) (.tmp 32) rfl rfl rfl (Own.lit (Below.refl _ w1) rfl) rfl (F := F) ((HCV.out _ HB1.out).same (fun _ h => h) fun k hk => Below.heap_alloc _ _ _ (Nat.lt_of_lt_of_le (HF.out k hk) (Nat.le_trans HBW.out.size HB1.out.size))) (by have := HLB.out; simp; omega) ?_)
    intro v2 w2 h2
    have H2 : Hid (Own w1 B v2 w2) := Lib.hid (by simpa using h2)
    obtain ⟨a2, k2, rfl⟩ := H2.out.slice
    have HB2 : Hid (Below W.heap.size W w2) := Lib.hid (HB1.out.trans (H2.out.1.mono HB1.out.size))
    clear h2 x0 x1 x2 x3 xz
    go_wp2_with fail
    refine (HP1.out w2 _ _ H2.out.rep (fun k hk => hk.2) HB2.out).mono ?_
    rintro e w3 ⟨hb3, g1, m1, l1, g2, m2, l2, rfl, hr1, hr2⟩
    have HB3 : Hid (Below W.heap.size W w3) := Lib.hid (HB2.out.trans (hb3.mono HB2.out.size))
    have HR1 := Lib.hid hr1
    have HR2 := Lib.hid hr2
    clear hb3 hr1 hr2
    go_wp2_with fail
    obtain ⟨W3, hW3⟩ : ∃ W3, W3 = w3.alloc (.cells #[.int .i64 yi, .int .i64 yt, .slice g1 m1 l1, .slice g2 m2 l2] 53) := ⟨_, rfl⟩
    rw [← hW3]
    have hb3 : Below w3.heap.size w3 W3 := by rw [hW3]; exact below_alloc _ _
    have HX3 : Hid (W3.heap[w3.heap.size]? = some (.cells #[.int .i64 yi, .int .i64 yt, .slice g1 m1 l1, .slice g2 m2 l2] 53)) := Lib.hid (by rw [hW3]; exact heap_new _ _ _ rfl)
    have HB3' : Hid (Below W.heap.size W W3) := Lib.hid (HB3.out.trans (hb3.mono HB3.out.size))
    have HRW1 : Hid (RepB W3 (fun k => k < W3.heap.size) yc (.slice g1 m1 l1)) := Lib.hid (HR1.out.same (fun k hk => Nat.lt_of_lt_of_le hk.2 hb3.size) fun k hk => hb3.block k hk.2)
    have HRW2 : Hid (RepB W3 (fun k => k < W3.heap.size) yb (.slice g2 m2 l2)) := Lib.hid (HR2.out.same (fun k hk => Nat.lt_of_lt_of_le hk.2 hb3.size) fun k hk => hb3.block k hk.2)
    clear hW3 hb3
    refine (HP2.out W3 _ _ (HCV.out W3 HB3'.out) (fun k hk => Nat.lt_of_lt_of_le (HF.out k hk) (Nat.le_trans HBW.out.size HB3'.out.size))).mono ?_
    rintro e w4 ⟨hb4, g3, m3, l3, g4, m4, l4, rfl, hr3, hr4⟩
    have HR3 := Lib.hid hr3
    have HR4 := Lib.hid hr4
    have HB34 := Lib.hid hb4
    obtain ⟨y0, y1, y2, y3, -, -, -, -, yz⟩ := sh_four (old_below HX3.out hb4)
    clear hb4 hr3 hr4
    go_wp2_with fail
    obtain ⟨W4, hW4⟩ : ∃ W4, W4 = w4.alloc (.cells #[.int .i64 yi, .int .i64 yt, .slice g3 m3 l3, .slice g4 m4 l4] 53) := ⟨_, rfl⟩
    rw [← hW4]
    have hb4 : Below w4.heap.size w4 W4 := by rw [hW4]; exact below_alloc _ _
    have h34 : Below W3.heap.size W3 W4 := HB34.out.trans (hb4.mono HB34.out.size)
    have HRZ1 : Hid (RepB W4 (fun k => k < W4.heap.size) yc (.slice g1 m1 l1)) := Lib.hid (HRW1.out.same (fun k hk => Nat.lt_of_lt_of_le hk h34.size) fun k hk => h34.block k hk)
    have HRZ2 : Hid (RepB W4 (fun k => k < W4.heap.size) yb (.slice g2 m2 l2)) := Lib.hid (HRW2.out.same (fun k hk => Nat.lt_of_lt_of_le hk h34.size) fun k hk => h34.block k hk)
    have hr3 : RepB W4 (fun k => k < W4.heap.size) yc (.slice g3 m3 l3) := HR3.out.same (fun k hk => Nat.lt_of_lt_of_le hk.2 hb4.size) fun k hk => hb4.block k hk.2
    have hr4 : RepB W4 (fun k => k < W4.heap.size) yb (.slice g4 m4 l4) := HR4.out.same (fun k hk => Nat.lt_of_lt_of_le hk.2 hb4.size) fun k hk => hb4.block k hk.2
    have HX4 : Hid (W4.heap[w3.heap.size]? = some (.cells #[.int .i64 yi, .int .i64 yt, .slice g1 m1 l1, .slice g2 m2 l2] 53)) := Lib.hid (old_below HX3.out h34)
    have HB4 : Hid (Below W.heap.size W W4) := Lib.hid (HB3'.out.trans (h34.mono HB3'.out.size))
    refine (Same6_any ⟨yi, yt, yc, yb⟩ ⟨yi, yt, yc, yb⟩ (.slice g1 m1 l1) (.slice g2 m2 l2) (.slice g3 m3 l3) (.slice g4 m4 l4) (fun k => k < W4.heap.size) W4 HRZ1.out HRZ2.out hr3 hr4 (fun _ h => h)).mono ?_
    rintro e w5 ⟨rfl, hb5⟩
    rw [(sameSn_iff _ _).2 rfl]
    have HB5 : Hid (Below W.heap.size W w5) := Lib.hid (HB4.out.trans (hb5.mono HB4.out.size))
    have HX5 : Hid (w5.heap[w3.heap.size]? = some (.cells #[.int .i64 yi, .int .i64 yt, .slice g1 m1 l1, .slice g2 m2 l2] 53)) := Lib.hid (old_below HX4.out hb5)
    have HRY1 : Hid (RepB w5 (fun k => k < w5.heap.size) yc (.slice g1 m1 l1)) := Lib.hid (HRZ1.out.same (fun k hk => Nat.lt_of_lt_of_le hk hb5.size) fun k hk => hb5.block k hk)
    have HRY2 : Hid (RepB w5 (fun k => k < w5.heap.size) yb (.slice g2 m2 l2)) := Lib.hid (HRZ2.out.same (fun k hk => Nat.lt_of_lt_of_le hk hb5.size) fun k hk => hb5.block k hk)
    clear y0 y1 y2 y3 yz hb4 h34 hr3 hr4 hW4 hb5
    have hS : Below w5.heap.size w5 w5.drew := (Below.refl _ _).drew
    by_cases h0 : ce = 0
    · have HIN : Hid (B = snBytes ⟨yi, yt, yc, yb⟩ ∧ okSn (yi, yt) = true ∧ yc.length + yb.length ≤ 2000) := Lib.hid (by
        obtain ⟨y, hy⟩ := snParse_fair (HCE.out.symm.trans h0)
        have h1 := HY.out
        rw [hy] at h1
        have h1 : (⟨yi, yt, yc, yb⟩ : Sn) = y := h1
        subst h1
        have h2 := snParse_inv hy
        refine ⟨h2.1, h2.2, ?_⟩
        have h3 := HLB.out
        have h4 := congrArg List.length h2.1
        unfold snBytes snForm at h4
        simp only [List.length_append] at h4
        omega)
      have HYL := HIN.out.2.2
      have HYL := Lib.hid HYL
      subst h0
      go_wp2_with fail
      obtain ⟨y0, y1, y2, y3, -, -, -, -, yz⟩ := sh_four HX5.out
      have cell : ∀ {g o : Nat} {u : Value}, g < w5.heap.size → w5.cell? ⟨g, o, none⟩ = some u → ∀ w', Below w5.heap.size w5 w' → w'.cell? ⟨g, o, none⟩ = some u := fun {g o u} hg h w' hw' => (World.cell?_of_block (a := ⟨g, o, none⟩) (hw'.block g hg)).trans h
      have a0 := cell yz y0
      have a1 := cell yz y1
      have a2 := cell yz y2
      have a3 := cell yz y3
      have hcx : ∀ w', Below w5.heap.size w5 w' → (convert 34 9 (.slice va B.length vc)).run Tryz.prog w' = .ok (.string (strOf B)) w' := fun w' hw' => run_string (P := Tryz.prog) (HCV.out w' (HB5.out.trans (hw'.mono HB5.out.size))) 34 5 9 Tryz.underlying34 Tryz.underlying5 Tryz.underlying9
      obtain ⟨SB, hSB⟩ : ∃ S, S = strOf B := ⟨_, rfl⟩
      rw [← hSB] at hcx
      have HSB := Lib.hid hSB
      clear y0 y1 y2 y3 yz cell hSB
      refine wp_region_held (S := fun w' => Below w5.heap.size w5 w') (by kernel_rfl) ?_
      refine H_take (i := 0) (v := ?_) rfl (by as_aux_lemma => kernel_rfl) (by as_aux_lemma => kernel_rfl) (by as_aux_lemma => kernel_rfl) (fun _ _ _ h => h) (by rfl) hS ?_ ?_
      rotate_left
      · intro w' hw'; go_simp; with_reducible rfl
      go_simp
      refine H_take (i := 1) (v := ?_) rfl (by as_aux_lemma => kernel_rfl) (by as_aux_lemma => kernel_rfl) (by as_aux_lemma => kernel_rfl) (fun _ _ _ h => h) (by rfl) hS ?_ ?_
      rotate_left
      · intro w' hw'; go_simp; with_reducible rfl
      go_simp
      refine H_take (i := 2) (v := ?_) rfl (by as_aux_lemma => kernel_rfl) (by as_aux_lemma => kernel_rfl) (by as_aux_lemma => kernel_rfl) (fun _ _ _ h => h) (by rfl) hS ?_ ?_
      rotate_left
      · intro w' hw'; go_simp; with_reducible rfl
      go_simp
      refine H_take (i := 3) (v := ?_) rfl (by as_aux_lemma => kernel_rfl) (by as_aux_lemma => kernel_rfl) (by as_aux_lemma => kernel_rfl) (fun _ _ _ h => h) (by rfl) hS ?_ ?_
      rotate_left
      · intro w' hw'; go_simp; with_reducible rfl
      go_simp
      refine H_take (i := 6) (v := ?_) rfl (by as_aux_lemma => kernel_rfl) (by as_aux_lemma => kernel_rfl) (by as_aux_lemma => kernel_rfl) (fun _ _ _ h => h) (by rfl) hS ?_ ?_
      rotate_left
      · intro w' hw'; go_simp; with_reducible rfl
      go_simp
      refine H_take (i := 7) (v := ?_) rfl (by as_aux_lemma => kernel_rfl) (by as_aux_lemma => kernel_rfl) (by as_aux_lemma => kernel_rfl) (fun _ _ _ h => h) (by rfl) hS ?_ ?_
      rotate_left
      · intro w' hw'; go_simp; with_reducible rfl
      go_simp
      refine H_one (i := 4) (by as_aux_lemma => kernel_rfl) rfl (by rfl) ?_
      go_simp
      refine (ShBytes_any ⟨yi, yt, yc, yb⟩ (.slice g1 m1 l1) (.slice g2 m2 l2) (fun k => k < w5.heap.size) w5.drew HIN.out.2.1 (HRY1.out.same (fun _ h => h) fun _ _ => rfl) (HRY2.out.same (fun _ h => h) fun _ _ => rfl) (fun _ h => h) (by have := HYL.out; simp only; omega) (Lib.hid (HTW.out.next HB5.out.drew))).mono ?_
      rintro e wt ⟨u10, rfl, h10⟩
      rw [← HIN.out.1] at h10
      obtain ⟨a10, k10, rfl⟩ := h10.slice
      have hc10 := run_string (P := Tryz.prog) h10.rep 34 5 9 Tryz.underlying34 Tryz.underlying5 Tryz.underlying9
      rw [← HSB.out] at hc10
      have hS10 : Below w5.heap.size w5 wt := hS.trans h10.1
      clear h10
      refine ⟨hS10, ?_⟩
      go_simp
      refine H_one (i := 5) (by as_aux_lemma => kernel_rfl) rfl (by rfl) ?_
      go_simp
      clear hc10
      refine H_take (i := 8) (v := ?_) rfl (by as_aux_lemma => kernel_rfl) (by as_aux_lemma => kernel_rfl) (by as_aux_lemma => kernel_rfl) (fun _ _ _ h => h) (by rfl) hS10 ?_ ?_
      rotate_left
      · intro w' hw'; go_simp; with_reducible rfl
      go_simp
      refine H_take (i := 9) (v := ?_) rfl (by as_aux_lemma => kernel_rfl) (by as_aux_lemma => kernel_rfl) (by as_aux_lemma => kernel_rfl) (fun _ _ _ h => h) (by rfl) hS10 ?_ ?_
      rotate_left
      · intro w' hw'; go_simp; with_reducible rfl
      go_simp
      refine wpAnyH_done (by as_aux_lemma => kernel_rfl) ?_ _
      have HTL : Hid (Below W.heap.size W wt) := Lib.hid (HB5.out.trans (hS10.mono HB5.out.size))
      clear hS hS10 a0 a1 a2 a3 hcx
      obtain ⟨x0, x1, x2, x3, -, -, -, -, xz⟩ := sh_four (old_below HX.out HTL.out)
      go_wp2_with fail
      refine (RefRight6_any xi xt wt).mono ?_
      rintro e w6 ⟨rfl, hb6⟩
      have HB6 : Hid (Below W.heap.size W w6) := Lib.hid (HTL.out.trans (hb6.mono HTL.out.size))
      clear x0 x1 x2 x3 xz hb6
      obtain ⟨x0, x1, x2, x3, -, -, -, -, xz⟩ := sh_four (old_below HX.out HB6.out)
      cases hok : okSn (xi, xt) with
      | false =>
        clear hok
        go_wp2_with fail
        go_ret
        exact ⟨rfl, HBW.out.trans (HB6.out.mono HBW.out.size)⟩
      | true =>
        have HOK := Lib.hid hok
        clear hok
        go_wp2_with fail
        refine (ShBytes_any ⟨xi, xt, xc, xb⟩ (.slice ca xc.length cc) (.slice ba xb.length bc) F w6 HOK.out (HCC.out w6 HB6.out) (HCB.out w6 HB6.out) (fun k hk => Nat.lt_of_lt_of_le (HF.out k hk) (Nat.le_trans HBW.out.size HB6.out.size)) (by have := HLX.out; simp only; omega) (Lib.hid (HTW.out.next HB6.out))).mono ?_
        rintro e w7 ⟨u7, rfl, h7⟩
        obtain ⟨X, hX⟩ : ∃ X, X = snBytes ⟨xi, xt, xc, xb⟩ := ⟨_, rfl⟩
        rw [← hX] at h7
        have HXX := Lib.hid hX
        obtain ⟨a7, k7, rfl⟩ := h7.slice
        have H7 := Lib.hid h7
        have HB7 : Hid (Below W.heap.size W w7) := Lib.hid (HB6.out.trans (h7.1.mono HB6.out.size))
        clear h7 hX x0 x1 x2 x3 xz
        go_wp2_with fail
        have HPX : Hid (snParse X = .ok ⟨xi, xt, xc, xb⟩) := Lib.hid (by rw [HXX.out]; exact snParse_back HOK.out (by have := HLX.out; simp only; omega) (by have := HLX.out; simp only; omega))
        refine (ShParse_any X _ _ w7 H7.out.rep (fun k hk => hk.2) (by have := HLX.out; have := snBytes_le ⟨xi, xt, xc, xb⟩; rw [← HXX.out] at this; simp only at this; omega) (Lib.hid (HTW.out.next HB7.out))).mono ?_
        intro e w8 hp8
        obtain ⟨hb8, p1, n1, q1', p2, n2, q2', rfl, hr1, hr2⟩ := hp8.ans
        rw [HPX.out] at hr1 hr2 ⊢
        simp only [ansS, ansE] at hr1 hr2 ⊢
        have HR1 := Lib.hid hr1
        have HR2 := Lib.hid hr2
        have HB8 : Hid (Below W.heap.size W w8) := Lib.hid (HB7.out.trans (hb8.mono HB7.out.size))
        have HB78 := Lib.hid hb8
        clear hp8 hr1 hr2 hb8
        go_wp2_with fail
        obtain ⟨W8, hW8⟩ : ∃ W8, W8 = w8.alloc (.cells #[.int .i64 xi, .int .i64 xt, .slice p1 n1 q1', .slice p2 n2 q2'] 53) := ⟨_, rfl⟩
        rw [← hW8]
        have hb9 : Below w8.heap.size w8 W8 := by rw [hW8]; exact below_alloc _ _
        have HX8 : Hid (W8.heap[w8.heap.size]? = some (.cells #[.int .i64 xi, .int .i64 xt, .slice p1 n1 q1', .slice p2 n2 q2'] 53)) := Lib.hid (by rw [hW8]; exact heap_new _ _ _ rfl)
        have HB9 : Hid (Below W.heap.size W W8) := Lib.hid (HB8.out.trans (hb9.mono HB8.out.size))
        obtain ⟨y0, y1, y2, y3, -, -, -, -, yz⟩ := sh_four HX8.out
        obtain ⟨x0, x1, x2, x3, -, -, -, -, xz⟩ := sh_four (old_below HX.out HB9.out)
        have cell : ∀ {g o : Nat} {u : Value}, g < W8.heap.size → W8.cell? ⟨g, o, none⟩ = some u → ∀ w', Below W8.heap.size W8 w' → w'.cell? ⟨g, o, none⟩ = some u := fun {g o u} hg h w' hw' => (World.cell?_of_block (a := ⟨g, o, none⟩) (hw'.block g hg)).trans h
        have a0 := cell yz y0
        have a1 := cell yz y1
        have a2 := cell yz y2
        have a3 := cell yz y3
        have b0 := cell xz x0
        have b1 := cell xz x1
        have b2 := cell xz x2
        have b3 := cell xz x3
        have HOX : Hid (∀ w', Below W8.heap.size W8 w' → Own w6 X (.slice a7 X.length k7) w') := Lib.hid fun w' hw' => ((H7.out.next HB78.out).next hb9).next hw'
        have hcx : ∀ w', Below W8.heap.size W8 w' → (convert 34 9 (.slice a7 X.length k7)).run Tryz.prog w' = .ok (.string (strOf X)) w' := fun w' hw' => run_string (P := Tryz.prog) (HOX.out w' hw').rep 34 5 9 Tryz.underlying34 Tryz.underlying5 Tryz.underlying9
        have HRR1 : Hid (∀ w', Below W8.heap.size W8 w' → RepB w' (fun k => k < w'.heap.size) xc (.slice p1 n1 q1')) := Lib.hid fun w' hw' => HR1.out.same (fun k hk => Nat.lt_of_lt_of_le hk.2 (Nat.le_trans hb9.size hw'.size)) fun k hk => (hw'.block k (Nat.lt_of_lt_of_le hk.2 hb9.size)).trans (hb9.block k hk.2)
        have HRR2 : Hid (∀ w', Below W8.heap.size W8 w' → RepB w' (fun k => k < w'.heap.size) xb (.slice p2 n2 q2')) := Lib.hid fun w' hw' => HR2.out.same (fun k hk => Nat.lt_of_lt_of_le hk.2 (Nat.le_trans hb9.size hw'.size)) fun k hk => (hw'.block k (Nat.lt_of_lt_of_le hk.2 hb9.size)).trans (hb9.block k hk.2)
        obtain ⟨SX, hSX⟩ : ∃ S, S = strOf X := ⟨_, rfl⟩
        rw [← hSX] at hcx
        have HSX := Lib.hid hSX
        have hS : Below W8.heap.size W8 W8.drew := (Below.refl _ _).drew
        clear hW8 hb9 y0 y1 y2 y3 yz x0 x1 x2 x3 xz cell hSX
        refine wp_region_held (S := fun w' => Below W8.heap.size W8 w') (by kernel_rfl) ?_
        refine H_take (i := 0) (v := ?_) rfl (by as_aux_lemma => kernel_rfl) (by as_aux_lemma => kernel_rfl) (by as_aux_lemma => kernel_rfl) (fun _ _ _ h => h) (by rfl) hS ?_ ?_
        rotate_left
        · intro w' hw'; go_simp; with_reducible rfl
        go_simp
        refine H_take (i := 1) (v := ?_) rfl (by as_aux_lemma => kernel_rfl) (by as_aux_lemma => kernel_rfl) (by as_aux_lemma => kernel_rfl) (fun _ _ _ h => h) (by rfl) hS ?_ ?_
        rotate_left
        · intro w' hw'; go_simp; with_reducible rfl
        go_simp
        refine H_take (i := 2) (v := ?_) rfl (by as_aux_lemma => kernel_rfl) (by as_aux_lemma => kernel_rfl) (by as_aux_lemma => kernel_rfl) (fun _ _ _ h => h) (by rfl) hS ?_ ?_
        rotate_left
        · intro w' hw'; go_simp; with_reducible rfl
        go_simp
        refine H_one (i := 3) (by as_aux_lemma => kernel_rfl) rfl (by rfl) ?_
        go_simp
        refine (RefBytes6_any ⟨xi, xt, xc, xb⟩ (.slice ca xc.length cc) (.slice ba xb.length bc) F _ HOK.out (HCC.out _ (HB9.out.drew)) (HCB.out _ (HB9.out.drew)) (fun k hk => Nat.lt_of_lt_of_le (HF.out k hk) (Nat.le_trans HBW.out.size HB9.out.size)) (by have := HLX.out; simp only; omega)).mono ?_
        rintro e w10 ⟨u10, rfl, h10⟩
        rw [← HXX.out] at h10
        obtain ⟨a10, k10, rfl⟩ := h10.slice
        have hc10 := run_string (P := Tryz.prog) h10.rep 34 5 9 Tryz.underlying34 Tryz.underlying5 Tryz.underlying9
        rw [← HSX.out] at hc10
        have hS10 : Below W8.heap.size W8 w10 := hS.trans h10.1
        clear h10
        refine ⟨hS10, ?_⟩
        go_simp
        refine H_one (i := 4) (by as_aux_lemma => kernel_rfl) rfl (by rfl) ?_
        go_simp
        clear hc10
        refine H_take (i := 5) (v := ?_) rfl (by as_aux_lemma => kernel_rfl) (by as_aux_lemma => kernel_rfl) (by as_aux_lemma => kernel_rfl) (fun _ _ _ h => h) (by rfl) hS10 ?_ ?_
        rotate_left
        · intro w' hw'; go_simp; with_reducible rfl
        go_simp
        refine H_take (i := 6) (v := ?_) rfl (by as_aux_lemma => kernel_rfl) (by as_aux_lemma => kernel_rfl) (by as_aux_lemma => kernel_rfl) (fun _ _ _ h => h) (by rfl) hS10 ?_ ?_
        rotate_left
        · intro w' hw'; go_simp; with_reducible rfl
        go_simp
        refine H_take (i := 7) (v := ?_) rfl (by as_aux_lemma => kernel_rfl) (by as_aux_lemma => kernel_rfl) (by as_aux_lemma => kernel_rfl) (fun _ _ _ h => h) (by rfl) hS10 ?_ ?_
        rotate_left
        · intro w' hw'; go_simp; with_reducible rfl
        go_simp
        refine H_take (i := 8) (v := ?_) rfl (by as_aux_lemma => kernel_rfl) (by as_aux_lemma => kernel_rfl) (by as_aux_lemma => kernel_rfl) (fun _ _ _ h => h) (by rfl) hS10 ?_ ?_
        rotate_left
        · intro w' hw'; go_simp; with_reducible rfl
        go_simp
        refine H_take (i := 9) (v := ?_) rfl (by as_aux_lemma => kernel_rfl) (by as_aux_lemma => kernel_rfl) (by as_aux_lemma => kernel_rfl) (fun _ _ _ h => h) (by rfl) hS10 ?_ ?_
        rotate_left
        · intro w' hw'; go_simp; with_reducible rfl
        go_simp
        refine H_take (i := 10) (v := ?_) rfl (by as_aux_lemma => kernel_rfl) (by as_aux_lemma => kernel_rfl) (by as_aux_lemma => kernel_rfl) (fun _ _ _ h => h) (by rfl) hS10 ?_ ?_
        rotate_left
        · intro w' hw'; go_simp; with_reducible rfl
        go_simp
        refine H_take (i := 11) (v := ?_) rfl (by as_aux_lemma => kernel_rfl) (by as_aux_lemma => kernel_rfl) (by as_aux_lemma => kernel_rfl) (fun _ _ _ h => h) (by rfl) hS10 ?_ ?_
        rotate_left
        · intro w' hw'; go_simp; with_reducible rfl
        go_simp
        refine H_take (i := 12) (v := ?_) rfl (by as_aux_lemma => kernel_rfl) (by as_aux_lemma => kernel_rfl) (by as_aux_lemma => kernel_rfl) (fun _ _ _ h => h) (by rfl) hS10 ?_ ?_
        rotate_left
        · intro w' hw'; go_simp; with_reducible rfl
        go_simp
        refine H_one (i := 13) (by as_aux_lemma => kernel_rfl) rfl (by rfl) ?_
        go_simp
        refine (Same6_any ⟨xi, xt, xc, xb⟩ ⟨xi, xt, xc, xb⟩ (.slice p1 n1 q1') (.slice p2 n2 q2') (.slice ca xc.length cc) (.slice ba xb.length bc) (fun k => k < w10.heap.size) w10 (HRR1.out _ hS10) (HRR2.out _ hS10) ((HCC.out _ (HB9.out.trans (hS10.mono HB9.out.size))).weak fun k hk => Nat.lt_of_lt_of_le (HF.out k hk) (Nat.le_trans HBW.out.size (Nat.le_trans HB9.out.size hS10.size))) ((HCB.out _ (HB9.out.trans (hS10.mono HB9.out.size))).weak fun k hk => Nat.lt_of_lt_of_le (HF.out k hk) (Nat.le_trans HBW.out.size (Nat.le_trans HB9.out.size hS10.size))) (fun _ h => h)).mono ?_
        rintro e w11 ⟨rfl, hb11⟩
        rw [(sameSn_iff _ _).2 rfl]
        have hS11 : Below W8.heap.size W8 w11 := hS10.trans (hb11.mono hS10.size)
        refine ⟨hS11, ?_⟩
        go_simp
        refine H_take (i := 14) (v := ?_) rfl (by as_aux_lemma => kernel_rfl) (by as_aux_lemma => kernel_rfl) (by as_aux_lemma => kernel_rfl) (fun _ _ _ h => h) (by rfl) hS11 ?_ ?_
        rotate_left
        · intro w' hw'; go_simp; with_reducible rfl
        go_simp
        refine H_take (i := 15) (v := ?_) rfl (by as_aux_lemma => kernel_rfl) (by as_aux_lemma => kernel_rfl) (by as_aux_lemma => kernel_rfl) (fun _ _ _ h => h) (by rfl) hS11 ?_ ?_
        rotate_left
        · intro w' hw'; go_simp; with_reducible rfl
        go_simp
        refine wpAnyH_done (by as_aux_lemma => kernel_rfl) ?_ _
        have HEND : Hid (Below w.heap.size w w11) := Lib.hid (HBW.out.trans ((HB9.out.trans (hS11.mono HB9.out.size)).mono HBW.out.size))
        clear hS hS10 hS11 hb11 a0 a1 a2 a3 b0 b1 b2 b3 hcx
        go_wp2_with fail
        go_ret
        exact ⟨rfl, HEND.out⟩
    · have q3 : (ce == 0) = false := by simpa using h0
      clear h0
      go_wp2_with fail
      refine wp_region_held (S := fun w' => Below w5.heap.size w5 w') (by kernel_rfl) ?_
      refine H_take (i := 0) (v := ?_) rfl (by as_aux_lemma => kernel_rfl) (by as_aux_lemma => kernel_rfl) (by as_aux_lemma => kernel_rfl) (fun _ _ _ h => h) (by rfl) hS ?_ ?_
      rotate_left
      · intro w' hw'; go_simp; with_reducible rfl
      go_simp
      refine H_take (i := 1) (v := ?_) rfl (by as_aux_lemma => kernel_rfl) (by as_aux_lemma => kernel_rfl) (by as_aux_lemma => kernel_rfl) (fun _ _ _ h => h) (by rfl) hS ?_ ?_
      rotate_left
      · intro w' hw'; go_simp; with_reducible rfl
      go_simp
      refine H_take (i := 2) (v := ?_) rfl (by as_aux_lemma => kernel_rfl) (by as_aux_lemma => kernel_rfl) (by as_aux_lemma => kernel_rfl) (fun _ _ _ h => h) (by rfl) hS ?_ ?_
      rotate_left
      · intro w' hw'; go_simp; with_reducible rfl
      go_simp
      refine H_skip (i := 3) rfl (by as_aux_lemma => kernel_rfl) (by as_aux_lemma => kernel_rfl) (by as_aux_lemma => kernel_rfl) (fun _ _ _ h => h) (by rfl) hS ?_
      go_simp
      refine H_skip (i := 4) rfl (by as_aux_lemma => kernel_rfl) (by as_aux_lemma => kernel_rfl) (by as_aux_lemma => kernel_rfl) (fun _ _ _ h => h) (by rfl) hS ?_
      go_simp
      refine H_skip (i := 5) rfl (by as_aux_lemma => kernel_rfl) (by as_aux_lemma => kernel_rfl) (by as_aux_lemma => kernel_rfl) (fun _ _ _ h => h) (by rfl) hS ?_
      go_simp
      refine H_skip (i := 6) rfl (by as_aux_lemma => kernel_rfl) (by as_aux_lemma => kernel_rfl) (by as_aux_lemma => kernel_rfl) (fun _ _ _ h => h) (by rfl) hS ?_
      go_simp
      refine H_skip (i := 7) rfl (by as_aux_lemma => kernel_rfl) (by as_aux_lemma => kernel_rfl) (by as_aux_lemma => kernel_rfl) (fun _ _ _ h => h) (by rfl) hS ?_
      go_simp
      refine H_skip (i := 8) rfl (by as_aux_lemma => kernel_rfl) (by as_aux_lemma => kernel_rfl) (by as_aux_lemma => kernel_rfl) (fun _ _ _ h => h) (by rfl) hS ?_
      go_simp
      refine H_take (i := 9) (v := ?_) rfl (by as_aux_lemma => kernel_rfl) (by as_aux_lemma => kernel_rfl) (by as_aux_lemma => kernel_rfl) (fun _ _ _ h => h) (by rfl) hS ?_ ?_
      rotate_left
      · intro w' hw'; go_simp; with_reducible rfl
      go_simp
      refine wpAnyH_done (by as_aux_lemma => kernel_rfl) ?_ _
      obtain ⟨wt, hwt⟩ : ∃ wt, wt = w5.drew := ⟨_, rfl⟩
      rw [← hwt]
      have HTL : Hid (Below W.heap.size W wt) := Lib.hid (by rw [hwt]; exact HB5.out.drew)
      clear hS hwt q3
      obtain ⟨x0, x1, x2, x3, -, -, -, -, xz⟩ := sh_four (old_below HX.out HTL.out)
      go_wp2_with fail
      refine (RefRight6_any xi xt wt).mono ?_
      rintro e w6 ⟨rfl, hb6⟩
      have HB6 : Hid (Below W.heap.size W w6) := Lib.hid (HTL.out.trans (hb6.mono HTL.out.size))
      clear x0 x1 x2 x3 xz hb6
      obtain ⟨x0, x1, x2, x3, -, -, -, -, xz⟩ := sh_four (old_below HX.out HB6.out)
      cases hok : okSn (xi, xt) with
      | false =>
        clear hok
        go_wp2_with fail
        go_ret
        exact ⟨rfl, HBW.out.trans (HB6.out.mono HBW.out.size)⟩
      | true =>
        have HOK := Lib.hid hok
        clear hok
        go_wp2_with fail
        refine (ShBytes_any ⟨xi, xt, xc, xb⟩ (.slice ca xc.length cc) (.slice ba xb.length bc) F w6 HOK.out (HCC.out w6 HB6.out) (HCB.out w6 HB6.out) (fun k hk => Nat.lt_of_lt_of_le (HF.out k hk) (Nat.le_trans HBW.out.size HB6.out.size)) (by have := HLX.out; simp only; omega) (Lib.hid (HTW.out.next HB6.out))).mono ?_
        rintro e w7 ⟨u7, rfl, h7⟩
        obtain ⟨X, hX⟩ : ∃ X, X = snBytes ⟨xi, xt, xc, xb⟩ := ⟨_, rfl⟩
        rw [← hX] at h7
        have HXX := Lib.hid hX
        obtain ⟨a7, k7, rfl⟩ := h7.slice
        have H7 := Lib.hid h7
        have HB7 : Hid (Below W.heap.size W w7) := Lib.hid (HB6.out.trans (h7.1.mono HB6.out.size))
        clear h7 hX x0 x1 x2 x3 xz
        go_wp2_with fail
        have HPX : Hid (snParse X = .ok ⟨xi, xt, xc, xb⟩) := Lib.hid (by rw [HXX.out]; exact snParse_back HOK.out (by have := HLX.out; simp only; omega) (by have := HLX.out; simp only; omega))
        refine (ShParse_any X _ _ w7 H7.out.rep (fun k hk => hk.2) (by have := HLX.out; have := snBytes_le ⟨xi, xt, xc, xb⟩; rw [← HXX.out] at this; simp only at this; omega) (Lib.hid (HTW.out.next HB7.out))).mono ?_
        intro e w8 hp8
        obtain ⟨hb8, p1, n1, q1', p2, n2, q2', rfl, hr1, hr2⟩ := hp8.ans
        rw [HPX.out] at hr1 hr2 ⊢
        simp only [ansS, ansE] at hr1 hr2 ⊢
        have HR1 := Lib.hid hr1
        have HR2 := Lib.hid hr2
        have HB8 : Hid (Below W.heap.size W w8) := Lib.hid (HB7.out.trans (hb8.mono HB7.out.size))
        have HB78 := Lib.hid hb8
        clear hp8 hr1 hr2 hb8
        go_wp2_with fail
        obtain ⟨W8, hW8⟩ : ∃ W8, W8 = w8.alloc (.cells #[.int .i64 xi, .int .i64 xt, .slice p1 n1 q1', .slice p2 n2 q2'] 53) := ⟨_, rfl⟩
        rw [← hW8]
        have hb9 : Below w8.heap.size w8 W8 := by rw [hW8]; exact below_alloc _ _
        have HX8 : Hid (W8.heap[w8.heap.size]? = some (.cells #[.int .i64 xi, .int .i64 xt, .slice p1 n1 q1', .slice p2 n2 q2'] 53)) := Lib.hid (by rw [hW8]; exact heap_new _ _ _ rfl)
        have HB9 : Hid (Below W.heap.size W W8) := Lib.hid (HB8.out.trans (hb9.mono HB8.out.size))
        obtain ⟨y0, y1, y2, y3, -, -, -, -, yz⟩ := sh_four HX8.out
        obtain ⟨x0, x1, x2, x3, -, -, -, -, xz⟩ := sh_four (old_below HX.out HB9.out)
        have cell : ∀ {g o : Nat} {u : Value}, g < W8.heap.size → W8.cell? ⟨g, o, none⟩ = some u → ∀ w', Below W8.heap.size W8 w' → w'.cell? ⟨g, o, none⟩ = some u := fun {g o u} hg h w' hw' => (World.cell?_of_block (a := ⟨g, o, none⟩) (hw'.block g hg)).trans h
        have a0 := cell yz y0
        have a1 := cell yz y1
        have a2 := cell yz y2
        have a3 := cell yz y3
        have b0 := cell xz x0
        have b1 := cell xz x1
        have b2 := cell xz x2
        have b3 := cell xz x3
        have HOX : Hid (∀ w', Below W8.heap.size W8 w' → Own w6 X (.slice a7 X.length k7) w') := Lib.hid fun w' hw' => ((H7.out.next HB78.out).next hb9).next hw'
        have hcx : ∀ w', Below W8.heap.size W8 w' → (convert 34 9 (.slice a7 X.length k7)).run Tryz.prog w' = .ok (.string (strOf X)) w' := fun w' hw' => run_string (P := Tryz.prog) (HOX.out w' hw').rep 34 5 9 Tryz.underlying34 Tryz.underlying5 Tryz.underlying9
        have HRR1 : Hid (∀ w', Below W8.heap.size W8 w' → RepB w' (fun k => k < w'.heap.size) xc (.slice p1 n1 q1')) := Lib.hid fun w' hw' => HR1.out.same (fun k hk => Nat.lt_of_lt_of_le hk.2 (Nat.le_trans hb9.size hw'.size)) fun k hk => (hw'.block k (Nat.lt_of_lt_of_le hk.2 hb9.size)).trans (hb9.block k hk.2)
        have HRR2 : Hid (∀ w', Below W8.heap.size W8 w' → RepB w' (fun k => k < w'.heap.size) xb (.slice p2 n2 q2')) := Lib.hid fun w' hw' => HR2.out.same (fun k hk => Nat.lt_of_lt_of_le hk.2 (Nat.le_trans hb9.size hw'.size)) fun k hk => (hw'.block k (Nat.lt_of_lt_of_le hk.2 hb9.size)).trans (hb9.block k hk.2)
        obtain ⟨SX, hSX⟩ : ∃ S, S = strOf X := ⟨_, rfl⟩
        rw [← hSX] at hcx
        have HSX := Lib.hid hSX
        have hS : Below W8.heap.size W8 W8.drew := (Below.refl _ _).drew
        clear hW8 hb9 y0 y1 y2 y3 yz x0 x1 x2 x3 xz cell hSX
        refine wp_region_held (S := fun w' => Below W8.heap.size W8 w') (by kernel_rfl) ?_
        refine H_take (i := 0) (v := ?_) rfl (by as_aux_lemma => kernel_rfl) (by as_aux_lemma => kernel_rfl) (by as_aux_lemma => kernel_rfl) (fun _ _ _ h => h) (by rfl) hS ?_ ?_
        rotate_left
        · intro w' hw'; go_simp; with_reducible rfl
        go_simp
        refine H_take (i := 1) (v := ?_) rfl (by as_aux_lemma => kernel_rfl) (by as_aux_lemma => kernel_rfl) (by as_aux_lemma => kernel_rfl) (fun _ _ _ h => h) (by rfl) hS ?_ ?_
        rotate_left
        · intro w' hw'; go_simp; with_reducible rfl
        go_simp
        refine H_take (i := 2) (v := ?_) rfl (by as_aux_lemma => kernel_rfl) (by as_aux_lemma => kernel_rfl) (by as_aux_lemma => kernel_rfl) (fun _ _ _ h => h) (by rfl) hS ?_ ?_
        rotate_left
        · intro w' hw'; go_simp; with_reducible rfl
        go_simp
        refine H_one (i := 3) (by as_aux_lemma => kernel_rfl) rfl (by rfl) ?_
        go_simp
        refine (RefBytes6_any ⟨xi, xt, xc, xb⟩ (.slice ca xc.length cc) (.slice ba xb.length bc) F _ HOK.out (HCC.out _ (HB9.out.drew)) (HCB.out _ (HB9.out.drew)) (fun k hk => Nat.lt_of_lt_of_le (HF.out k hk) (Nat.le_trans HBW.out.size HB9.out.size)) (by have := HLX.out; simp only; omega)).mono ?_
        rintro e w10 ⟨u10, rfl, h10⟩
        rw [← HXX.out] at h10
        obtain ⟨a10, k10, rfl⟩ := h10.slice
        have hc10 := run_string (P := Tryz.prog) h10.rep 34 5 9 Tryz.underlying34 Tryz.underlying5 Tryz.underlying9
        rw [← HSX.out] at hc10
        have hS10 : Below W8.heap.size W8 w10 := hS.trans h10.1
        clear h10
        refine ⟨hS10, ?_⟩
        go_simp
        refine H_one (i := 4) (by as_aux_lemma => kernel_rfl) rfl (by rfl) ?_
        go_simp
        clear hc10
        refine H_take (i := 5) (v := ?_) rfl (by as_aux_lemma => kernel_rfl) (by as_aux_lemma => kernel_rfl) (by as_aux_lemma => kernel_rfl) (fun _ _ _ h => h) (by rfl) hS10 ?_ ?_
        rotate_left
        · intro w' hw'; go_simp; with_reducible rfl
        go_simp
        refine H_take (i := 6) (v := ?_) rfl (by as_aux_lemma => kernel_rfl) (by as_aux_lemma => kernel_rfl) (by as_aux_lemma => kernel_rfl) (fun _ _ _ h => h) (by rfl) hS10 ?_ ?_
        rotate_left
        · intro w' hw'; go_simp; with_reducible rfl
        go_simp
        refine H_take (i := 7) (v := ?_) rfl (by as_aux_lemma => kernel_rfl) (by as_aux_lemma => kernel_rfl) (by as_aux_lemma => kernel_rfl) (fun _ _ _ h => h) (by rfl) hS10 ?_ ?_
        rotate_left
        · intro w' hw'; go_simp; with_reducible rfl
        go_simp
        refine H_take (i := 8) (v := ?_) rfl (by as_aux_lemma => kernel_rfl) (by as_aux_lemma => kernel_rfl) (by as_aux_lemma => kernel_rfl) (fun _ _ _ h => h) (by rfl) hS10 ?_ ?_
        rotate_left
        · intro w' hw'; go_simp; with_reducible rfl
        go_simp
        refine H_take (i := 9) (v := ?_) rfl (by as_aux_lemma => kernel_rfl) (by as_aux_lemma => kernel_rfl) (by as_aux_lemma => kernel_rfl) (fun _ _ _ h => h) (by rfl) hS10 ?_ ?_
        rotate_left
        · intro w' hw'; go_simp; with_reducible rfl
        go_simp
        refine H_take (i := 10) (v := ?_) rfl (by as_aux_lemma => kernel_rfl) (by as_aux_lemma => kernel_rfl) (by as_aux_lemma => kernel_rfl) (fun _ _ _ h => h) (by rfl) hS10 ?_ ?_
        rotate_left
        · intro w' hw'; go_simp; with_reducible rfl
        go_simp
        refine H_take (i := 11) (v := ?_) rfl (by as_aux_lemma => kernel_rfl) (by as_aux_lemma => kernel_rfl) (by as_aux_lemma => kernel_rfl) (fun _ _ _ h => h) (by rfl) hS10 ?_ ?_
        rotate_left
        · intro w' hw'; go_simp; with_reducible rfl
        go_simp
        refine H_take (i := 12) (v := ?_) rfl (by as_aux_lemma => kernel_rfl) (by as_aux_lemma => kernel_rfl) (by as_aux_lemma => kernel_rfl) (fun _ _ _ h => h) (by rfl) hS10 ?_ ?_
        rotate_left
        · intro w' hw'; go_simp; with_reducible rfl
        go_simp
        refine H_one (i := 13) (by as_aux_lemma => kernel_rfl) rfl (by rfl) ?_
        go_simp
        refine (Same6_any ⟨xi, xt, xc, xb⟩ ⟨xi, xt, xc, xb⟩ (.slice p1 n1 q1') (.slice p2 n2 q2') (.slice ca xc.length cc) (.slice ba xb.length bc) (fun k => k < w10.heap.size) w10 (HRR1.out _ hS10) (HRR2.out _ hS10) ((HCC.out _ (HB9.out.trans (hS10.mono HB9.out.size))).weak fun k hk => Nat.lt_of_lt_of_le (HF.out k hk) (Nat.le_trans HBW.out.size (Nat.le_trans HB9.out.size hS10.size))) ((HCB.out _ (HB9.out.trans (hS10.mono HB9.out.size))).weak fun k hk => Nat.lt_of_lt_of_le (HF.out k hk) (Nat.le_trans HBW.out.size (Nat.le_trans HB9.out.size hS10.size))) (fun _ h => h)).mono ?_
        rintro e w11 ⟨rfl, hb11⟩
        rw [(sameSn_iff _ _).2 rfl]
        have hS11 : Below W8.heap.size W8 w11 := hS10.trans (hb11.mono hS10.size)
        refine ⟨hS11, ?_⟩
        go_simp
        refine H_take (i := 14) (v := ?_) rfl (by as_aux_lemma => kernel_rfl) (by as_aux_lemma => kernel_rfl) (by as_aux_lemma => kernel_rfl) (fun _ _ _ h => h) (by rfl) hS11 ?_ ?_
        rotate_left
        · intro w' hw'; go_simp; with_reducible rfl
        go_simp
        refine H_take (i := 15) (v := ?_) rfl (by as_aux_lemma => kernel_rfl) (by as_aux_lemma => kernel_rfl) (by as_aux_lemma => kernel_rfl) (fun _ _ _ h => h) (by rfl) hS11 ?_ ?_
        rotate_left
        · intro w' hw'; go_simp; with_reducible rfl
        go_simp
        refine wpAnyH_done (by as_aux_lemma => kernel_rfl) ?_ _
        have HEND : Hid (Below w.heap.size w w11) := Lib.hid (HBW.out.trans ((HB9.out.trans (hS11.mono HB9.out.size)).mono HBW.out.size))
        clear hS hS10 hS11 hb11 a0 a1 a2 a3 b0 b1 b2 b3 hcx
        go_wp2_with fail
        go_ret
        exact ⟨rfl, HEND.out⟩
end Go.Proofs.YtbcpcopapbgcdaaGreatDoor.M

/- Part: ShR6. -/
namespace Go.Proofs.YtbcpcopapbgcdaaGreatDoor.M
open Go.RowKit
open D (Fl Dk)

theorem idxN_neg {nm : ByteArray} (h : ¬ 0 ≤ idxN nm) : snIdx nm = none := by
  cases h1 : snIdx nm with
  | none => rfl
  | some n => exact absurd (by rw [idxN_some h1]; omega) h

theorem idxN_nn {nm : ByteArray} (h : 0 ≤ idxN nm) : ∃ n : Nat, snIdx nm = some n ∧ idxN nm = n := by
  cases h1 : snIdx nm with
  | none => rw [idxN_none h1] at h; omega
  | some n => exact ⟨n, rfl, idxN_some h1⟩

theorem idxN_lt (nm : ByteArray) : idxN nm < 10000000000 ∧ -1 ≤ idxN nm := by
  cases h : snIdx nm with
  | none => rw [idxN_none h]; omega
  | some n =>
    rw [idxN_some h]
    unfold snIdx at h
    split at h
    · rename_i h1
      obtain ⟨hs, -, hd⟩ := h1
      cases h
      have h2 := digs_bound _ hd
      have h3 : (nm.data.toList.drop 5).length = 10 := by
        rw [List.length_drop]
        have : nm.data.toList.length = nm.size := rfl
        omega
      rw [h3] at h2
      have : (10 : Nat) ^ 10 = 10000000000 := by decide
      omega
    · cases h

/-- One file more. -/
theorem newest_next {fs : List Fl} {k : Nat} (h : k < fs.length) : newestF (fs.take (k + 1)) = (match readF fs[k] with | some x => some x | none => newestF (fs.take k)) := by
  unfold newestF
  rw [List.take_succ_eq_append_getElem h, List.filterMap_append]
  cases h1 : readF fs[k] with
  | none => simp only [List.filterMap_cons, h1, List.filterMap_nil, List.append_nil]
  | some x => simp only [List.filterMap_cons, h1, List.filterMap_nil, List.getLast?_concat]

theorem read_no1 {f : Fl} (h : ¬ 0 ≤ idxN f.nm) : readF f = none := by unfold readF; rw [idxN_neg h]

theorem read_no2 {f : Fl} (h : ansE (snParse f.b) ≠ 0) : readF f = none := by
  unfold readF
  cases snIdx f.nm with
  | none => rfl
  | some n =>
    simp only
    cases h1 : snParse f.b with
    | error c => rfl
    | ok x => rw [h1] at h; exact absurd rfl h

theorem read_no3 {f : Fl} (h0 : 0 ≤ idxN f.nm) (h : (ansS (snParse f.b)).idx ≠ idxN f.nm) : readF f = none := by
  unfold readF
  obtain ⟨n, h1, h2⟩ := idxN_nn h0
  rw [h1]
  simp only
  cases h3 : snParse f.b with
  | error c => rfl
  | ok x =>
    simp only
    rw [if_neg]
    rw [h3, h2] at h
    exact h

theorem read_yes {f : Fl} (h0 : 0 ≤ idxN f.nm) (h1 : ansE (snParse f.b) = 0) (h : (ansS (snParse f.b)).idx = idxN f.nm) : readF f = some (ansS (snParse f.b)) := by
  unfold readF
  obtain ⟨n, h2, h3⟩ := idxN_nn h0
  obtain ⟨y, h4⟩ := snParse_fair h1
  rw [h2, h4]
  simp only
  rw [h4, h3] at h
  have h : y.idx = n := h
  rw [if_pos h]
  rfl

/-- The state at the head of the loop. -/
def NwAt (w : World) (o : Option Sn) (wr : World) : Prop :=
  Below w.heap.size w wr ∧ wr.heap[w.heap.size]? = some (.cells #[.int .i64 0, .int .i64 0, .slice none 0 0, .slice none 0 0] 53) ∧
  ∃ (a1 : Option Addr) (n1 c1 : Nat) (a2 : Option Addr) (n2 c2 : Nat), wr.heap[w.heap.size + 1]? = some (.cells #[.int .i64 (o.getD Sn.zero).idx, .int .i64 (o.getD Sn.zero).term, .slice a1 n1 c1, .slice a2 n2 c2] 53) ∧
    RepB wr (fun j => w.heap.size + 2 ≤ j ∧ j < wr.heap.size) (o.getD Sn.zero).conf (.slice a1 n1 c1) ∧ RepB wr (fun j => w.heap.size + 2 ≤ j ∧ j < wr.heap.size) (o.getD Sn.zero).body (.slice a2 n2 c2)

theorem NwAt.next {w wr w' : World} {o : Option Sn} (h : NwAt w o wr) (hb : Below wr.heap.size wr w') : NwAt w o w' := by
  obtain ⟨h1, h2, a1, n1, c1, a2, n2, c2, h3, h4, h5⟩ := h
  exact ⟨h1.trans (hb.mono h1.size), old_below h2 hb, a1, n1, c1, a2, n2, c2, old_below h3 hb, h4.same (fun j hj => ⟨hj.1, Nat.lt_of_lt_of_le hj.2 hb.size⟩) fun j hj => hb.block j hj.2, h5.same (fun j hj => ⟨hj.1, Nat.lt_of_lt_of_le hj.2 hb.size⟩) fun j hj => hb.block j hj.2⟩

theorem used_get {fs : List Fl} {k : Nat} (h : k < fs.length) : fs[k].b.length ≤ D.used fs := by
  have h1 := D.used_take fs k h
  have h2 := D.used_le fs (k + 1)
  omega

/-- A snapshot is kept. -/
theorem NwAt.put {w wr : World} {o : Option Sn} (h : NwAt w o wr) (y : Sn) {a1 : Option Addr} {n1 c1 : Nat} {a2 : Option Addr} {n2 c2 : Nat} (h1 : RepB wr (fun j => w.heap.size + 2 ≤ j ∧ j < wr.heap.size) y.conf (.slice a1 n1 c1)) (h2 : RepB wr (fun j => w.heap.size + 2 ≤ j ∧ j < wr.heap.size) y.body (.slice a2 n2 c2)) :
    NwAt w (some y) ((((wr.setCell ⟨w.heap.size + 1, 0, none⟩ (.int .i64 y.idx)).setCell ⟨w.heap.size + 1, 1, none⟩ (.int .i64 y.term)).setCell ⟨w.heap.size + 1, 2, none⟩ (.slice a1 n1 c1)).setCell ⟨w.heap.size + 1, 3, none⟩ (.slice a2 n2 c2)) := by
  obtain ⟨hb, hx, b1, m1, d1, b2, m2, d2, hy, -, -⟩ := h
  have hst : ∀ j, j ≠ w.heap.size + 1 → ((((wr.setCell ⟨w.heap.size + 1, 0, none⟩ (.int .i64 y.idx)).setCell ⟨w.heap.size + 1, 1, none⟩ (.int .i64 y.term)).setCell ⟨w.heap.size + 1, 2, none⟩ (.slice a1 n1 c1)).setCell ⟨w.heap.size + 1, 3, none⟩ (.slice a2 n2 c2)).heap[j]? = wr.heap[j]? := fun j hj => by
    rw [Below.heap_setCell _ _ _ _ (by simpa using hj), Below.heap_setCell _ _ _ _ (by simpa using hj), Below.heap_setCell _ _ _ _ (by simpa using hj), Below.heap_setCell _ _ _ _ (by simpa using hj)]
  refine ⟨(((hb.setCell (by simp) _).setCell (by simp) _).setCell (by simp) _).setCell (by simp) _, (hst _ (by omega)).trans hx, a1, n1, c1, a2, n2, c2, ?_, h1.same (fun j hj => ⟨hj.1, by simpa using hj.2⟩) fun j hj => hst j (by have := hj.1; omega), h2.same (fun j hj => ⟨hj.1, by simpa using hj.2⟩) fun j hj => hst j (by have := hj.1; omega)⟩
  simp [World.setCell, Array.getElem?_modify, hy]

set_option maxRecDepth 20000 in
set_option maxHeartbeats 6400000 in
theorem RefNewest6_any (d : Dk) (X : Nat → Prop) (gd : Nat) (w : World) (hd : DskIn w X gd d) (hu : D.used d.fs ≤ 1000000) (hnm : ∀ f ∈ d.fs, f.nm.size ≤ 9223372036854775807) :
    Calls Tryz.prog 37 #[.pointer (some ⟨gd, 0, none⟩)] w fun e w' => Below w.heap.size w w' ∧ ∃ (a1 : Option Addr) (n1 c1 : Nat) (a2 : Option Addr) (n2 c2 : Nat),
      e = .returned (.tuple #[.agg #[.int .i64 (newestS d.fs).idx, .int .i64 (newestS d.fs).term, .slice a1 n1 c1, .slice a2 n2 c2], .bool (newestF d.fs).isSome]) ∧
      RepB w' (fun k => w.heap.size ≤ k ∧ k < w'.heap.size) (newestS d.fs).conf (.slice a1 n1 c1) ∧ RepB w' (fun k => w.heap.size ≤ k ∧ k < w'.heap.size) (newestS d.fs).body (.slice a2 n2 c2) := by
  obtain ⟨⟨vl, fv, hat⟩, hXz⟩ := hd
  obtain ⟨-, ⟨-, c1, -, -⟩, -, hz, -, -⟩ := hat.cells
  obtain ⟨va, vc, rfl⟩ := owned_slice hat.row
  obtain ⟨W, hW⟩ : ∃ W, W = (w.alloc (.cells #[.int .i64 0, .int .i64 0, .slice none 0 0, .slice none 0 0] 53)).alloc (.cells #[.int .i64 0, .int .i64 0, .slice none 0 0, .slice none 0 0] 53) := ⟨_, rfl⟩
  have HB : Hid (Below w.heap.size w W) := Lib.hid (by rw [hW]; exact ((Below.refl _ w).alloc (Nat.le_refl _) _).alloc (by simp) _)
  have HST : Hid (NwAt w none W) := Lib.hid ⟨HB.out, by rw [hW]; exact old_alloc (heap_new _ _ _ rfl), none, 0, 0, none, 0, 0, by rw [hW]; exact heap_new _ _ _ (by simp), .inl ⟨rfl, Bare.nil⟩, .inl ⟨rfl, Bare.nil⟩⟩
  have hfl : (fv.length : Int) ≤ 9223372036854775807 := by have := hat.len.1; omega
  have HLN := Lib.hid hat.len.2
  have HAT := Lib.hid hat
  have HW := Lib.hid hW
  have HU := Lib.hid hu
  have HNM := Lib.hid hnm
  have HXZ := Lib.hid hXz
  have e1 : ∀ {wr : World}, Below w.heap.size w wr → wr.cell? ⟨gd, 1, none⟩ = some (.slice va fv.length vc) ∧ gd < wr.heap.size := fun {wr} hb => ⟨(World.cell?_of_block (a := ⟨gd, 1, none⟩) (hb.block gd hz)).trans c1, Nat.lt_of_lt_of_le hz hb.size⟩
  have E1 : Hid (∀ wr : World, Below w.heap.size w wr → wr.cell? ⟨gd, 1, none⟩ = some (.slice va fv.length vc) ∧ gd < wr.heap.size) := Lib.hid fun wr hb => e1 hb
  clear hat hW hu hnm hXz e1 c1 hz
  go_enter Tryz.func37, Tryz.ntmps37
  go_wp2_with fail
  rw [← HW.out]
  go_loopw [5, 6, 7, 8, 9] (fun ok i _ _ _ wr => ∃ k : Nat, k ≤ fv.length ∧ i = .int .i64 (k : Int) ∧ ok = .bool (newestF (d.fs.take k)).isSome ∧ NwAt w (newestF (d.fs.take k)) wr) (fun _ i _ _ _ _ => fv.length - (intOf i).toNat)
  case atStart => exact ⟨0, Nat.zero_le _, rfl, rfl, HST.out⟩
  case round =>
    obtain ⟨k, hk, rfl, rfl, hnw⟩ := hrel
    have HNW := Lib.hid hnw
    obtain ⟨q1, qz⟩ := E1.out wr hnw.1
    clear hnw
    by_cases hlt : k < fv.length
    · have hkk : (k : Int) < (fv.length : Int) := by omega
      obtain ⟨ga, gc, hv, -, -, hgz, -, -, e0, e1, -, -⟩ := HAT.out.file k hlt
      cases hv
      have hkd : k < d.fs.length := by have := HLN.out; omega
      have hgt := HAT.out.get k hlt hkd
      have hrep0 : RepB w (fun b => b < w.heap.size) fv[k].1.b fv[k].2 := (RepB.of_own (HAT.out.each fv[k] (List.getElem_mem hlt))).weak fun b hb => hb.2
      obtain ⟨u, hu⟩ : ∃ u, u = fv[k].2 := ⟨_, rfl⟩
      rw [hgt] at e0 hrep0
      rw [← hu] at e1 hrep0
      have HFZ : Hid (d.fs[k].b.length ≤ 1000000) := Lib.hid (Nat.le_trans (used_get hkd) HU.out)
      have hnz := HNM.out d.fs[k] (List.getElem_mem hkd)
      have HNX := Lib.hid (newest_next hkd)
      obtain ⟨f, hf⟩ : ∃ f, f = d.fs[k] := ⟨_, rfl⟩
      rw [← hf] at e0 hrep0 HFZ hnz HNX
      have HFF := Lib.hid hf
      obtain ⟨bv, bc, rfl, -⟩ := hrep0.slice
      have e0' := (World.cell?_of_block (a := ⟨ga, k * 3, none⟩) (HNW.out.1.block ga hgz)).trans e0
      have e1' := (World.cell?_of_block (a := ⟨ga, k * 3 + 1, none⟩) (HNW.out.1.block ga hgz)).trans e1
      have HRP : Hid (RepB wr (fun b => b < w.heap.size) f.b (.slice bv f.b.length bc)) := Lib.hid (hrep0.same (fun _ h => h) fun b hb => HNW.out.1.block b hb)
      obtain ⟨nm, hnm⟩ : ∃ nm, nm = f.nm := ⟨_, rfl⟩
      rw [← hnm] at e0' hnz
      have HNMM := Lib.hid hnm
      have HNZ := Lib.hid hnz
      have HGZ := Lib.hid hgz
      have hgw : ga < wr.heap.size := Nat.lt_of_lt_of_le hgz HNW.out.1.size
      obtain ⟨OK, hok⟩ : ∃ b, b = (newestF (d.fs.take k)).isSome := ⟨_, rfl⟩
      rw [← hok]
      have HOK := Lib.hid hok
      clear e0 e1 hrep0 hf hnm hu hgt hok hnz hgz
      go_wp2_with fail
      refine (RefIdx6_any nm wr HNZ.out).mono ?_
      rintro e w0 ⟨rfl, rfl⟩
      obtain ⟨I, hI⟩ : ∃ I, I = idxN nm := ⟨_, rfl⟩
      rw [← hI]
      have HI : Hid (I = idxN f.nm) := Lib.hid (by rw [hI, HNMM.out])
      have hIb := idxN_lt nm
      rw [← hI] at hIb
      have hi1 := hIb.1
      have hi2 := hIb.2
      clear hI hIb
      go_wp2_with fail
      refine (RefParse_any f.b _ _ w0 HRP.out (fun b hb => Nat.lt_of_lt_of_le hb HNW.out.1.size) HFZ.out).mono ?_
      intro e w1 hp
      obtain ⟨hb1, a1, n1, l1, a2, n2, l2, rfl, hr1, hr2⟩ := hp.ans
      obtain ⟨⟨yi, yt, yc, yb⟩, hy⟩ : ∃ y, y = ansS (snParse f.b) := ⟨_, rfl⟩
      obtain ⟨ce, hce⟩ : ∃ c, c = ansE (snParse f.b) := ⟨_, rfl⟩
      rw [← hy] at hr1 hr2 ⊢
      rw [← hce]
      simp only at hr1 hr2 ⊢
      have HY := Lib.hid hy
      have HCE := Lib.hid hce
      have HB1 := Lib.hid hb1
      have HR1 := Lib.hid hr1
      have HR2 := Lib.hid hr2
      have HN1 := Lib.hid (HNW.out.next hb1)
      clear hp hr1 hr2 hy hce hb1 q1 qz e0' e1' hgw
      by_cases g1 : 0 ≤ I
      case neg =>
        have p1 : decide ((0 : Int) ≤ I) = false := by simpa using g1
        have HO : Hid (newestF (d.fs.take (k + 1)) = newestF (d.fs.take k)) := Lib.hid (by rw [HNX.out, read_no1 (by rw [← HI.out]; exact g1)])
        clear g1
        go_wp2_with fail
        go_roundw
        case rel => exact ⟨k + 1, by omega, by go_num, by rw [HO.out, HOK.out], by rw [HO.out]; exact HN1.out.next (below_alloc _ _)⟩
        case measure => simp [intOf]; omega
      by_cases g2 : ce = 0
      case neg =>
        have p1 : (ce == 0) = false := by simpa using g2
        have HO : Hid (newestF (d.fs.take (k + 1)) = newestF (d.fs.take k)) := Lib.hid (by rw [HNX.out, read_no2 (by rw [← HCE.out]; exact g2)])
        clear g2
        go_wp2_with fail
        go_roundw
        case rel => exact ⟨k + 1, by omega, by go_num, by rw [HO.out, HOK.out], by rw [HO.out]; exact HN1.out.next (below_alloc _ _)⟩
        case measure => simp [intOf]; omega
      have HC0 : Hid (ansE (snParse f.b) = 0) := Lib.hid (by rw [← HCE.out]; exact g2)
      subst g2
      by_cases g3 : yi = I
      case neg =>
        have p1 : (yi == I) = false := by simpa using g3
        have HO : Hid (newestF (d.fs.take (k + 1)) = newestF (d.fs.take k)) := Lib.hid (by rw [HNX.out, read_no3 (by rw [← HI.out]; exact g1) (by rw [← HY.out, ← HI.out]; exact g3)])
        clear g3
        go_wp2_with fail
        go_roundw
        case rel => exact ⟨k + 1, by omega, by go_num, by rw [HO.out, HOK.out], by rw [HO.out]; exact HN1.out.next (below_alloc _ _)⟩
        case measure => simp [intOf]; omega
      have HO : Hid (newestF (d.fs.take (k + 1)) = some ⟨yi, yt, yc, yb⟩) := Lib.hid (by rw [HNX.out, read_yes (by rw [← HI.out]; exact g1) HC0.out (by rw [← HY.out, ← HI.out]; exact g3), ← HY.out])
      subst g3
      obtain ⟨y0, y1, y2, y3, b0, b1, b2, b3, yz⟩ : ∃ (x0 x1 x2 x3 : Value), (w1.cell? ⟨w.heap.size + 1, 0, none⟩ = some x0 ∧ w1.cell? ⟨w.heap.size + 1, 1, none⟩ = some x1 ∧ w1.cell? ⟨w.heap.size + 1, 2, none⟩ = some x2 ∧ w1.cell? ⟨w.heap.size + 1, 3, none⟩ = some x3) ∧ w1.frozen? ⟨w.heap.size + 1, 0, none⟩ = false ∧ w1.frozen? ⟨w.heap.size + 1, 1, none⟩ = false ∧ w1.frozen? ⟨w.heap.size + 1, 2, none⟩ = false ∧ w1.frozen? ⟨w.heap.size + 1, 3, none⟩ = false ∧ w.heap.size + 1 < w1.heap.size := by
        obtain ⟨-, -, _, _, _, _, _, _, hy, -, -⟩ := HN1.out
        obtain ⟨c0, c1, c2, c3, f0, f1, f2, f3, cz⟩ := sh_four hy
        exact ⟨_, _, _, _, ⟨c0, c1, c2, c3⟩, f0, f1, f2, f3, cz⟩
      obtain ⟨b0, b00, b01, b02⟩ := b0
      obtain ⟨b3, yz⟩ := yz
      have HPUT : Hid (∀ W1 : World, Below w1.heap.size w1 W1 → NwAt w (some ⟨yi, yt, yc, yb⟩) ((((W1.setCell ⟨w.heap.size + 1, 0, none⟩ (.int .i64 yi)).setCell ⟨w.heap.size + 1, 1, none⟩ (.int .i64 yt)).setCell ⟨w.heap.size + 1, 2, none⟩ (.slice a1 n1 l1)).setCell ⟨w.heap.size + 1, 3, none⟩ (.slice a2 n2 l2))) := Lib.hid fun W1 hb => by
        have hz : w.heap.size + 2 ≤ w0.heap.size := by
          obtain ⟨-, -, _, _, _, _, _, _, hy, -, -⟩ := HNW.out
          have := lt_of_heap hy
          omega
        exact (HN1.out.next hb).put ⟨yi, yt, yc, yb⟩ (HR1.out.same (fun j hj => ⟨by omega, Nat.lt_of_lt_of_le hj.2 hb.size⟩) fun j hj => hb.block j hj.2) (HR2.out.same (fun j hj => ⟨by omega, Nat.lt_of_lt_of_le hj.2 hb.size⟩) fun j hj => hb.block j hj.2)
      go_wp2_with fail
      go_roundw
      case rel =>
        refine ⟨k + 1, by omega, by go_num, by rw [HO.out]; rfl, ?_⟩
        rw [HO.out]
        first
          | exact HPUT.out _ (below_alloc _ _)
          | exact (HPUT.out _ (Below.refl _ _)).next (below_alloc _ _)
      case measure => simp [intOf]; omega
    · have hkk : ¬ (k : Int) < (fv.length : Int) := by omega
      have HE : Hid (d.fs.take k = d.fs) := Lib.hid (List.take_of_length_le (by have := HLN.out; omega))
      rw [HE.out] at HNW ⊢
      obtain ⟨nb, n0, a1, n1, l1, a2, n2, l2, n4, n5, n6⟩ := HNW.out
      obtain ⟨x0, x1, x2, x3, g0, g1, g2, g3, xz⟩ := sh_four n0
      obtain ⟨y0, y1, y2, y3, -, -, -, -, yz⟩ := sh_four n4
      have HNB := Lib.hid nb
      have HN5 := Lib.hid n5
      have HN6 := Lib.hid n6
      clear nb n0 n4 n5 n6
      obtain ⟨OK, hok⟩ : ∃ b, b = (newestF d.fs).isSome := ⟨_, rfl⟩
      rw [← hok]
      have HOK := Lib.hid hok
      clear hok
      go_wp2_with fail
      refine bodyPost_ret (v := .tuple #[.agg #[.int .i64 (newestS d.fs).idx, .int .i64 (newestS d.fs).term, .slice a1 n1 l1, .slice a2 n2 l2], .bool OK]) (by simp [results, Tryz.results37, go_sem, x0, x1, x2, x3, xz]; exact ⟨rfl, rfl⟩) rfl ?_
      refine ⟨(((HNB.out.setCell (by simp) _).setCell (by simp) _).setCell (by simp) _).setCell (by simp) _, a1, n1, l1, a2, n2, l2, by rw [HOK.out], ?_, ?_⟩
      · refine HN5.out.same (fun j hj => ⟨by omega, by simpa using hj.2⟩) fun j hj => ?_
        have hj1 := hj.1
        rw [Below.heap_setCell _ _ _ _ (by simp; omega), Below.heap_setCell _ _ _ _ (by simp; omega), Below.heap_setCell _ _ _ _ (by simp; omega), Below.heap_setCell _ _ _ _ (by simp; omega)]
      · refine HN6.out.same (fun j hj => ⟨by omega, by simpa using hj.2⟩) fun j hj => ?_
        have hj1 := hj.1
        rw [Below.heap_setCell _ _ _ _ (by simp; omega), Below.heap_setCell _ _ _ _ (by simp; omega), Below.heap_setCell _ _ _ _ (by simp; omega), Below.heap_setCell _ _ _ _ (by simp; omega)]
end Go.Proofs.YtbcpcopapbgcdaaGreatDoor.M

/- Part: ShR7. -/
namespace Go.Proofs.YtbcpcopapbgcdaaGreatDoor.M
open Go.RowKit

theorem dg_front : ∀ (k n : Nat), dg (k + 1) n = UInt8.ofNat (48 + n / 10 ^ k % 10) :: dg k n
  | 0, n => by simp [dg]
  | k + 1, n => by
    rw [dg, dg_front k (n / 10), List.cons_append]
    have e : n / 10 / 10 ^ k = n / 10 ^ (k + 1) := by rw [Nat.div_div_eq_div_mul, Nat.pow_succ, Nat.mul_comm]
    rw [e]
    rfl

theorem digit_text : ∀ d : Fin 10, (⟨#[48, 49, 50, 51, 52, 53, 54, 55, 56, 57]⟩ : ByteArray).extract d.1 (d.1 + 1) = ⟨#[UInt8.ofNat (48 + d.1)]⟩ := by decide +kernel

theorem text_cons (c : UInt8) (l : List UInt8) : (⟨#[c]⟩ : ByteArray) ++ (⟨l.toArray⟩ : ByteArray) = ⟨(c :: l).toArray⟩ := by
  apply ByteArray.ext
  simp [ByteArray.data_append]

set_option maxRecDepth 20000 in
set_option maxHeartbeats 1600000 in
theorem RefName6_any (n : Nat) (w : World) (hn : n < 10000000000) :
    Calls Tryz.prog 44 #[.int .i64 (n : Int)] w fun e w' => e = .returned (.string (snName n)) ∧ w' = w := by
  have HN := Lib.hid hn
  have HE : Hid (snName n = (⟨#[115, 110, 97, 112, 45]⟩ : ByteArray) ++ (⟨(dg 10 n).toArray⟩ : ByteArray)) := Lib.hid (by
    apply ByteArray.ext
    simp [snName, ByteArray.data_append])
  obtain ⟨R, hR⟩ : ∃ R, R = snName n := ⟨_, rfl⟩
  rw [← hR] at HE ⊢
  clear hR hn
  go_enter Tryz.func44, Tryz.ntmps44
  go_wp2_with fail
  go_loop [0, 3, 4] (fun x s i => ∃ k m : Nat, k ≤ 10 ∧ i = .int .i64 (k : Int) ∧ x = .int .i64 (m : Int) ∧ Hid (m = n / 10 ^ k) ∧ m < 10000000000 ∧ ∃ t : ByteArray, s = .string t ∧ Hid (t = ⟨(dg k n).toArray⟩)) (fun _ _ i => 10 - (intOf i).toNat)
  case atStart => exact ⟨0, n, Nat.zero_le _, rfl, rfl, Lib.hid (by simp), HN.out, _, rfl, Lib.hid rfl⟩
  case round =>
    obtain ⟨k, m, hk, rfl, rfl, HM, hm, t, rfl, HT⟩ := hrel
    by_cases hlt : k < 10
    · have hkk : (k : Int) < 10 := by omega
      obtain ⟨d, hd⟩ : ∃ d, d = m % 10 := ⟨_, rfl⟩
      have hd10 : d < 10 := by omega
      have hdi : (m : Int) % 10 = (d : Int) := by omega
      have hd1 : ((d : Int) + 1).toNat = d + 1 := by omega
      have hdl : (d : Int) < 10 := by omega
      have hd0 : (0 : Int) ≤ (d : Int) := by omega
      have HTX : Hid ((⟨#[48, 49, 50, 51, 52, 53, 54, 55, 56, 57]⟩ : ByteArray).extract d (d + 1) ++ t = ⟨(dg (k + 1) n).toArray⟩) := Lib.hid (by
        have h := digit_text ⟨d, hd10⟩
        simp only at h
        rw [h, HT.out, text_cons, dg_front, ← HM.out, ← hd])
      have HM2 : Hid (m / 10 = n / 10 ^ (k + 1)) := Lib.hid (by rw [HM.out, Nat.div_div_eq_div_mul, Nat.pow_succ])
      have htz : t.size = k := by rw [HT.out]; show (dg k n).toArray.size = k; simp [dg_length]
      have hsz : ¬ 9223372036854775807 < min (d + 1) 10 - d + t.size := by omega
      have HDM : Hid (m / 10 < 10000000000) := Lib.hid (by omega)
      clear hd hd10 htz
      go_wp2_with fail
      go_round
      case rel => exact ⟨k + 1, m / 10, by omega, by go_num, by go_num, HM2, HDM.out, _, rfl, HTX⟩
      case measure => simp [intOf]; omega
    · have hkk : ¬ (k : Int) < 10 := by omega
      obtain rfl : k = 10 := by omega
      have htz : t.size = 10 := by rw [HT.out]; show (dg 10 n).toArray.size = 10; simp [dg_length]
      have hsz : ¬ 9223372036854775807 < 5 + t.size := by omega
      clear htz
      have HX : Hid (R = (⟨#[115, 110, 97, 112, 45]⟩ : ByteArray) ++ t) := Lib.hid (by rw [HE.out, HT.out])
      go_wp2_with fail
      go_ret
      exact ⟨by rw [HX.out]; rfl, rfl⟩
end Go.Proofs.YtbcpcopapbgcdaaGreatDoor.M

/- Part: ShR8. -/
namespace Go.Proofs.YtbcpcopapbgcdaaGreatDoor.M
open Go.RowKit
open D (Fl Dk)

set_option maxRecDepth 20000 in
set_option maxHeartbeats 800000 in
theorem RefThere6_any (d : Dk) (X : Nat → Prop) (gd : Nat) (s : ByteArray) (w : World) (hd : Dsk w X gd d) :
    Calls Tryz.prog 79 #[.pointer (some ⟨gd, 0, none⟩), .string s] w fun e w' => e = .returned (.bool (D.isThere d.fs s)) ∧ w = w' := by
  obtain ⟨vl, fv, hat⟩ := hd
  obtain ⟨-, ⟨-, c1, -, -⟩, -, hz, -, -⟩ := hat.cells
  obtain ⟨va, vc, rfl⟩ := owned_slice hat.row
  have hfl : (fv.length : Int) ≤ 9223372036854775807 := by have := hat.len.1; omega
  have HLN := Lib.hid hat.len.2
  have HAT := Lib.hid hat
  clear hat
  go_enter Tryz.func79, Tryz.ntmps79
  go_wp2_with fail
  go_loop [5] (fun i => ∃ k : Nat, k ≤ fv.length ∧ i = .int .i64 (k : Int) ∧ Hid (k ≤ D.find d.fs s)) (fun i => fv.length - (intOf i).toNat)
  case atStart => exact ⟨0, Nat.zero_le _, rfl, Lib.hid (Nat.zero_le _)⟩
  case round =>
    obtain ⟨k, hk, rfl, HR⟩ := hrel
    by_cases hlt : k < fv.length
    · have hkk : (k : Int) < (fv.length : Int) := by omega
      obtain ⟨ga, c, hv, -, -, hgz, -, -, e0, -, -, -⟩ := HAT.out.file k hlt
      cases hv
      have hkd : k < d.fs.length := by have := HLN.out; omega
      have hgt := HAT.out.get k hlt hkd
      obtain ⟨nm, hnm⟩ : ∃ nm, nm = fv[k].1.nm := ⟨_, rfl⟩
      rw [← hnm] at e0
      by_cases heq : (nm.toList == s.toList) = true
      · have HE : Hid (D.isThere d.fs s = true) := Lib.hid (by
          have := D.find_hit d.fs s k hkd HR.out (by rw [← hgt, ← hnm]; exact heq)
          unfold D.isThere
          rw [this]
          exact decide_eq_true hkd)
        clear hgt hnm
        go_wp2_with fail
        go_ret
        exact ⟨by rw [HE.out]; rfl, rfl⟩
      · have heq : (nm.toList == s.toList) = false := by simpa using heq
        have HE : Hid (k + 1 ≤ D.find d.fs s) := Lib.hid (D.find_next d.fs s k hkd HR.out (by rw [← hgt, ← hnm]; exact heq))
        clear hgt hnm
        go_wp2_with fail
        go_round
        case rel => exact ⟨k + 1, by omega, by go_num, HE⟩
        case measure => simp [intOf]; omega
    · have hkk : ¬ (k : Int) < (fv.length : Int) := by omega
      have HE : Hid (D.isThere d.fs s = false) := Lib.hid (by
        unfold D.isThere
        exact decide_eq_false (by have := HR.out; have := HLN.out; omega))
      go_wp2_with fail
      go_ret
      exact ⟨by rw [HE.out]; rfl, rfl⟩

theorem QPost.after {w : World} {X X1 : Nat → Prop} {gd : Nat} {wr w1 : World} {r : Int × Dk} {e : Ending} {w' : World} (ho : Only X wr w1) (hX : ∀ k, X1 k → X k ∨ wr.heap.size ≤ k) (hp : QPost w X1 gd w1 r e w') : QPost w X gd wr r e w' := by
  obtain ⟨he, h1, X', h2, h3⟩ := hp
  refine ⟨he, ho.thn hX h1, X', fun k hk => ?_, h3⟩
  rcases h2 k hk with h | h
  · exact hX k h
  · exact .inr (Nat.le_trans ho.size h)

theorem QS.told {w wr : World} {X : Nat → Prop} {gd : Nat} {d : Dk} (h : QS w X gd d wr) {L : List UInt8} {v : Value} (hv : RepB wr (fun k => k < wr.heap.size ∧ ¬ X k) L v) (t : TypeId) {W : World} (hW : W = wr.alloc (.cells #[v] t)) :
    QS w X gd d W ∧ RepBl W (fun b => (b < wr.heap.size ∧ ¬ X b) ∨ b = wr.heap.size) [L] (.slice (some ⟨wr.heap.size, 0, none⟩) 1 1) ∧ ∀ k, ((k < wr.heap.size ∧ ¬ X k) ∨ k = wr.heap.size) → k < W.heap.size ∧ ¬ X k := by
  subst hW
  refine ⟨h.next (below_alloc _ _), RepBl.one hv rfl (fun k hk => hk.1), fun k hk => ⟨by rcases hk with hk | hk <;> (simp; omega), fun hx => by
    have := h.lt k hx
    rcases hk with hk | hk
    · exact hk.2 hx
    · omega⟩⟩

theorem QS.names {w wr : World} {X : Nat → Prop} {gd : Nat} {d : Dk} (h : QS w X gd d wr) (ls : List ByteArray) (n : Nat) (hn : n = ls.length) (hl : ls.length ≤ 9223372036854775807) (t : TypeId) {W : World} (hW : W = wr.alloc (.cells (ls.map Value.string).toArray t)) :
    QS w X gd d W ∧ RepSl W (fun b => b = wr.heap.size) ls (.slice (some ⟨wr.heap.size, 0, none⟩) n n) ∧ ∀ k, k = wr.heap.size → k < W.heap.size ∧ ¬ X k := by
  subst hW
  exact ⟨h.next (below_alloc _ _), RepSl.new rfl hn hl, fun k hk => ⟨by rw [hk]; simp, fun hx => by have := h.lt k hx; omega⟩⟩


set_option maxRecDepth 20000 in
set_option maxHeartbeats 6400000 in
theorem RefPut6_any (d : Dk) (Y : Nat → Prop) (gr : Nat) (top x : Sn) (tc tb cv bv : Value) (w wr : World) (hq : QS w Y gr d wr) (htc : RepB wr (fun k => k < wr.heap.size ∧ ¬ Y k) top.conf tc) (htb : RepB wr (fun k => k < wr.heap.size ∧ ¬ Y k) top.body tb)
    (hxc : RepB wr (fun k => k < wr.heap.size ∧ ¬ Y k) x.conf cv) (hxb : RepB wr (fun k => k < wr.heap.size ∧ ¬ Y k) x.body bv) (hu : D.used d.fs ≤ 1000000000) (hl : x.conf.length + x.body.length ≤ 1000000000) :
    Calls Tryz.prog 30 #[.pointer (some ⟨gr, 0, none⟩), snAgg top tc tb, .bool (decide (top.idx ≠ 0)), snAgg x cv bv] wr (QPost w Y gr wr (putS d top x)) := by
  have HQ := Lib.hid hq
  obtain ⟨V, hV⟩ : ∃ V, V = (wr.alloc (.cells #[.int .i64 top.idx, .int .i64 top.term, tc, tb] 53)).alloc (.cells #[.int .i64 x.idx, .int .i64 x.term, cv, bv] 53) := ⟨_, rfl⟩
  have HBV : Hid (Below wr.heap.size wr V) := Lib.hid (by rw [hV]; exact ((Below.refl _ wr).alloc (Nat.le_refl _) _).alloc (by simp) _)
  have HV0 : Hid (V.heap[wr.heap.size]? = some (.cells #[.int .i64 top.idx, .int .i64 top.term, tc, tb] 53)) := Lib.hid (by rw [hV]; exact old_alloc (heap_new _ _ _ rfl))
  have HV1 : Hid (V.heap[wr.heap.size + 1]? = some (.cells #[.int .i64 x.idx, .int .i64 x.term, cv, bv] 53)) := Lib.hid (by rw [hV]; exact heap_new _ _ _ (by simp))
  have HXC0 := Lib.hid hxc
  have HXB0 := Lib.hid hxb
  have HXL := Lib.hid hl
  have HUU := Lib.hid hu
  obtain ⟨tca, tcc, rfl, -⟩ := htc.slice
  obtain ⟨tba, tbc, rfl, -⟩ := htb.slice
  obtain ⟨cva, cvc, rfl, -⟩ := hxc.slice
  obtain ⟨bva, bvc, rfl, -⟩ := hxb.slice
  unfold snAgg
  have HV := Lib.hid hV
  clear htc htb hxc hxb hq hl hu hV
  obtain ⟨x0, x1, x2, x3, -, -, -, -, xz⟩ := sh_four HV1.out
  cases hok : okSn (x.idx, x.term) with
  | false =>
    have HE : Hid (putS d top x = (2, d)) := Lib.hid (by unfold putS; rw [if_pos (.inl hok)])
    have HC : Hid (∀ wx, Calls Tryz.prog 27 #[.agg #[.int .i64 x.idx, .int .i64 x.term]] wx fun e w' => e = .returned (.bool false) ∧ Below wx.heap.size wx w') := Lib.hid fun wx => by rw [← hok]; exact RefRight6_any x.idx x.term wx
    clear hok
    go_enter Tryz.func30, Tryz.ntmps30
    go_wp2_with fail
    rw [← HV.out]
    refine (HC.out V).mono ?_
    rintro e W ⟨rfl, hb0⟩
    have hbw : Below wr.heap.size wr W := HBV.out.trans (hb0.mono HBV.out.size)
    have HEND : Hid (QPost w Y gr wr (putS d top x) (.returned (.int .i64 2)) W) := Lib.hid (by rw [HE.out]; exact ⟨rfl, Only.of_below hbw, Y, fun k hk => .inl hk, HQ.out.next hbw⟩)
    clear x0 x1 x2 x3 xz hb0 hbw
    go_wp2_with fail
    go_ret
    exact HEND.out
  | true =>
    have HOK := Lib.hid hok
    have HC : Hid (∀ wx, Calls Tryz.prog 27 #[.agg #[.int .i64 x.idx, .int .i64 x.term]] wx fun e w' => e = .returned (.bool true) ∧ Below wx.heap.size wx w') := Lib.hid fun wx => by rw [← hok]; exact RefRight6_any x.idx x.term wx
    clear hok
    by_cases hh : top.idx ≠ 0 ∧ x.idx ≤ top.idx
    · have HE : Hid (putS d top x = (2, d)) := Lib.hid (by unfold putS; rw [if_pos (.inr (by unfold hasS; exact decide_eq_true hh))])
      have p1 : decide (top.idx ≠ 0) = true := decide_eq_true hh.1
      have p2 := hh.2
      rw [p1]
      clear hh p1
      go_enter Tryz.func30, Tryz.ntmps30
      go_wp2_with fail
      rw [← HV.out]
      refine (HC.out V).mono ?_
      rintro e W ⟨rfl, hb0⟩
      have hbw : Below wr.heap.size wr W := HBV.out.trans (hb0.mono HBV.out.size)
      have HEND : Hid (QPost w Y gr wr (putS d top x) (.returned (.int .i64 2)) W) := Lib.hid (by rw [HE.out]; exact ⟨rfl, Only.of_below hbw, Y, fun k hk => .inl hk, HQ.out.next hbw⟩)
      clear x0 x1 x2 x3 xz hbw
      obtain ⟨x0, x1, x2, x3, -, -, -, -, xz⟩ := sh_four (old_below HV1.out hb0)
      obtain ⟨y0, y1, y2, y3, -, -, -, -, yz⟩ := sh_four (old_below HV0.out hb0)
      clear hb0
      go_wp2_with fail
      go_ret
      exact HEND.out
    · have HPS : Hid (putS d top x = writeF d (snName x.idx) (snBytes x)) := Lib.hid (by
        unfold putS
        rw [if_neg]
        rintro (h | h)
        · rw [HOK.out] at h; cases h
        · unfold hasS at h
          exact hh (of_decide_eq_true h))
      obtain ⟨hs, hhs⟩ : ∃ b, b = decide (top.idx ≠ 0) := ⟨_, rfl⟩
      have hcase : hs = false ∨ (hs = true ∧ decide (x.idx ≤ top.idx) = false) := by
        by_cases h0 : top.idx = 0
        · left; rw [hhs]; simp [h0]
        · right
          refine ⟨by rw [hhs]; simp [h0], decide_eq_false fun h => hh ⟨h0, h⟩⟩
      rw [← hhs]
      clear hh hhs
      have HNMC : Hid (∀ w5, Calls Tryz.prog 44 #[.int .i64 x.idx] w5 fun e w' => e = .returned (.string (snName x.idx)) ∧ w' = w5) := Lib.hid fun w5 => by
        have h := okSn_iff.1 HOK.out
        simp only at h
        obtain ⟨n, hn⟩ := Int.eq_ofNat_of_zero_le (show 0 ≤ x.idx by omega)
        rw [hn]
        exact RefName6_any n w5 (by omega)
      go_enter Tryz.func30, Tryz.ntmps30
      go_wp2_with fail
      rw [← HV.out]
      refine (HC.out V).mono ?_
      rintro e W ⟨rfl, hb0⟩
      have hbw : Below wr.heap.size wr W := HBV.out.trans (hb0.mono HBV.out.size)
      have HOW : Hid (Only Y wr W) := Lib.hid (Only.of_below hbw)
      have HYS : Hid (∀ k, Y k → Y k ∨ wr.heap.size ≤ k) := Lib.hid fun k hk => .inl hk
      have HUP : Hid (∀ k, (Y k ∨ W.heap.size ≤ k) → Y k ∨ wr.heap.size ≤ k) := Lib.hid fun k hk => hk.imp id fun h => Nat.le_trans hbw.size h
      have HXO : Hid (∀ w1, Only Y W w1 → _) := Lib.hid fun w1 (ho : Only Y W w1) => sh_four ((ho.block (wr.heap.size + 1) (Nat.lt_of_lt_of_le (lt_of_heap HV1.out) hb0.size) (fun hy => by have := HQ.out.lt _ hy; omega)).trans (old_below HV1.out hb0))
      have HXC : Hid (∀ w1 (X1 : Nat → Prop), Only Y W w1 → (∀ k, X1 k → Y k ∨ W.heap.size ≤ k) → RepB w1 (fun k => k < w1.heap.size ∧ ¬ X1 k) x.conf (.slice cva x.conf.length cvc)) := Lib.hid fun w1 X1 ho hX => HXC0.out.same (fun k hk => ⟨Nat.lt_of_lt_of_le hk.1 (Nat.le_trans hbw.size ho.size), fun hx => by
        rcases hX k hx with h | h
        · exact hk.2 h
        · have := hbw.size; omega⟩) fun k hk => (ho.block k (Nat.lt_of_lt_of_le hk.1 hbw.size) hk.2).trans (hbw.block k hk.1)
      have HXB : Hid (∀ w1 (X1 : Nat → Prop), Only Y W w1 → (∀ k, X1 k → Y k ∨ W.heap.size ≤ k) → RepB w1 (fun k => k < w1.heap.size ∧ ¬ X1 k) x.body (.slice bva x.body.length bvc)) := Lib.hid fun w1 X1 ho hX => HXB0.out.same (fun k hk => ⟨Nat.lt_of_lt_of_le hk.1 (Nat.le_trans hbw.size ho.size), fun hx => by
        rcases hX k hx with h | h
        · exact hk.2 h
        · have := hbw.size; omega⟩) fun k hk => (ho.block k (Nat.lt_of_lt_of_le hk.1 hbw.size) hk.2).trans (hbw.block k hk.1)
      have HQW := Lib.hid (HQ.out.next hbw)
      clear x0 x1 x2 x3 xz hbw
      obtain ⟨x0, x1, x2, x3, -, -, -, -, xz⟩ := sh_four (old_below HV1.out hb0)
      obtain ⟨y0, y1, y2, y3, -, -, -, -, yz⟩ := sh_four (old_below HV0.out hb0)
      clear hb0
      rcases hcase with rfl | ⟨rfl, p2⟩
      all_goals
        go_wp2_with fail
        refine (RefThere6_any d Y gr nmNew W HQW.out.dsk.1).mono ?_
        rintro e W' ⟨rfl, rfl⟩
        clear x0 x1 x2 x3 xz y0 y1 y2 y3 yz
        cases hth : D.isThere d.fs nmNew with
        | false =>
          have HSV : Hid (∀ S, saveF d nmNew S = if (D.append d nmNew [S]).1 ≠ 0 then D.append d nmNew [S] else D.sync (D.append d nmNew [S]).2 [nmNew]) := Lib.hid fun S => by
            unfold saveF
            rw [hth]
            rfl
          obtain ⟨d1, hd1⟩ : ∃ d1, d1 = d := ⟨_, rfl⟩
          obtain ⟨w1, hw1⟩ : ∃ w1, w1 = W := ⟨_, rfl⟩
          obtain ⟨X1, hX1⟩ : ∃ X1, X1 = Y := ⟨_, rfl⟩
          have HQ1 : Hid (QS w X1 gr d1 w1) := Lib.hid (by rw [hd1, hw1, hX1]; exact HQW.out)
          have HO1 : Hid (Only Y W w1) := Lib.hid (by rw [hw1]; exact ⟨rfl, rfl, rfl, Nat.le_refl _, fun _ _ _ => rfl⟩)
          have HXS1 : Hid (∀ k, X1 k → Y k ∨ W.heap.size ≤ k) := Lib.hid fun k hk => .inl (by rw [← hX1]; exact hk)
          have HU : Hid (D.used d1.fs ≤ 1000000000) := Lib.hid (by rw [hd1]; exact HUU.out)
          have HSV : Hid (∀ S, saveF d nmNew S = if (D.append d1 nmNew [S]).1 ≠ 0 then D.append d1 nmNew [S] else D.sync (D.append d1 nmNew [S]).2 [nmNew]) := Lib.hid (by rw [hd1]; exact HSV.out)
          rw [← hw1]
          clear hth hd1 hw1 hX1
          obtain ⟨x0, x1, x2, x3, -, -, -, -, xz⟩ := HXO.out w1 HO1.out
          go_wp2_with fail
          refine (RefBytes6_any x (.slice cva x.conf.length cvc) (.slice bva x.body.length bvc) (fun k => k < w1.heap.size ∧ ¬ X1 k) w1 HOK.out (HXC.out w1 X1 HO1.out HXS1.out) (HXB.out w1 X1 HO1.out HXS1.out) (fun k hk => hk.1) HXL.out).mono ?_
          rintro e w2 ⟨u2, rfl, hown2⟩
          obtain ⟨S, hS⟩ : ∃ S, S = snBytes x := ⟨_, rfl⟩
          rw [← hS] at hown2
          obtain ⟨a2, k2, rfl⟩ := hown2.slice
          have HS := Lib.hid hS
          have HQ2 := Lib.hid (HQ1.out.next hown2.1)
          have HO2 : Hid (Only Y W w2) := Lib.hid (HO1.out.next hown2.1)
          have HV2 : Hid (RepB w2 (fun k => k < w2.heap.size ∧ ¬ X1 k) S (.slice a2 S.length k2)) := Lib.hid (hown2.rep.weak fun k hk => ⟨hk.2, fun hx => by have := HQ1.out.lt k hx; omega⟩)
          have HSL : Hid (S.length ≤ 1000001000) := Lib.hid (by rw [hS]; have := snBytes_le x; have := HXL.out; omega)
          clear hown2 hS x0 x1 x2 x3 xz
          go_wp2_with fail
          obtain ⟨t1, t2, t3⟩ := HQ2.out.told HV2.out 34 rfl
          refine (QAppend t1 nmNew [S] _ _ (by decide) t2 t3 (by have h1 := HU.out; have h2 := HSL.out; simp; omega)).mono ?_
          rintro e w4 ⟨rfl, ho4, X4, hx4, h4⟩
          have HXS4 : Hid (∀ k, X4 k → Y k ∨ W.heap.size ≤ k) := Lib.hid fun k hk => by
            rcases hx4 k hk with h | h
            · exact HXS1.out k h
            · have h5 := HO2.out.size
              simp only [World.size_alloc] at h
              exact .inr (by omega)
          have HO4 : Hid (Only Y W w4) := Lib.hid ((HO2.out.next (below_alloc _ _)).thn HXS1.out ho4)
          obtain ⟨r, hr⟩ : ∃ r, r = D.append d1 nmNew [S] := ⟨_, rfl⟩
          rw [← hr] at h4 ⊢
          have HR4 := Lib.hid hr
          clear t1 t2 t3 ho4 hx4 hr
          obtain ⟨r1, d2⟩ := r
          have HD4 := Lib.hid h4
          simp only
          clear h4
          by_cases hr0 : r1 = 0
          case neg =>
            have q1 : (r1 != 0) = true := by simpa using hr0
            have HWR : Hid (putS d top x = (r1, d2)) := Lib.hid (by rw [HPS.out, ← HS.out]; unfold writeF; rw [HSV.out S, ← HR4.out]; simp only; rw [if_pos hr0]; exact if_pos hr0)
            clear hr0
            go_wp2_with fail
            go_ret
            rw [HWR.out]
            exact ⟨rfl, HOW.out.thn HYS.out HO4.out, X4, fun k hk => HUP.out k (HXS4.out k hk), HD4.out⟩
          subst hr0
          go_wp2_with fail
          obtain ⟨t1, t2, t3⟩ := HD4.out.names [nmNew] 1 rfl (by simp) 9 rfl
          refine (QSync t1 [nmNew] _ _ t2 t3).mono ?_
          rintro e w5 ⟨rfl, ho5, X5, hx5, h5⟩
          have HXS5 : Hid (∀ k, X5 k → Y k ∨ W.heap.size ≤ k) := Lib.hid fun k hk => by
            rcases hx5 k hk with h | h
            · exact HXS4.out k h
            · have h5 := HO4.out.size
              simp only [World.size_alloc] at h
              exact .inr (by omega)
          have HO5 : Hid (Only Y W w5) := Lib.hid ((HO4.out.next (below_alloc _ _)).thn HXS4.out ho5)
          obtain ⟨r, hr⟩ : ∃ r, r = D.sync d2 [nmNew] := ⟨_, rfl⟩
          rw [← hr] at h5 ⊢
          have HR5 := Lib.hid hr
          clear t1 t2 t3 ho5 hx5 hr
          obtain ⟨r1, d3⟩ := r
          have HD5 := Lib.hid h5
          simp only
          clear h5
          have HSF2 : Hid (saveF d nmNew S = (r1, d3)) := Lib.hid (by rw [HSV.out S, ← HR4.out]; simp only; rw [if_neg (by simp), ← HR5.out])
          by_cases hr0 : r1 = 0
          case neg =>
            have q1 : (r1 != 0) = true := by simpa using hr0
            have HWR : Hid (putS d top x = (r1, d3)) := Lib.hid (by rw [HPS.out, ← HS.out]; unfold writeF; rw [HSF2.out]; exact if_pos hr0)
            clear hr0
            go_wp2_with fail
            go_ret
            rw [HWR.out]
            exact ⟨rfl, HOW.out.thn HYS.out HO5.out, X5, fun k hk => HUP.out k (HXS5.out k hk), HD5.out⟩
          subst hr0
          have HWR : Hid (putS d top x = D.rename d3 nmNew (snName x.idx)) := Lib.hid (by rw [HPS.out, ← HS.out]; unfold writeF; rw [HSF2.out]; rfl)
          obtain ⟨x0, x1, x2, x3, -, -, -, -, xz⟩ := HXO.out w5 HO5.out
          go_wp2_with fail
          refine (HNMC.out w5).mono ?_
          rintro e w6 ⟨rfl, rfl⟩
          go_wp2_with fail
          refine (QRename HD5.out nmNew (snName x.idx) (by rw [snName_size]; omega)).mono ?_
          intro e w7 hp7
          rw [← HWR.out] at hp7
          have HP7 := Lib.hid (QPost.after (HOW.out.thn HYS.out HO5.out) (fun k hk => HUP.out k (HXS5.out k hk)) hp7)
          have he := HP7.out.1
          subst he
          clear hp7 x0 x1 x2 x3 xz
          go_wp2_with fail
          go_ret
          exact HP7.out
        | true =>
          have HSV0 : Hid (∀ S, saveF d nmNew S = if (D.remove d [nmNew]).1 ≠ 0 then D.remove d [nmNew] else if (D.append (D.remove d [nmNew]).2 nmNew [S]).1 ≠ 0 then D.append (D.remove d [nmNew]).2 nmNew [S] else D.sync (D.append (D.remove d [nmNew]).2 nmNew [S]).2 [nmNew]) := Lib.hid fun S => by
            unfold saveF
            rw [hth]
            rfl
          have HUR : Hid (D.used (D.remove d [nmNew]).2.fs ≤ 1000000000) := Lib.hid (Nat.le_trans (remove_well HQ.out.well [nmNew]).2 HUU.out)
          clear hth
          go_wp2_with fail
          obtain ⟨t1, t2, t3⟩ := HQW.out.names [nmNew] 1 rfl (by simp) 9 rfl
          refine (QRemove t1 [nmNew] _ _ t2 t3).mono ?_
          rintro e w1 ⟨rfl, ho1, X1, hx1, h1⟩
          obtain ⟨r, hr⟩ : ∃ r, r = D.remove d [nmNew] := ⟨_, rfl⟩
          rw [← hr] at HSV0 HUR h1 ⊢
          have HXS1 : Hid (∀ k, X1 k → Y k ∨ W.heap.size ≤ k) := Lib.hid fun k hk => by
            rcases hx1 k hk with h | h
            · exact .inl h
            · simp only [World.size_alloc] at h
              exact .inr (by omega)
          have HO1 : Hid (Only Y W w1) := Lib.hid ((Only.of_below (below_alloc W _)).thn (fun k hk => .inl hk) ho1)
          clear t1 t2 t3 ho1 hx1 hr
          obtain ⟨r1, d1⟩ := r
          have HQ1 := Lib.hid h1
          have HU : Hid (D.used d1.fs ≤ 1000000000) := HUR
          simp only
          clear h1
          by_cases hr0 : r1 = 0
          case neg =>
            have q1 : (r1 != 0) = true := by simpa using hr0
            have HWR : Hid (putS d top x = (r1, d1)) := Lib.hid (by rw [HPS.out]; unfold writeF; rw [HSV0.out]; simp only; rw [if_pos hr0]; exact if_pos hr0)
            clear hr0
            go_wp2_with fail
            go_ret
            rw [HWR.out]
            exact ⟨rfl, HOW.out.thn HYS.out HO1.out, X1, fun k hk => HUP.out k (HXS1.out k hk), HQ1.out⟩
          subst hr0
          have HSV : Hid (∀ S, saveF d nmNew S = if (D.append d1 nmNew [S]).1 ≠ 0 then D.append d1 nmNew [S] else D.sync (D.append d1 nmNew [S]).2 [nmNew]) := Lib.hid fun S => by
            rw [HSV0.out S]
            simp only
            rw [if_neg (by simp)]
          clear HSV0
          obtain ⟨x0, x1, x2, x3, -, -, -, -, xz⟩ := HXO.out w1 HO1.out
          go_wp2_with fail
          refine (RefBytes6_any x (.slice cva x.conf.length cvc) (.slice bva x.body.length bvc) (fun k => k < w1.heap.size ∧ ¬ X1 k) w1 HOK.out (HXC.out w1 X1 HO1.out HXS1.out) (HXB.out w1 X1 HO1.out HXS1.out) (fun k hk => hk.1) HXL.out).mono ?_
          rintro e w2 ⟨u2, rfl, hown2⟩
          obtain ⟨S, hS⟩ : ∃ S, S = snBytes x := ⟨_, rfl⟩
          rw [← hS] at hown2
          obtain ⟨a2, k2, rfl⟩ := hown2.slice
          have HS := Lib.hid hS
          have HQ2 := Lib.hid (HQ1.out.next hown2.1)
          have HO2 : Hid (Only Y W w2) := Lib.hid (HO1.out.next hown2.1)
          have HV2 : Hid (RepB w2 (fun k => k < w2.heap.size ∧ ¬ X1 k) S (.slice a2 S.length k2)) := Lib.hid (hown2.rep.weak fun k hk => ⟨hk.2, fun hx => by have := HQ1.out.lt k hx; omega⟩)
          have HSL : Hid (S.length ≤ 1000001000) := Lib.hid (by rw [hS]; have := snBytes_le x; have := HXL.out; omega)
          clear hown2 hS x0 x1 x2 x3 xz
          go_wp2_with fail
          obtain ⟨t1, t2, t3⟩ := HQ2.out.told HV2.out 34 rfl
          refine (QAppend t1 nmNew [S] _ _ (by decide) t2 t3 (by have h1 := HU.out; have h2 := HSL.out; simp; omega)).mono ?_
          rintro e w4 ⟨rfl, ho4, X4, hx4, h4⟩
          have HXS4 : Hid (∀ k, X4 k → Y k ∨ W.heap.size ≤ k) := Lib.hid fun k hk => by
            rcases hx4 k hk with h | h
            · exact HXS1.out k h
            · have h5 := HO2.out.size
              simp only [World.size_alloc] at h
              exact .inr (by omega)
          have HO4 : Hid (Only Y W w4) := Lib.hid ((HO2.out.next (below_alloc _ _)).thn HXS1.out ho4)
          obtain ⟨r, hr⟩ : ∃ r, r = D.append d1 nmNew [S] := ⟨_, rfl⟩
          rw [← hr] at h4 ⊢
          have HR4 := Lib.hid hr
          clear t1 t2 t3 ho4 hx4 hr
          obtain ⟨r1, d2⟩ := r
          have HD4 := Lib.hid h4
          simp only
          clear h4
          by_cases hr0 : r1 = 0
          case neg =>
            have q1 : (r1 != 0) = true := by simpa using hr0
            have HWR : Hid (putS d top x = (r1, d2)) := Lib.hid (by rw [HPS.out, ← HS.out]; unfold writeF; rw [HSV.out S, ← HR4.out]; simp only; rw [if_pos hr0]; exact if_pos hr0)
            clear hr0
            go_wp2_with fail
            go_ret
            rw [HWR.out]
            exact ⟨rfl, HOW.out.thn HYS.out HO4.out, X4, fun k hk => HUP.out k (HXS4.out k hk), HD4.out⟩
          subst hr0
          go_wp2_with fail
          obtain ⟨t1, t2, t3⟩ := HD4.out.names [nmNew] 1 rfl (by simp) 9 rfl
          refine (QSync t1 [nmNew] _ _ t2 t3).mono ?_
          rintro e w5 ⟨rfl, ho5, X5, hx5, h5⟩
          have HXS5 : Hid (∀ k, X5 k → Y k ∨ W.heap.size ≤ k) := Lib.hid fun k hk => by
            rcases hx5 k hk with h | h
            · exact HXS4.out k h
            · have h5 := HO4.out.size
              simp only [World.size_alloc] at h
              exact .inr (by omega)
          have HO5 : Hid (Only Y W w5) := Lib.hid ((HO4.out.next (below_alloc _ _)).thn HXS4.out ho5)
          obtain ⟨r, hr⟩ : ∃ r, r = D.sync d2 [nmNew] := ⟨_, rfl⟩
          rw [← hr] at h5 ⊢
          have HR5 := Lib.hid hr
          clear t1 t2 t3 ho5 hx5 hr
          obtain ⟨r1, d3⟩ := r
          have HD5 := Lib.hid h5
          simp only
          clear h5
          have HSF2 : Hid (saveF d nmNew S = (r1, d3)) := Lib.hid (by rw [HSV.out S, ← HR4.out]; simp only; rw [if_neg (by simp), ← HR5.out])
          by_cases hr0 : r1 = 0
          case neg =>
            have q1 : (r1 != 0) = true := by simpa using hr0
            have HWR : Hid (putS d top x = (r1, d3)) := Lib.hid (by rw [HPS.out, ← HS.out]; unfold writeF; rw [HSF2.out]; exact if_pos hr0)
            clear hr0
            go_wp2_with fail
            go_ret
            rw [HWR.out]
            exact ⟨rfl, HOW.out.thn HYS.out HO5.out, X5, fun k hk => HUP.out k (HXS5.out k hk), HD5.out⟩
          subst hr0
          have HWR : Hid (putS d top x = D.rename d3 nmNew (snName x.idx)) := Lib.hid (by rw [HPS.out, ← HS.out]; unfold writeF; rw [HSF2.out]; rfl)
          obtain ⟨x0, x1, x2, x3, -, -, -, -, xz⟩ := HXO.out w5 HO5.out
          go_wp2_with fail
          refine (HNMC.out w5).mono ?_
          rintro e w6 ⟨rfl, rfl⟩
          go_wp2_with fail
          refine (QRename HD5.out nmNew (snName x.idx) (by rw [snName_size]; omega)).mono ?_
          intro e w7 hp7
          rw [← HWR.out] at hp7
          have HP7 := Lib.hid (QPost.after (HOW.out.thn HYS.out HO5.out) (fun k hk => HUP.out k (HXS5.out k hk)) hp7)
          have he := HP7.out.1
          subst he
          clear hp7 x0 x1 x2 x3 xz
          go_wp2_with fail
          go_ret
          exact HP7.out
end Go.Proofs.YtbcpcopapbgcdaaGreatDoor.M
