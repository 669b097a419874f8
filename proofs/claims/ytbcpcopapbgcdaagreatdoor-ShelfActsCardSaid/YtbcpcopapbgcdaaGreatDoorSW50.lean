/- The law ShelfActs. -/
import Derived.Test.YtbcpcopapbgcdaaGreatDoorSW35
import Derived.Test.YtbcpcopapbgcdaaGreatDoorSW37
import Derived.Test.YtbcpcopapbgcdaaGreatDoorSW48
import Derived.Test.YtbcpcopapbgcdaaGreatDoorSW49
namespace Go.Proofs.YtbcpcopapbgcdaaGreatDoor.M
open Go.RowKit Go.Maps
open D (Fl Dk)

theorem newestS_zero6 {fs : List Fl} (h : (newestS fs).idx = 0) : newestS fs = Sn.zero := by
  have h1 := newestS_none.1 h
  unfold newestS
  rw [h1]
  rfl

theorem newestS_idx6 (fs : List Fl) : 0 ≤ (newestS fs).idx ∧ (newestS fs).idx < 10000000000 := by
  cases h : newestF fs with
  | none => rw [newestS_none.2 h]; omega
  | some x =>
    have h1 := okSn_iff.1 (newest_ok h)
    simp only at h1
    unfold newestS
    rw [h]
    simp only [Option.getD_some]
    omega

theorem newestS_some6 (fs : List Fl) : (newestF fs).isSome = decide ((newestS fs).idx ≠ 0) := by
  cases h : newestF fs with
  | none => rw [newestS_none.2 h]; rfl
  | some x =>
    have h1 : (newestS fs).idx ≠ 0 := fun e => by rw [newestS_none.1 e] at h; cases h
    simp [h1]

theorem bne_dec (x : Int) : (x != 0) = decide (x ≠ 0) := by
  by_cases h : x = 0
  · subst h; rfl
  · simp [h]

theorem hasS_self (t : Sn) : hasS t t.idx = decide (t.idx ≠ 0) := by unfold hasS; simp

theorem hasS_up (t : Sn) : hasS t (t.idx + 1) = false := by
  unfold hasS
  exact decide_eq_false (by omega)

theorem row9 {w : World} {g : Nat} {x0 x1 x2 x3 x4 x5 x6 x7 x8 : Value} {t : TypeId} (h : w.heap[g]? = some (.cells #[x0, x1, x2, x3, x4, x5, x6, x7, x8] t)) :
    w.cell? ⟨g, 0, none⟩ = some x0 ∧ w.cell? ⟨g, 1, none⟩ = some x1 ∧ w.cell? ⟨g, 2, none⟩ = some x2 ∧ w.cell? ⟨g, 3, none⟩ = some x3 ∧ w.cell? ⟨g, 4, none⟩ = some x4 ∧ w.cell? ⟨g, 5, none⟩ = some x5 ∧ w.cell? ⟨g, 6, none⟩ = some x6 ∧ w.cell? ⟨g, 7, none⟩ = some x7 ∧ w.cell? ⟨g, 8, none⟩ = some x8 ∧ g < w.heap.size :=
  ⟨cell_of_row w g 0 _ _ _ h, cell_of_row w g 1 _ _ _ h, cell_of_row w g 2 _ _ _ h, cell_of_row w g 3 _ _ _ h, cell_of_row w g 4 _ _ _ h, cell_of_row w g 5 _ _ _ h, cell_of_row w g 6 _ _ _ h, cell_of_row w g 7 _ _ _ h, cell_of_row w g 8 _ _ _ h, lt_of_heap h⟩

theorem one_told6 {w wr w' : World} {F : Nat → Prop} {B : List UInt8} {v : Value} {g : Nat} {t : TypeId} (hv : RepB wr F B v) (hF : ∀ i, F i → i < w.heap.size) (hw : ∀ i, i < w.heap.size → w'.heap[i]? = wr.heap[i]?) (hg : w'.heap[g]? = some (.cells #[v] t)) : RepBl w' (fun i => i < w.heap.size ∨ i = g) [B] (.slice (some ⟨g, 0, none⟩) 1 1) :=
  .inr ⟨g, 0, 1, rfl, .inr rfl, Nat.le_refl _, by omega, fun i hi => by
    obtain rfl : i = 0 := by simpa using hi
    exact ⟨v, cell_of_row w' g 0 _ t _ hg, hv.same (fun j hj => .inl (hF j hj)) fun j hj => hw j (hF j hj)⟩⟩

/-- What holds at the head of the loop. -/
structure Rd (w0 : World) (gd gr gl : Nat) (k : Nat) (gs : Nat) (X Y : Nat → Prop) (d : Dk) (top : Sn) (wr : World) : Prop where
  a : AS w0 gd gr gs gl X Y d d top top wr
  ti : 0 ≤ top.idx ∧ top.idx < 10000000000
  tz : top.idx = 0 → top = Sn.zero
  us : D.used d.fs ≤ 5000 * k


set_option maxRecDepth 20000 in
set_option maxHeartbeats 25600000 in
theorem ShelfActs_any (room : Int) (acts : List A6) (F : Nat → Prop) (v1 : Value) (w : World) (hr : Int64 room) (hv1 : RepAs6 w F acts v1) (hF : ∀ k, F k → k < w.heap.size) (hsz : ∀ a ∈ acts, a6size a ≤ 562949953404928) (hT : Hid (Tab w)) (hP : Hid (Pow10 w)) :
    Calls Tryz.prog 6 #[.int .i64 room, v1] w fun e w' => e = .returned (.bool true) ∧ Below w.heap.size w w' := by
  obtain ⟨aa, ac, rfl, hal⟩ := hv1.slice
  have HV1 := Lib.hid hv1
  have HF := Lib.hid hF
  have HSZ := Lib.hid hsz
  have HA : Hid (∀ wx : World, Below w.heap.size w wx → Calls Tryz.prog 22 #[] wx fun e w' => e = .returned (.bool true) ∧ Below w.heap.size w w') := Lib.hid fun wx hb =>
    (awake6_any wx (Lib.hid (hT.out.next hb)) (Lib.hid (hP.out.next hb))).mono fun e w' h => ⟨h.1, hb.trans (h.2.mono hb.size)⟩
  clear hv1 hF hsz
  obtain ⟨hr1, hr2⟩ := hr
  by_cases hbig : room < 0 ∨ 40 < acts.length
  · rcases (show room < 0 ∨ (¬ room < 0 ∧ 40 < (acts.length : Int)) by omega) with q | ⟨q, q2⟩
    all_goals
      clear hbig
      go_enter Tryz.func6, Tryz.ntmps6
      go_wp2_with fail
      refine (HA.out w (Below.refl _ _)).mono ?_
      rintro e w0 ⟨rfl, hb0⟩
      go_wp2_with fail
      refine (HA.out w0 hb0).mono ?_
      rintro e w1 ⟨rfl, hb1⟩
      go_wp2_with fail
      go_ret
      exact ⟨rfl, hb1⟩
  · have q1 : decide (room < 0) = false := by simp; omega
    have q2 : decide ((40 : Int) < (acts.length : Int)) = false := by simp; omega
    have hr0 : 0 ≤ room := by omega
    have H40 : Hid (acts.length ≤ 40) := Lib.hid (by omega)
    clear hbig
    go_enter Tryz.func6, Tryz.ntmps6
    go_wp2_with fail
    refine (awake6_any w hT hP).mono ?_
    rintro e w0 ⟨rfl, hb0⟩
    have HB0 := Lib.hid hb0
    have HT0 : Hid (Tab w0) := Lib.hid (hT.out.next hb0)
    have HP0 : Hid (Pow10 w0) := Lib.hid (hP.out.next hb0)
    clear hb0
    go_wp2_with fail
    refine (newDisk_any room w0 hr0 hr2).mono ?_
    rintro e w1 ⟨gd, X1, rfl, h1⟩
    have H1 := Lib.hid h1
    clear h1
    go_wp2_with fail
    refine (ShOpen2_any (fresh room) X1 gd w0 w1 H1.out (by simp [fresh, D.used]) HT0).mono ?_
    rintro e w2 ⟨gs, rfl, h2, hb2, hg2, hz2⟩
    have hnz : newestS (fresh room).fs = Sn.zero := rfl
    rw [hnz] at h2 hz2
    have H2 := Lib.hid h2
    have HSA2 := Lib.hid (h2.sat hz2)
    clear h2 hb2 hg2 hz2 hnz
    go_wp2_with fail
    obtain ⟨gr, hgr⟩ : ∃ g, g = w2.heap.size := ⟨_, rfl⟩
    obtain ⟨gl, hgl⟩ : ∃ g, g = w2.heap.size + 1 := ⟨_, rfl⟩
    obtain ⟨W4, hW4⟩ : ∃ W, W = (w2.alloc (.cells #[.int .i64 room, .slice none 0 0, .bool false, .int .i64 0] 69)).alloc (.cells #[.int .i64 0, .int .i64 0, .slice none 0 0, .slice none 0 0] 53) := ⟨_, rfl⟩
    have HR0 : Hid (Rd w0 gd gr gl 0 gs X1 (fun k => k = gr) (fresh room) Sn.zero W4) := Lib.hid (by
      have hb24 : Below w2.heap.size w2 W4 := by rw [hW4]; exact ((Below.refl _ w2).alloc (Nat.le_refl _) _).alloc (by simp) _
      have hz4 : W4.heap.size = w2.heap.size + 2 := by rw [hW4]; simp
      have hXl := H2.out.ds.lt
      have hgs := H2.out.lt
      have hnw := H2.out.ds.below.size
      obtain ⟨cv, bv, z1, z2, z3⟩ := HSA2.out
      have hq := (newQ w0 w2 room gr H2.out.ds.below hgr hr0 hr2).next (below_alloc _ (.cells #[.int .i64 0, .int .i64 0, .slice none 0 0, .slice none 0 0] 53))
      rw [← hW4] at hq
      refine ⟨⟨H2.out.next hb24, hq, fun i hx => by have := hXl i hx; omega, by omega, ⟨cv, bv, old_below z1 hb24, z2.same (fun i hi => ?_) fun i hi => hb24.block i hi.1.1, z3.same (fun i hi => ?_) fun i hi => hb24.block i hi.1.1⟩, by omega, fun hx => by have := hXl _ hx; omega, by omega, by omega, none, 0, none, 0, ?_, .inl ⟨rfl, Bare.nil⟩, .inl ⟨rfl, Bare.nil⟩⟩, ⟨Int.le_refl _, by decide⟩, fun _ => rfl, Nat.zero_le _⟩
      · have := hi.1.1; omega
      · have := hi.1.1; omega
      · rw [hW4, hgl]; exact heap_new _ _ _ (by simp))
    rw [← hW4, ← hgl, ← hgr]
    clear hW4 hgr hgl H2 HSA2
    go_loopw [7, 8, 11, 12, 13, 14, 15, 16] (fun sv ev hv i _ _ _ _ wr => ∃ (k gs : Nat) (X Y : Nat → Prop) (d : Dk) (top : Sn) (bv : Bool), k ≤ acts.length ∧ i = .int .i64 (k : Int) ∧ sv = .pointer (some ⟨gs, 0, none⟩) ∧ hv = .bool bv ∧ Hid (decide (top.idx ≠ 0) = bv) ∧ Hid (Rd w0 gd gr gl k gs X Y d top wr)) (fun _ _ _ i _ _ _ _ _ => acts.length - (intOf i).toNat)
    case atStart => exact ⟨0, gs, X1, _, fresh room, Sn.zero, false, Nat.zero_le _, rfl, rfl, rfl, Lib.hid rfl, HR0⟩
    case round =>
      obtain ⟨k, gs, X, Y, d, top, bv, hk, rfl, rfl, rfl, HBV, HR⟩ := hrel
      have HBW : Hid (Below w.heap.size w wr) := Lib.hid (HB0.out.trans (HR.out.a.s.ds.below.mono HB0.out.size))
      by_cases hlt : k < acts.length
      · have hkk : (k : Int) < (acts.length : Int) := by omega
        have HLT := Lib.hid hlt
        obtain ⟨ab, aoff, rfl, hFb, cs, hcs, hra⟩ := (HV1.out.same (w' := wr) (fun _ h => h) fun j hj => HBW.out.block j (HF.out j hj)).elem k hlt
        have hsz := HSZ.out _ (List.getElem_mem hlt)
        obtain ⟨a, hra, hsz⟩ : ∃ a : A6, RepA6 wr F a cs ∧ a6size a ≤ 562949953404928 := ⟨_, hra, hsz⟩
        obtain ⟨kd, ⟨xi, xt, xc, xb⟩, an, ks, nm, B⟩ := a
        obtain ⟨x3, x4, x6, x8, rfl, hxc, hxb, hks, hB, hkd, hxi, hxt, han, hnm⟩ := hra
        simp only at hxc hxb hks hB hkd hxi hxt han hnm
        unfold a6size at hsz
        simp only at hsz
        obtain ⟨ca, cc, rfl, hcl⟩ := hxc.slice
        obtain ⟨ba, bc, rfl, hbl⟩ := hxb.slice
        obtain ⟨ka, kc, rfl, hkl⟩ := hks.slice
        obtain ⟨da, dc, rfl, hdl⟩ := hB.slice
        have HXC := Lib.hid hxc
        have HXB := Lib.hid hxb
        have HKS := Lib.hid hks
        have HBB := Lib.hid hB
        have HNM := Lib.hid hnm
        have HXI := Lib.hid hxi
        have HXT := Lib.hid hxt
        have HAN := Lib.hid han
        have hbz : ab < wr.heap.size := Nat.lt_of_lt_of_le (HF.out ab hFb) HBW.out.size
        have e0 := hcs 0 (by omega)
        have e1 := hcs 1 (by omega)
        have e2 := hcs 2 (by omega)
        have e3 := hcs 3 (by omega)
        have e4 := hcs 4 (by omega)
        have e5 := hcs 5 (by omega)
        have e6 := hcs 6 (by omega)
        have e7 := hcs 7 (by omega)
        have e8 := hcs 8 (by omega)
        simp only [Nat.add_zero, List.getElem?_cons_zero, List.getElem?_cons_succ] at e0 e1 e2 e3 e4 e5 e6 e7 e8
        have l1 : (xc.length : Int) ≤ 562949953404928 := by omega
        have l2 : (xb.length : Int) ≤ 562949953404928 := by omega
        have l3 : (B.length : Int) ≤ 562949953404928 := by omega
        have l4 : (ks.length : Int) ≤ 562949953404928 := by omega
        clear hxc hxb hks hB hnm hxi hxt han hcl hbl hkl hdl hcs hFb hsz
        obtain ⟨hkd1, hkd2⟩ := hkd
        by_cases hbg : 2000 < xc.length + xb.length + B.length + ks.length
        · have q3 : 2000 < (xc.length : Int) + (xb.length : Int) + (B.length : Int) + (ks.length : Int) := by omega
          go_wp2_with fail
          go_ret
          exact ⟨rfl, HBW.out.trans ((below_alloc _ _).mono HBW.out.size)⟩
        · have q3 : ¬ 2000 < (xc.length : Int) + (xb.length : Int) + (B.length : Int) + (ks.length : Int) := by omega
          have HLS : Hid (xc.length + xb.length + B.length + ks.length ≤ 2000) := Lib.hid (by omega)
          obtain ⟨ga, hga⟩ : ∃ g, g = wr.heap.size := ⟨_, rfl⟩
          obtain ⟨W5, hW5⟩ : ∃ W, W = wr.alloc (.cells #[.int .i64 kd, .int .i64 xi, .int .i64 xt, .slice ca xc.length cc, .slice ba xb.length bc, .int .i64 an, .slice ka ks.length kc, .string nm, .slice da B.length dc] 71) := ⟨_, rfl⟩
          have hb5 : Below wr.heap.size wr W5 := by rw [hW5]; exact below_alloc _ _
          have hx5 : W5.heap[ga]? = some (.cells #[.int .i64 kd, .int .i64 xi, .int .i64 xt, .slice ca xc.length cc, .slice ba xb.length bc, .int .i64 an, .slice ka ks.length kc, .string nm, .slice da B.length dc] 71) := by rw [hW5, hga]; exact heap_new _ _ _ rfl
          have HA5 := Lib.hid (HR.out.a.next hb5).1
          have HKP : Hid (Kp X Y gs ga (.cells #[.int .i64 kd, .int .i64 xi, .int .i64 xt, .slice ca xc.length cc, .slice ba xb.length bc, .int .i64 an, .slice ka ks.length kc, .string nm, .slice da B.length dc] 71) W5) := Lib.hid ⟨hx5, fun h => by have := HR.out.a.s.ds.lt _ h; omega, fun h => by have := HR.out.a.q.lt _ h; omega, by have := HR.out.a.s.lt; omega⟩
          have HW5 := Lib.hid hW5
          have Hga := Lib.hid hga
          have HB5 := Lib.hid hb5
          clear hb5 hx5 hW5 hga hbg
          by_cases k0 : kd = 0
          · subst k0
            as_aux_lemma =>
              obtain ⟨p6, m6, q6, n6, hl4, hlc, hlb⟩ := HR.out.a.l
              obtain ⟨c0, c1, c2, c3, -, -, -, -, cz⟩ := sh_four hl4
              have HLC : Hid (RepB W5 (fun i => i < W5.heap.size ∧ ¬ Y i) top.conf (.slice p6 top.conf.length m6)) := Lib.hid (hlc.same (fun i hi => ⟨Nat.lt_of_lt_of_le hi.1 HB5.out.size, hi.2.2.1⟩) fun i hi => HB5.out.block i hi.1)
              have HLB : Hid (RepB W5 (fun i => i < W5.heap.size ∧ ¬ Y i) top.body (.slice q6 top.body.length n6)) := Lib.hid (hlb.same (fun i hi => ⟨Nat.lt_of_lt_of_le hi.1 HB5.out.size, hi.2.2.1⟩) fun i hi => HB5.out.block i hi.1)
              have HOLD : Hid (∀ i, i < w.heap.size → i < w0.heap.size) := Lib.hid fun i hi => Nat.lt_of_lt_of_le hi HB0.out.size
              have hput := RefPut6_any d Y gr top ⟨xi, xt, xc, xb⟩ (.slice p6 top.conf.length m6) (.slice q6 top.body.length n6) (.slice ca xc.length cc) (.slice ba xb.length bc) w0 W5 HA5.out.q HLC.out HLB.out
                (HXC.out.same (fun i hi => ⟨Nat.lt_of_lt_of_le (HF.out i hi) (Nat.le_trans HBW.out.size HB5.out.size), (HA5.out.old (HOLD.out i (HF.out i hi))).2.1⟩) fun i hi => HB5.out.block i (Nat.lt_of_lt_of_le (HF.out i hi) HBW.out.size))
                (HXB.out.same (fun i hi => ⟨Nat.lt_of_lt_of_le (HF.out i hi) (Nat.le_trans HBW.out.size HB5.out.size), (HA5.out.old (HOLD.out i (HF.out i hi))).2.1⟩) fun i hi => HB5.out.block i (Nat.lt_of_lt_of_le (HF.out i hi) HBW.out.size))
                (by have := HR.out.us; have := H40.out; have := HLT.out; omega) (by have := HLS.out; show xc.length + xb.length ≤ _; omega)
              rw [HBV.out] at hput
              unfold snAgg at hput
              simp only at hput
              have HPUT := Lib.hid hput
              have HWE := Lib.hid HA5.out.s.ds.well
              have HUP : Hid (D.used (putS d top ⟨xi, xt, xc, xb⟩).2.fs ≤ 5000 * (k + 1)) := Lib.hid (by
                have h1 := putS_used HWE.out top ⟨xi, xt, xc, xb⟩
                have h2 := snBytes_le ⟨xi, xt, xc, xb⟩
                simp only at h2
                have := HLS.out
                have := HR.out.us
                omega)
              have HOKX : Hid ((putS d top ⟨xi, xt, xc, xb⟩).1 = 0 → okSn (xi, xt) = true) := Lib.hid fun h => by
                cases ho : okSn (xi, xt) with
                | true => rfl
                | false => rw [putS_no (.inl ho)] at h; cases h
              clear hput hl4 hlc hlb
              go_wp2_with fail
              rw [← HW5.out, ← Hga.out]
              refine HPUT.out.mono ?_
              intro ex6 w6 hp6
              obtain ⟨YT, hA6, hs6⟩ := HA5.out.qcall hp6
              have HA6 := Lib.hid hA6
              have HK6 := Lib.hid (HKP.out.step hs6)
              obtain ⟨rfl, -⟩ := hp6
              obtain ⟨x0, x1, x2, x3, x4, -, -, -, -, xz⟩ := row9 HK6.out.1
              have hb06 := HA6.out.s.ds.below
              have hold6 : ∀ {L : List UInt8} {v : Value}, RepB wr F L v → RepB w6 (fun i => i < w6.heap.size ∧ ¬ X i ∧ ¬ YT i ∧ i ≠ gs ∧ i ≠ gl) L v := fun {L v} h => h.same (fun i hi => ⟨Nat.lt_of_lt_of_le (HOLD.out i (HF.out i hi)) hb06.size, (HA6.out.old (HOLD.out i (HF.out i hi))).1, (HA6.out.old (HOLD.out i (HF.out i hi))).2.1, (HA6.out.old (HOLD.out i (HF.out i hi))).2.2.1, (HA6.out.old (HOLD.out i (HF.out i hi))).2.2.2⟩) fun i hi => (hb06.block i (HOLD.out i (HF.out i hi))).trans (HR.out.a.s.ds.below.block i (HOLD.out i (HF.out i hi))).symm
              have hsp := ShPut2_any d X gd gs top ⟨xi, xt, xc, xb⟩ (.slice ca xc.length cc) (.slice ba xb.length bc) (fun i => i < w6.heap.size ∧ ¬ X i ∧ ¬ YT i ∧ i ≠ gs ∧ i ≠ gl) w0 w6 HA6.out.s (hold6 HXC.out) (hold6 HXB.out) (fun i hi => ⟨hi.1, hi.2.1⟩) (by have := HLS.out; show xc.length + xb.length ≤ _; omega) (by have := HR.out.us; have := H40.out; have := HLT.out; omega) HT0 HP0
              unfold snAgg at hsp
              simp only at hsp
              have HSP := Lib.hid hsp
              obtain ⟨R, hRR⟩ : ∃ R, R = putS d top ⟨xi, xt, xc, xb⟩ := ⟨_, rfl⟩
              rw [← hRR] at HSP HUP HOKX HA6 ⊢
              clear c0 c1 c2 c3 cz e0 e1 e2 e3 e4 e5 e6 e7 e8 hb06 hold6 hsp hA6 hs6 hRR
              go_wp2_with fail
              refine HSP.out.mono ?_
              intro ex7 w7 hp7
              obtain ⟨XT, hA7, hs7⟩ := HA6.out.scall hp7
              have HK7 := Lib.hid (HK6.out.step hs7)
              obtain ⟨rfl, -⟩ := hp7
              obtain ⟨r1, dT⟩ := R
              simp only at HUP HOKX hA7 ⊢
              clear x0 x1 x2 x3 x4 xz
              have HUT := HUP
              by_cases hr0 : r1 = 0
              · subst hr0
                rw [if_pos rfl] at hA7
                have HA7 := Lib.hid hA7
                have HOK := Lib.hid (HOKX.out rfl)
                clear hA7 hs7
                obtain ⟨p7, m7, q7, n7, hl7, -, -⟩ := HA7.out.l
                obtain ⟨x0, x1, x2, x3, x4, -, -, -, -, xz⟩ := row9 HK7.out.1
                obtain ⟨y0, y1, y2, y3, f0, f1, f2, f3, yz⟩ := sh_four hl7
                have hgg : gl ≠ ga := by
                  have h1 := HA5.out.gl_lt
                  have h2 := HR.out.a.gl_lt
                  have := Hga.out
                  omega
                have hgg2 : ga ≠ gl := fun h => hgg h.symm
                have hb07 := HA7.out.s.ds.below
                have hold7 : ∀ {L : List UInt8} {v : Value}, RepB wr F L v → RepB w7 (fun i => i < w7.heap.size ∧ ¬ XT i ∧ ¬ YT i ∧ i ≠ gs ∧ i ≠ gl) L v := fun {L v} h => h.same (fun i hi => ⟨Nat.lt_of_lt_of_le (HOLD.out i (HF.out i hi)) hb07.size, (HA7.out.old (HOLD.out i (HF.out i hi))).1, (HA7.out.old (HOLD.out i (HF.out i hi))).2.1, (HA7.out.old (HOLD.out i (HF.out i hi))).2.2.1, (HA7.out.old (HOLD.out i (HF.out i hi))).2.2.2⟩) fun i hi => (hb07.block i (HOLD.out i (HF.out i hi))).trans (HR.out.a.s.ds.below.block i (HOLD.out i (HF.out i hi))).symm
                obtain ⟨wT, hwT⟩ : ∃ W, W = (((w7.setCell ⟨gl, 0, none⟩ (.int .i64 xi)).setCell ⟨gl, 1, none⟩ (.int .i64 xt)).setCell ⟨gl, 2, none⟩ (.slice ca xc.length cc)).setCell ⟨gl, 3, none⟩ (.slice ba xb.length bc) := ⟨_, rfl⟩
                have HAT0 := Lib.hid (HA7.out.lset (y := ⟨xi, xt, xc, xb⟩) (hold7 HXC.out) (hold7 HXB.out) hwT).1
                have HWT := Lib.hid hwT
                obtain ⟨tT, htT⟩ : ∃ t : Sn, t = ⟨xi, xt, xc, xb⟩ := ⟨_, rfl⟩
                have HAT : Hid (AS w0 gd gr gs gl XT YT dT dT tT tT wT) := by rw [htT]; exact HAT0
                have hok := okSn_iff.1 HOK.out
                simp only at hok
                have HTI : Hid (0 ≤ tT.idx ∧ tT.idx < 10000000000) := Lib.hid (by rw [htT]; simp only; omega)
                have HTZ : Hid (tT.idx = 0 → tT = Sn.zero) := Lib.hid (by rw [htT]; simp only; omega)
                have HBT : Hid (decide (tT.idx ≠ 0) = true) := Lib.hid (by rw [htT]; simp only [ne_eq, decide_eq_true_eq]; omega)
                obtain ⟨gsT, rfl⟩ : ∃ g, g = gs := ⟨_, rfl⟩
                clear hl7 hb07 hold7 hwT htT hok HAT0
                go_wp2_with fail
                rw [← HWT.out]
                clear y0 y1 y2 y3 f0 f1 f2 f3 yz x0 x1 x2 x3 x4 xz hgg hgg2
                have htop := ShTop_any dT XT gd gsT tT w0 wT HAT.out.s HTZ.out
                rw [show (tT.idx != 0) = true from (bne_dec _).trans HBT.out] at htop
                refine htop.mono ?_
                clear htop
                rintro e wu ⟨u1, u2, rfl, hbu, hu1, hu2⟩
                obtain ⟨ua, uc, rfl, -⟩ := hu1.slice
                obtain ⟨va, vc, rfl, -⟩ := hu2.slice
                unfold snAgg
                simp only
                obtain ⟨Wu, hWu⟩ : ∃ W, W = wu.alloc (.cells #[.int .i64 tT.idx, .int .i64 tT.term, .slice ua tT.conf.length uc, .slice va tT.body.length vc] 53) := ⟨_, rfl⟩
                have hbu2 : Below wu.heap.size wu Wu := by rw [hWu]; exact below_alloc _ _
                have HAU := Lib.hid (HAT.out.next (hbu.trans (hbu2.mono hbu.size))).1
                obtain ⟨p6, m6, q6, n6, hl4, hlc, hlb⟩ := (HAT.out.next hbu).1.l
                have HL4 : Hid (Wu.heap[gl]? = some (.cells #[.int .i64 tT.idx, .int .i64 tT.term, .slice p6 tT.conf.length m6, .slice q6 tT.body.length n6] 53)) := Lib.hid (old_below hl4 hbu2)
                have hsame := Same6_any tT tT (.slice ua tT.conf.length uc) (.slice va tT.body.length vc) (.slice p6 tT.conf.length m6) (.slice q6 tT.body.length n6) (fun q => q < Wu.heap.size) Wu
                  (hu1.same (fun j hj => Nat.lt_of_lt_of_le hj.2 hbu2.size) fun j hj => hbu2.block j hj.2) (hu2.same (fun j hj => Nat.lt_of_lt_of_le hj.2 hbu2.size) fun j hj => hbu2.block j hj.2)
                  (hlc.same (fun j hj => Nat.lt_of_lt_of_le hj.1 hbu2.size) fun j hj => hbu2.block j hj.1) (hlb.same (fun j hj => Nat.lt_of_lt_of_le hj.1 hbu2.size) fun j hj => hbu2.block j hj.1) (fun _ h => h)
                rw [(sameSn_iff tT tT).2 rfl] at hsame
                have HSM := Lib.hid hsame
                unfold snAgg at HSM
                have HWu := Lib.hid hWu
                obtain ⟨c0, c1, c2, c3, -, -, -, -, cz⟩ := sh_four hl4
                clear hsame hWu hbu hbu2 hu1 hu2 hl4 hlc hlb
                go_wp2_with fail
                rw [← HWu.out]
                refine HSM.out.mono ?_
                rintro e ws ⟨rfl, hbs⟩
                have HAV := Lib.hid (HAU.out.next hbs).1
                have HL5 := Lib.hid (old_below HL4.out hbs)
                obtain ⟨scv, sbv, hsh, -, -⟩ := HAV.out.s.blk
                have HH1 := Lib.hid (ShHas_any gsT _ tT tT.idx scv sbv ws hsh)
                rw [hasS_self, HBT.out] at HH1
                have HH2 := Lib.hid (ShHas_any gsT _ tT (tT.idx + 1) scv sbv ws hsh)
                rw [hasS_up] at HH2
                clear hbs c0 c1 c2 c3 cz hsh
                obtain ⟨c0, c1, c2, c3, -, -, -, -, cz⟩ := sh_four HL5.out
                obtain ⟨hti1, hti2⟩ := HTI.out
                go_wp2_with fail
                refine HH1.out.mono ?_
                rintro e wh ⟨rfl, rfl⟩
                go_wp2_with fail
                refine HH2.out.mono ?_
                rintro e wh ⟨rfl, rfl⟩
                clear c0 c1 c2 c3 cz hti1 hti2
                go_wp2_with fail
                refine (Disks6_any dT XT YT gd gr wh HAV.out.s.ds.dsk HAV.out.q.dsk HAV.out.s.ds.well (by have := HUT.out; have := H40.out; have := HLT.out; omega)).mono ?_
                rintro e wd ⟨rfl, hbd⟩
                have HAW := Lib.hid (HAV.out.next hbd).1
                clear hbd
                go_wp2_with fail
                go_roundw
                case rel => exact ⟨k + 1, gsT, XT, YT, dT, tT, true, by have := HLT.out; omega, by go_num, rfl, rfl, HBT, Lib.hid ⟨HAW.out, HTI.out, HTZ.out, HUT.out⟩⟩
                case measure => have := HLT.out; simp [intOf]; omega
              · rw [if_neg hr0] at hA7
                have z5 : (r1 == 0) = false := beq_eq_false_iff_ne.2 hr0
                have HAT0 := Lib.hid hA7
                obtain ⟨wT, rfl⟩ : ∃ W, W = w7 := ⟨_, rfl⟩
                clear hA7 hs7
                obtain ⟨gsT, rfl⟩ : ∃ g, g = gs := ⟨_, rfl⟩
                obtain ⟨bT, rfl⟩ : ∃ b', b' = bv := ⟨_, rfl⟩
                have HBT := HBV
                obtain ⟨tT, rfl⟩ : ∃ t', t' = top := ⟨_, rfl⟩
                have HAT := HAT0
                have HTI : Hid (0 ≤ tT.idx ∧ tT.idx < 10000000000) := Lib.hid HR.out.ti
                have HTZ : Hid (tT.idx = 0 → tT = Sn.zero) := Lib.hid HR.out.tz
                go_wp2_with fail
                clear hr0 z5
                have htop := ShTop_any dT XT gd gsT tT w0 wT HAT.out.s HTZ.out
                rw [show (tT.idx != 0) = bT from (bne_dec _).trans HBT.out] at htop
                refine htop.mono ?_
                clear htop
                rintro e wu ⟨u1, u2, rfl, hbu, hu1, hu2⟩
                obtain ⟨ua, uc, rfl, -⟩ := hu1.slice
                obtain ⟨va, vc, rfl, -⟩ := hu2.slice
                unfold snAgg
                simp only
                obtain ⟨Wu, hWu⟩ : ∃ W, W = wu.alloc (.cells #[.int .i64 tT.idx, .int .i64 tT.term, .slice ua tT.conf.length uc, .slice va tT.body.length vc] 53) := ⟨_, rfl⟩
                have hbu2 : Below wu.heap.size wu Wu := by rw [hWu]; exact below_alloc _ _
                have HAU := Lib.hid (HAT.out.next (hbu.trans (hbu2.mono hbu.size))).1
                obtain ⟨p6, m6, q6, n6, hl4, hlc, hlb⟩ := (HAT.out.next hbu).1.l
                have HL4 : Hid (Wu.heap[gl]? = some (.cells #[.int .i64 tT.idx, .int .i64 tT.term, .slice p6 tT.conf.length m6, .slice q6 tT.body.length n6] 53)) := Lib.hid (old_below hl4 hbu2)
                have hsame := Same6_any tT tT (.slice ua tT.conf.length uc) (.slice va tT.body.length vc) (.slice p6 tT.conf.length m6) (.slice q6 tT.body.length n6) (fun q => q < Wu.heap.size) Wu
                  (hu1.same (fun j hj => Nat.lt_of_lt_of_le hj.2 hbu2.size) fun j hj => hbu2.block j hj.2) (hu2.same (fun j hj => Nat.lt_of_lt_of_le hj.2 hbu2.size) fun j hj => hbu2.block j hj.2)
                  (hlc.same (fun j hj => Nat.lt_of_lt_of_le hj.1 hbu2.size) fun j hj => hbu2.block j hj.1) (hlb.same (fun j hj => Nat.lt_of_lt_of_le hj.1 hbu2.size) fun j hj => hbu2.block j hj.1) (fun _ h => h)
                rw [(sameSn_iff tT tT).2 rfl] at hsame
                have HSM := Lib.hid hsame
                unfold snAgg at HSM
                have HWu := Lib.hid hWu
                obtain ⟨c0, c1, c2, c3, -, -, -, -, cz⟩ := sh_four hl4
                clear hsame hWu hbu hbu2 hu1 hu2 hl4 hlc hlb
                go_wp2_with fail
                rw [← HWu.out]
                refine HSM.out.mono ?_
                rintro e ws ⟨rfl, hbs⟩
                have HAV := Lib.hid (HAU.out.next hbs).1
                have HL5 := Lib.hid (old_below HL4.out hbs)
                obtain ⟨scv, sbv, hsh, -, -⟩ := HAV.out.s.blk
                have HH1 := Lib.hid (ShHas_any gsT _ tT tT.idx scv sbv ws hsh)
                rw [hasS_self, HBT.out] at HH1
                have HH2 := Lib.hid (ShHas_any gsT _ tT (tT.idx + 1) scv sbv ws hsh)
                rw [hasS_up] at HH2
                clear hbs c0 c1 c2 c3 cz hsh
                obtain ⟨c0, c1, c2, c3, -, -, -, -, cz⟩ := sh_four HL5.out
                obtain ⟨hti1, hti2⟩ := HTI.out
                go_wp2_with fail
                refine HH1.out.mono ?_
                rintro e wh ⟨rfl, rfl⟩
                go_wp2_with fail
                refine HH2.out.mono ?_
                rintro e wh ⟨rfl, rfl⟩
                clear c0 c1 c2 c3 cz hti1 hti2
                go_wp2_with fail
                refine (Disks6_any dT XT YT gd gr wh HAV.out.s.ds.dsk HAV.out.q.dsk HAV.out.s.ds.well (by have := HUT.out; have := H40.out; have := HLT.out; omega)).mono ?_
                rintro e wd ⟨rfl, hbd⟩
                have HAW := Lib.hid (HAV.out.next hbd).1
                clear hbd
                go_wp2_with fail
                go_roundw
                case rel => exact ⟨k + 1, gsT, XT, YT, dT, tT, bT, by have := HLT.out; omega, by go_num, rfl, rfl, HBT, Lib.hid ⟨HAW.out, HTI.out, HTZ.out, HUT.out⟩⟩
                case measure => have := HLT.out; simp [intOf]; omega
          · by_cases k1 : kd = 1
            · subst k1
              as_aux_lemma =>
                obtain ⟨p6, m6, q6, n6, hl4, hlc, hlb⟩ := HA5.out.l
                have HLC : Hid (RepB W5 (fun i => i < W5.heap.size ∧ ¬ X i ∧ ¬ Y i ∧ i ≠ gs ∧ i ≠ gl) top.conf (.slice p6 top.conf.length m6)) := Lib.hid hlc
                obtain ⟨c0, c1, c2, c3, -, -, -, -, cz⟩ := sh_four hl4
                have hgl5 : ¬ X gl ∧ ¬ Y gl ∧ gl ≠ gs := ⟨HA5.out.lx, HA5.out.ly, HA5.out.ls⟩
                have oc : ∀ (w' : World) (j : Nat) (v : Value), Only (fun i => X i ∨ Y i ∨ i = gs) W5 w' → W5.cell? ⟨gl, j, none⟩ = some v → w'.cell? ⟨gl, j, none⟩ = some v := fun w' j v ho hx => (World.cell?_of_block (a := ⟨gl, j, none⟩) (ho.block gl cz (by rintro (h | h | h); exact hgl5.1 h; exact hgl5.2.1 h; exact hgl5.2.2 h))).trans hx
                have r0 : ∀ w', Only (fun i => X i ∨ Y i ∨ i = gs) W5 w' → w'.cell? ⟨gl, 0, none⟩ = some (.int .i64 top.idx) := fun w' hw' => oc w' _ _ hw' c0
                have r1 : ∀ w', Only (fun i => X i ∨ Y i ∨ i = gs) W5 w' → w'.cell? ⟨gl, 1, none⟩ = some (.int .i64 top.term) := fun w' hw' => oc w' _ _ hw' c1
                have r2 : ∀ w', Only (fun i => X i ∨ Y i ∨ i = gs) W5 w' → w'.cell? ⟨gl, 2, none⟩ = some (.slice p6 top.conf.length m6) := fun w' hw' => oc w' _ _ hw' c2
                have r3 : ∀ w', Only (fun i => X i ∨ Y i ∨ i = gs) W5 w' → w'.cell? ⟨gl, 3, none⟩ = some (.slice q6 top.body.length n6) := fun w' hw' => oc w' _ _ hw' c3
                have hS : Only (fun i => X i ∨ Y i ∨ i = gs) W5 W5.drew := Only.of_below (Below.refl _ _).drew
                have hAd := (HA5.out.next (Below.refl _ W5).drew).1
                have HCL := Lib.hid (ShClean2_any d X gd gs top w0 W5.drew hAd.s (by have := HR.out.us; have := H40.out; have := HLT.out; omega))
                have HAD := Lib.hid hAd
                have HUS := Lib.hid (Nat.le_trans (cleanS_used hAd.s.ds.well top.idx) HR.out.us)
                have HNMS := Lib.hid hAd.s.ds.fine.2.1
                clear oc c0 c1 c2 c3 cz hgl5 hl4 hlc hlb hAd
                go_wp2_with fail
                rw [← HW5.out]
                refine wp_region_held (S := fun w' => Only (fun i => X i ∨ Y i ∨ i = gs) W5 w') (by kernel_rfl) ?_
                refine H_take (i := 0) (v := ?_) rfl (by as_aux_lemma => kernel_rfl) (by as_aux_lemma => kernel_rfl) (by as_aux_lemma => kernel_rfl) (fun _ _ _ h => h) (by rfl) hS ?_ ?_
                rotate_left
                · intro w' hw'; go_simp; with_reducible rfl
                go_simp
                refine H_take (i := 2) (v := ?_) rfl (by as_aux_lemma => kernel_rfl) (by as_aux_lemma => kernel_rfl) (by as_aux_lemma => kernel_rfl) (fun _ _ _ h => h) (by rfl) hS ?_ ?_
                rotate_left
                · intro w' hw'; go_simp; with_reducible rfl
                go_simp
                refine H_take (i := 3) (v := ?_) rfl (by as_aux_lemma => kernel_rfl) (by as_aux_lemma => kernel_rfl) (by as_aux_lemma => kernel_rfl) (fun _ _ _ h => h) (by rfl) hS ?_ ?_
                rotate_left
                · intro w' hw'; go_simp; with_reducible rfl
                go_simp
                refine H_take (i := 4) (v := ?_) rfl (by as_aux_lemma => kernel_rfl) (by as_aux_lemma => kernel_rfl) (by as_aux_lemma => kernel_rfl) (fun _ _ _ h => h) (by rfl) hS ?_ ?_
                rotate_left
                · intro w' hw'; go_simp; with_reducible rfl
                go_simp
                refine H_one (i := 1) (by as_aux_lemma => kernel_rfl) rfl (by rfl) ?_
                go_simp
                refine HCL.out.mono ?_
                intro e6 w6 hp6
                have hS6 : Only (fun i => X i ∨ Y i ∨ i = gs) W5 w6 := hS.thn (fun i hi => .inl hi) (hp6.2.elim fun X' h => h.2.2.1.mono fun i hi => hi.elim .inl fun h => .inr (.inr h))
                obtain ⟨XT, hA6, -⟩ := HAD.out.scall hp6
                have HA6 := Lib.hid hA6
                obtain ⟨rfl, -⟩ := hp6
                refine ⟨hS6, ?_⟩
                clear hA6
                refine H_one (i := 5) (by as_aux_lemma => kernel_rfl) rfl (by rfl) ?_
                go_simp
                have hrc := RefClean6_any d Y gr top (.slice p6 top.conf.length m6) (.slice q6 top.body.length n6) w0 w6 HA6.out.q ⟨_, _, _, rfl⟩ ⟨_, _, _, rfl⟩ HNMS.out
                rw [HBV.out] at hrc
                unfold snAgg at hrc
                refine hrc.mono ?_
                clear hrc
                intro e7 wT hp7
                have hS7 : Only (fun i => X i ∨ Y i ∨ i = gs) W5 wT := hS6.thn (fun i hi => .inl hi) (hp7.2.1.mono fun i hi => .inr (.inl hi))
                obtain ⟨YT, hA7, -⟩ := HA6.out.qcall hp7
                obtain ⟨rfl, -⟩ := hp7
                have HA7 := Lib.hid hA7
                refine ⟨hS7, ?_⟩
                clear hA7
                refine H_take (i := 6) (v := ?_) rfl (by as_aux_lemma => kernel_rfl) (by as_aux_lemma => kernel_rfl) (by as_aux_lemma => kernel_rfl) (fun _ _ _ h => h) (by rfl) hS7 ?_ ?_
                rotate_left
                · intro w' hw'; go_simp; with_reducible rfl
                go_simp
                refine wpAnyH_done (by as_aux_lemma => kernel_rfl) ?_ _
                obtain ⟨dT, hdT⟩ : ∃ d', d' = (cleanS d top.idx).2 := ⟨_, rfl⟩
                rw [← hdT] at HA7
                have HUT : Hid (D.used dT.fs ≤ 5000 * (k + 1)) := Lib.hid (by rw [hdT]; have := HUS.out; omega)
                have HAT := HA7
                clear hdT r0 r1 r2 r3 hS hS6 hS7 e0 e1 e2 e3 e4 e5 e6 e7 e8
                obtain ⟨gsT, rfl⟩ : ∃ g, g = gs := ⟨_, rfl⟩
                obtain ⟨bT, rfl⟩ : ∃ b', b' = bv := ⟨_, rfl⟩
                have HBT := HBV
                obtain ⟨tT, rfl⟩ : ∃ t', t' = top := ⟨_, rfl⟩
                have HTI : Hid (0 ≤ tT.idx ∧ tT.idx < 10000000000) := Lib.hid HR.out.ti
                have HTZ : Hid (tT.idx = 0 → tT = Sn.zero) := Lib.hid HR.out.tz
                go_wp2_with fail
                have htop := ShTop_any dT XT gd gsT tT w0 wT HAT.out.s HTZ.out
                rw [show (tT.idx != 0) = bT from (bne_dec _).trans HBT.out] at htop
                refine htop.mono ?_
                clear htop
                rintro e wu ⟨u1, u2, rfl, hbu, hu1, hu2⟩
                obtain ⟨ua, uc, rfl, -⟩ := hu1.slice
                obtain ⟨va, vc, rfl, -⟩ := hu2.slice
                unfold snAgg
                simp only
                obtain ⟨Wu, hWu⟩ : ∃ W, W = wu.alloc (.cells #[.int .i64 tT.idx, .int .i64 tT.term, .slice ua tT.conf.length uc, .slice va tT.body.length vc] 53) := ⟨_, rfl⟩
                have hbu2 : Below wu.heap.size wu Wu := by rw [hWu]; exact below_alloc _ _
                have HAU := Lib.hid (HAT.out.next (hbu.trans (hbu2.mono hbu.size))).1
                obtain ⟨p6, m6, q6, n6, hl4, hlc, hlb⟩ := (HAT.out.next hbu).1.l
                have HL4 : Hid (Wu.heap[gl]? = some (.cells #[.int .i64 tT.idx, .int .i64 tT.term, .slice p6 tT.conf.length m6, .slice q6 tT.body.length n6] 53)) := Lib.hid (old_below hl4 hbu2)
                have hsame := Same6_any tT tT (.slice ua tT.conf.length uc) (.slice va tT.body.length vc) (.slice p6 tT.conf.length m6) (.slice q6 tT.body.length n6) (fun q => q < Wu.heap.size) Wu
                  (hu1.same (fun j hj => Nat.lt_of_lt_of_le hj.2 hbu2.size) fun j hj => hbu2.block j hj.2) (hu2.same (fun j hj => Nat.lt_of_lt_of_le hj.2 hbu2.size) fun j hj => hbu2.block j hj.2)
                  (hlc.same (fun j hj => Nat.lt_of_lt_of_le hj.1 hbu2.size) fun j hj => hbu2.block j hj.1) (hlb.same (fun j hj => Nat.lt_of_lt_of_le hj.1 hbu2.size) fun j hj => hbu2.block j hj.1) (fun _ h => h)
                rw [(sameSn_iff tT tT).2 rfl] at hsame
                have HSM := Lib.hid hsame
                unfold snAgg at HSM
                have HWu := Lib.hid hWu
                obtain ⟨c0, c1, c2, c3, -, -, -, -, cz⟩ := sh_four hl4
                clear hsame hWu hbu hbu2 hu1 hu2 hl4 hlc hlb
                go_wp2_with fail
                rw [← HWu.out]
                refine HSM.out.mono ?_
                rintro e ws ⟨rfl, hbs⟩
                have HAV := Lib.hid (HAU.out.next hbs).1
                have HL5 := Lib.hid (old_below HL4.out hbs)
                obtain ⟨scv, sbv, hsh, -, -⟩ := HAV.out.s.blk
                have HH1 := Lib.hid (ShHas_any gsT _ tT tT.idx scv sbv ws hsh)
                rw [hasS_self, HBT.out] at HH1
                have HH2 := Lib.hid (ShHas_any gsT _ tT (tT.idx + 1) scv sbv ws hsh)
                rw [hasS_up] at HH2
                clear hbs c0 c1 c2 c3 cz hsh
                obtain ⟨c0, c1, c2, c3, -, -, -, -, cz⟩ := sh_four HL5.out
                obtain ⟨hti1, hti2⟩ := HTI.out
                go_wp2_with fail
                refine HH1.out.mono ?_
                rintro e wh ⟨rfl, rfl⟩
                go_wp2_with fail
                refine HH2.out.mono ?_
                rintro e wh ⟨rfl, rfl⟩
                clear c0 c1 c2 c3 cz hti1 hti2
                go_wp2_with fail
                refine (Disks6_any dT XT YT gd gr wh HAV.out.s.ds.dsk HAV.out.q.dsk HAV.out.s.ds.well (by have := HUT.out; have := H40.out; have := HLT.out; omega)).mono ?_
                rintro e wd ⟨rfl, hbd⟩
                have HAW := Lib.hid (HAV.out.next hbd).1
                clear hbd
                go_wp2_with fail
                go_roundw
                case rel => exact ⟨k + 1, gsT, XT, YT, dT, tT, bT, by have := HLT.out; omega, by go_num, rfl, rfl, HBT, Lib.hid ⟨HAW.out, HTI.out, HTZ.out, HUT.out⟩⟩
                case measure => have := HLT.out; simp [intOf]; omega
            · by_cases k2 : kd = 2
              · subst k2
                as_aux_lemma =>
                  have HOLD : Hid (∀ i, i < w.heap.size → i < w0.heap.size) := Lib.hid fun i hi => Nat.lt_of_lt_of_le hi HB0.out.size
                  have HKS5 : Hid (RepI W5 (fun i => i < w.heap.size) ks (.slice ka ks.length kc)) := Lib.hid (HKS.out.same (fun i hi => HF.out i hi) fun i hi => HB5.out.block i (Nat.lt_of_lt_of_le (HF.out i hi) HBW.out.size))
                  have HC6 := Lib.hid (DCrash HA5.out.s.ds ks (fun i => i < w.heap.size) _ HKS5.out fun i hi => ⟨Nat.lt_of_lt_of_le hi (Nat.le_trans HBW.out.size HB5.out.size), (HA5.out.old (HOLD.out i hi)).1⟩)
                  have HCW := Lib.hid (crash_well HA5.out.s.ds.well ks)
                  have HU0 : Hid (D.used d.fs ≤ 200000) := Lib.hid (by have := HR.out.us; have := H40.out; have := HLT.out; omega)
                  go_wp2_with fail
                  rw [← HW5.out, ← Hga.out]
                  refine HC6.out.mono ?_
                  intro ex6 w6 hp6
                  obtain ⟨X6, hA6, hs6⟩ := HA5.out.dcall hp6
                  simp only at hA6
                  have HA6 := Lib.hid hA6
                  have HK6 := Lib.hid (HKP.out.step hs6)
                  have HZ6 := Lib.hid hs6.size
                  have HKS6 : Hid (RepI w6 (fun i => i < w.heap.size) ks (.slice ka ks.length kc)) := Lib.hid (HKS5.out.same (fun _ h => h) fun i hi => hs6.fr i (Nat.lt_of_lt_of_le hi (Nat.le_trans HBW.out.size HB5.out.size)) (HA5.out.old (HOLD.out i hi)).1 (HA5.out.old (HOLD.out i hi)).2.1 (HA5.out.old (HOLD.out i hi)).2.2.1)
                  obtain ⟨rfl, -⟩ := hp6
                  have HC7 := Lib.hid (QCrash HA6.out.q ks (fun i => i < w.heap.size) _ HKS6.out (fun i hi => ⟨Nat.lt_of_lt_of_le hi (Nat.le_trans (Nat.le_trans HBW.out.size HB5.out.size) HZ6.out), (HA6.out.old (HOLD.out i hi)).2.1⟩) (by have := HU0.out; omega))
                  obtain ⟨-, -, -, -, -, -, x6, -, -, xz⟩ := row9 HK6.out.1
                  clear e0 e1 e2 e3 e4 e5 e6 e7 e8 hA6 hs6
                  go_wp2_with fail
                  refine HC7.out.mono ?_
                  intro ex7 w7 hp7
                  obtain ⟨Y7, hA7, hs7⟩ := HA6.out.qcall hp7
                  simp only at hA7
                  have HK7 := Lib.hid (HK6.out.step hs7)
                  obtain ⟨rfl, -⟩ := hp7
                  obtain ⟨d7, hd7⟩ : ∃ d', d' = (D.crash d ks).2 := ⟨_, rfl⟩
                  rw [← hd7] at hA7 HCW
                  have HA7 := Lib.hid hA7
                  have HU7 : Hid (D.used d7.fs ≤ 5000 * k) := Lib.hid (Nat.le_trans HCW.out.2 HR.out.us)
                  clear x6 xz hA7 hs7 hd7
                  obtain ⟨x0, -, -, -, -, -, -, -, -, xz⟩ := row9 HK7.out.1
                  have r0 : ∀ w', Below w7.heap.size w7 w' → w'.cell? ⟨ga, 0, none⟩ = some (.int .i64 2) := fun w' hb => (World.cell?_of_block (a := ⟨ga, 0, none⟩) (hb.block ga xz)).trans x0
                  have hS : Below w7.heap.size w7 w7.drew := (Below.refl _ _).drew
                  have HB8 := Lib.hid hS
                  clear x0
                  go_wp2_with fail
                  refine wp_region_held (S := fun w' => Below w7.heap.size w7 w') (by kernel_rfl) ?_
                  refine H_take (i := 0) (v := ?_) rfl (by as_aux_lemma => kernel_rfl) (by as_aux_lemma => kernel_rfl) (by as_aux_lemma => kernel_rfl) (fun _ _ _ h => h) (by rfl) hS ?_ ?_
                  rotate_left
                  · intro w' hw'; go_simp; with_reducible rfl
                  go_simp
                  refine H_take (i := 1) (v := ?_) rfl (by as_aux_lemma => kernel_rfl) (by as_aux_lemma => kernel_rfl) (by as_aux_lemma => kernel_rfl) (fun _ _ _ h => h) (by rfl) hS ?_ ?_
                  rotate_left
                  · intro w' hw'; go_simp; with_reducible rfl
                  go_simp
                  refine H_take (i := 2) (v := ?_) rfl (by as_aux_lemma => kernel_rfl) (by as_aux_lemma => kernel_rfl) (by as_aux_lemma => kernel_rfl) (fun _ _ _ h => h) (by rfl) hS ?_ ?_
                  rotate_left
                  · intro w' hw'; go_simp; with_reducible rfl
                  go_simp
                  refine H_take (i := 3) (v := ?_) rfl (by as_aux_lemma => kernel_rfl) (by as_aux_lemma => kernel_rfl) (by as_aux_lemma => kernel_rfl) (fun _ _ _ h => h) (by rfl) hS ?_ ?_
                  rotate_left
                  · intro w' hw'; go_simp; with_reducible rfl
                  go_simp
                  refine H_skip (i := 4) rfl (by as_aux_lemma => kernel_rfl) (by as_aux_lemma => kernel_rfl) (by as_aux_lemma => kernel_rfl) (fun _ _ _ h => h) (by rfl) hS ?_
                  go_simp
                  refine H_skip (i := 5) rfl (by as_aux_lemma => kernel_rfl) (by as_aux_lemma => kernel_rfl) (by as_aux_lemma => kernel_rfl) (fun _ _ _ h => h) (by rfl) hS ?_
                  go_simp
                  refine H_skip (i := 6) rfl (by as_aux_lemma => kernel_rfl) (by as_aux_lemma => kernel_rfl) (by as_aux_lemma => kernel_rfl) (fun _ _ _ h => h) (by rfl) hS ?_
                  go_simp
                  refine H_skip (i := 7) rfl (by as_aux_lemma => kernel_rfl) (by as_aux_lemma => kernel_rfl) (by as_aux_lemma => kernel_rfl) (fun _ _ _ h => h) (by rfl) hS ?_
                  go_simp
                  refine H_skip (i := 8) rfl (by as_aux_lemma => kernel_rfl) (by as_aux_lemma => kernel_rfl) (by as_aux_lemma => kernel_rfl) (fun _ _ _ h => h) (by rfl) hS ?_
                  go_simp
                  refine H_skip (i := 9) rfl (by as_aux_lemma => kernel_rfl) (by as_aux_lemma => kernel_rfl) (by as_aux_lemma => kernel_rfl) (fun _ _ _ h => h) (by rfl) hS ?_
                  go_simp
                  refine H_skip (i := 10) rfl (by as_aux_lemma => kernel_rfl) (by as_aux_lemma => kernel_rfl) (by as_aux_lemma => kernel_rfl) (fun _ _ _ h => h) (by rfl) hS ?_
                  go_simp
                  refine H_skip (i := 11) rfl (by as_aux_lemma => kernel_rfl) (by as_aux_lemma => kernel_rfl) (by as_aux_lemma => kernel_rfl) (fun _ _ _ h => h) (by rfl) hS ?_
                  go_simp
                  refine H_skip (i := 12) rfl (by as_aux_lemma => kernel_rfl) (by as_aux_lemma => kernel_rfl) (by as_aux_lemma => kernel_rfl) (fun _ _ _ h => h) (by rfl) hS ?_
                  go_simp
                  refine H_skip (i := 13) rfl (by as_aux_lemma => kernel_rfl) (by as_aux_lemma => kernel_rfl) (by as_aux_lemma => kernel_rfl) (fun _ _ _ h => h) (by rfl) hS ?_
                  go_simp
                  refine H_skip (i := 14) rfl (by as_aux_lemma => kernel_rfl) (by as_aux_lemma => kernel_rfl) (by as_aux_lemma => kernel_rfl) (fun _ _ _ h => h) (by rfl) hS ?_
                  go_simp
                  refine H_skip (i := 15) rfl (by as_aux_lemma => kernel_rfl) (by as_aux_lemma => kernel_rfl) (by as_aux_lemma => kernel_rfl) (fun _ _ _ h => h) (by rfl) hS ?_
                  go_simp
                  refine H_skip (i := 16) rfl (by as_aux_lemma => kernel_rfl) (by as_aux_lemma => kernel_rfl) (by as_aux_lemma => kernel_rfl) (fun _ _ _ h => h) (by rfl) hS ?_
                  go_simp
                  refine H_skip (i := 17) rfl (by as_aux_lemma => kernel_rfl) (by as_aux_lemma => kernel_rfl) (by as_aux_lemma => kernel_rfl) (fun _ _ _ h => h) (by rfl) hS ?_
                  go_simp
                  refine H_skip (i := 18) rfl (by as_aux_lemma => kernel_rfl) (by as_aux_lemma => kernel_rfl) (by as_aux_lemma => kernel_rfl) (fun _ _ _ h => h) (by rfl) hS ?_
                  go_simp
                  refine H_take (i := 19) (v := ?_) rfl (by as_aux_lemma => kernel_rfl) (by as_aux_lemma => kernel_rfl) (by as_aux_lemma => kernel_rfl) (fun _ _ _ h => h) (by rfl) hS ?_ ?_
                  rotate_left
                  · intro w' hw'; go_simp; with_reducible rfl
                  go_simp
                  refine wpAnyH_done (by as_aux_lemma => kernel_rfl) ?_ _
                  clear r0 hS xz
                  obtain ⟨XT, hXT⟩ : ∃ X', X' = X6 := ⟨_, rfl⟩
                  obtain ⟨YT, hYT⟩ : ∃ X', X' = Y7 := ⟨_, rfl⟩
                  obtain ⟨dT, hdT⟩ : ∃ d', d' = d7 := ⟨_, rfl⟩
                  obtain ⟨w8, hw8⟩ : ∃ w', w' = w7.drew := ⟨_, rfl⟩
                  have HA8 : Hid (AS w0 gd gr gs gl XT YT dT dT top top w8) := Lib.hid (by rw [hXT, hYT, hdT, hw8]; exact (HA7.out.next HB8.out).1)
                  have HUT : Hid (D.used dT.fs ≤ 5000 * (k + 1)) := Lib.hid (by rw [hdT]; have := HU7.out; omega)
                  rw [← hw8]
                  clear hXT hYT hdT hw8
                  go_wp2_with fail
                  refine (ShOpen2_any dT XT gd w0 w8 HA8.out.s.ds (by have := HUT.out; have := H40.out; have := HLT.out; omega) HT0).mono ?_
                  rintro e w9 ⟨gsT, rfl, h9, hb9, hg9, hz9⟩
                  obtain ⟨tT, htT⟩ : ∃ t, t = newestS dT.fs := ⟨_, rfl⟩
                  rw [← htT] at h9 hz9
                  have HA9 := Lib.hid (HA8.out.open h9 hb9 hg9 hz9).1
                  have HtT := Lib.hid htT
                  have HTI : Hid (0 ≤ tT.idx ∧ tT.idx < 10000000000) := Lib.hid (by rw [htT]; exact newestS_idx6 _)
                  have HTZ : Hid (tT.idx = 0 → tT = Sn.zero) := Lib.hid (by rw [htT]; exact newestS_zero6)
                  clear h9 hb9 hg9 hz9 htT
                  go_wp2_with fail
                  refine (RefNewest6_any dT YT gr w9 HA9.out.q.dsk (by have := HUT.out; have := H40.out; have := HLT.out; omega) HA9.out.s.ds.fine.2.1).mono ?_
                  rintro e wn ⟨hbn, a1, n1, c1, a2, n2, c2, rfl, hr1, hr2⟩
                  rw [← HtT.out] at hr1 hr2
                  rw [newestS_some6, ← HtT.out]
                  obtain ⟨_, _, he, -⟩ := hr1.slice
                  cases he
                  obtain ⟨_, _, he, -⟩ := hr2.slice
                  cases he
                  have hAn := (HA9.out.next hbn).1
                  have hXl9 := HA9.out.s.ds.lt
                  have hYl9 := HA9.out.q.lt
                  have hgs9 := HA9.out.s.lt
                  have hgl9 := HA9.out.gl_lt
                  obtain ⟨pn, mn, qn, nn, hln, -, -⟩ := hAn.l
                  obtain ⟨y0, y1, y2, y3, f0, f1, f2, f3, yz⟩ := sh_four hln
                  obtain ⟨wT, hwT⟩ : ∃ W, W = (((wn.setCell ⟨gl, 0, none⟩ (.int .i64 tT.idx)).setCell ⟨gl, 1, none⟩ (.int .i64 tT.term)).setCell ⟨gl, 2, none⟩ (.slice a1 tT.conf.length c1)).setCell ⟨gl, 3, none⟩ (.slice a2 tT.body.length c2) := ⟨_, rfl⟩
                  have HAT := Lib.hid (hAn.lset (y := tT) (hr1.weak fun j hj => ⟨hj.2, fun h => by have := hXl9 j h; omega, fun h => by have := hYl9 j h; omega, by omega, by omega⟩) (hr2.weak fun j hj => ⟨hj.2, fun h => by have := hXl9 j h; omega, fun h => by have := hYl9 j h; omega, by omega, by omega⟩) hwT).1
                  have HWT := Lib.hid hwT
                  obtain ⟨bT, hbT⟩ : ∃ b : Bool, b = decide (tT.idx ≠ 0) := ⟨_, rfl⟩
                  have HBT : Hid (decide (tT.idx ≠ 0) = bT) := Lib.hid hbT.symm
                  rw [← hbT]
                  clear hbn hr1 hr2 hAn hXl9 hYl9 hgs9 hgl9 hln hwT hbT
                  go_wp2_with fail
                  rw [← HWT.out]
                  clear y0 y1 y2 y3 f0 f1 f2 f3 yz
                  have htop := ShTop_any dT XT gd gsT tT w0 wT HAT.out.s HTZ.out
                  rw [show (tT.idx != 0) = bT from (bne_dec _).trans HBT.out] at htop
                  refine htop.mono ?_
                  clear htop
                  rintro e wu ⟨u1, u2, rfl, hbu, hu1, hu2⟩
                  obtain ⟨ua, uc, rfl, -⟩ := hu1.slice
                  obtain ⟨va, vc, rfl, -⟩ := hu2.slice
                  unfold snAgg
                  simp only
                  obtain ⟨Wu, hWu⟩ : ∃ W, W = wu.alloc (.cells #[.int .i64 tT.idx, .int .i64 tT.term, .slice ua tT.conf.length uc, .slice va tT.body.length vc] 53) := ⟨_, rfl⟩
                  have hbu2 : Below wu.heap.size wu Wu := by rw [hWu]; exact below_alloc _ _
                  have HAU := Lib.hid (HAT.out.next (hbu.trans (hbu2.mono hbu.size))).1
                  obtain ⟨p6, m6, q6, n6, hl4, hlc, hlb⟩ := (HAT.out.next hbu).1.l
                  have HL4 : Hid (Wu.heap[gl]? = some (.cells #[.int .i64 tT.idx, .int .i64 tT.term, .slice p6 tT.conf.length m6, .slice q6 tT.body.length n6] 53)) := Lib.hid (old_below hl4 hbu2)
                  have hsame := Same6_any tT tT (.slice ua tT.conf.length uc) (.slice va tT.body.length vc) (.slice p6 tT.conf.length m6) (.slice q6 tT.body.length n6) (fun q => q < Wu.heap.size) Wu
                    (hu1.same (fun j hj => Nat.lt_of_lt_of_le hj.2 hbu2.size) fun j hj => hbu2.block j hj.2) (hu2.same (fun j hj => Nat.lt_of_lt_of_le hj.2 hbu2.size) fun j hj => hbu2.block j hj.2)
                    (hlc.same (fun j hj => Nat.lt_of_lt_of_le hj.1 hbu2.size) fun j hj => hbu2.block j hj.1) (hlb.same (fun j hj => Nat.lt_of_lt_of_le hj.1 hbu2.size) fun j hj => hbu2.block j hj.1) (fun _ h => h)
                  rw [(sameSn_iff tT tT).2 rfl] at hsame
                  have HSM := Lib.hid hsame
                  unfold snAgg at HSM
                  have HWu := Lib.hid hWu
                  obtain ⟨c0, c1, c2, c3, -, -, -, -, cz⟩ := sh_four hl4
                  clear hsame hWu hbu hbu2 hu1 hu2 hl4 hlc hlb
                  go_wp2_with fail
                  rw [← HWu.out]
                  refine HSM.out.mono ?_
                  rintro e ws ⟨rfl, hbs⟩
                  have HAV := Lib.hid (HAU.out.next hbs).1
                  have HL5 := Lib.hid (old_below HL4.out hbs)
                  obtain ⟨scv, sbv, hsh, -, -⟩ := HAV.out.s.blk
                  have HH1 := Lib.hid (ShHas_any gsT _ tT tT.idx scv sbv ws hsh)
                  rw [hasS_self, HBT.out] at HH1
                  have HH2 := Lib.hid (ShHas_any gsT _ tT (tT.idx + 1) scv sbv ws hsh)
                  rw [hasS_up] at HH2
                  clear hbs c0 c1 c2 c3 cz hsh
                  obtain ⟨c0, c1, c2, c3, -, -, -, -, cz⟩ := sh_four HL5.out
                  obtain ⟨hti1, hti2⟩ := HTI.out
                  go_wp2_with fail
                  refine HH1.out.mono ?_
                  rintro e wh ⟨rfl, rfl⟩
                  go_wp2_with fail
                  refine HH2.out.mono ?_
                  rintro e wh ⟨rfl, rfl⟩
                  clear c0 c1 c2 c3 cz hti1 hti2
                  go_wp2_with fail
                  refine (Disks6_any dT XT YT gd gr wh HAV.out.s.ds.dsk HAV.out.q.dsk HAV.out.s.ds.well (by have := HUT.out; have := H40.out; have := HLT.out; omega)).mono ?_
                  rintro e wd ⟨rfl, hbd⟩
                  have HAW := Lib.hid (HAV.out.next hbd).1
                  clear hbd
                  go_wp2_with fail
                  go_roundw
                  case rel => exact ⟨k + 1, gsT, XT, YT, dT, tT, bT, by have := HLT.out; omega, by go_num, rfl, rfl, HBT, Lib.hid ⟨HAW.out, HTI.out, HTZ.out, HUT.out⟩⟩
                  case measure => have := HLT.out; simp [intOf]; omega
              · by_cases k4 : kd = 4
                · subst k4
                  as_aux_lemma =>
                    have HOLD : Hid (∀ i, i < w.heap.size → i < w0.heap.size) := Lib.hid fun i hi => Nat.lt_of_lt_of_le hi HB0.out.size
                    have HKS5 : Hid (RepI W5 (fun i => i < w.heap.size) ks (.slice ka ks.length kc)) := Lib.hid (HKS.out.same (fun i hi => HF.out i hi) fun i hi => HB5.out.block i (Nat.lt_of_lt_of_le (HF.out i hi) HBW.out.size))
                    have HC6 := Lib.hid (DCrash HA5.out.s.ds ks (fun i => i < w.heap.size) _ HKS5.out fun i hi => ⟨Nat.lt_of_lt_of_le hi (Nat.le_trans HBW.out.size HB5.out.size), (HA5.out.old (HOLD.out i hi)).1⟩)
                    have HCW := Lib.hid (crash_well HA5.out.s.ds.well ks)
                    have HU0 : Hid (D.used d.fs ≤ 200000) := Lib.hid (by have := HR.out.us; have := H40.out; have := HLT.out; omega)
                    go_wp2_with fail
                    rw [← HW5.out, ← Hga.out]
                    refine HC6.out.mono ?_
                    intro ex6 w6 hp6
                    obtain ⟨X6, hA6, hs6⟩ := HA5.out.dcall hp6
                    simp only at hA6
                    have HA6 := Lib.hid hA6
                    have HK6 := Lib.hid (HKP.out.step hs6)
                    have HZ6 := Lib.hid hs6.size
                    have HKS6 : Hid (RepI w6 (fun i => i < w.heap.size) ks (.slice ka ks.length kc)) := Lib.hid (HKS5.out.same (fun _ h => h) fun i hi => hs6.fr i (Nat.lt_of_lt_of_le hi (Nat.le_trans HBW.out.size HB5.out.size)) (HA5.out.old (HOLD.out i hi)).1 (HA5.out.old (HOLD.out i hi)).2.1 (HA5.out.old (HOLD.out i hi)).2.2.1)
                    obtain ⟨rfl, -⟩ := hp6
                    have HC7 := Lib.hid (QCrash HA6.out.q ks (fun i => i < w.heap.size) _ HKS6.out (fun i hi => ⟨Nat.lt_of_lt_of_le hi (Nat.le_trans (Nat.le_trans HBW.out.size HB5.out.size) HZ6.out), (HA6.out.old (HOLD.out i hi)).2.1⟩) (by have := HU0.out; omega))
                    obtain ⟨-, -, -, -, -, -, x6, -, -, xz⟩ := row9 HK6.out.1
                    clear e0 e1 e2 e3 e4 e5 e6 e7 e8 hA6 hs6
                    go_wp2_with fail
                    refine HC7.out.mono ?_
                    intro ex7 w7 hp7
                    obtain ⟨Y7, hA7, hs7⟩ := HA6.out.qcall hp7
                    simp only at hA7
                    have HK7 := Lib.hid (HK6.out.step hs7)
                    obtain ⟨rfl, -⟩ := hp7
                    obtain ⟨d7, hd7⟩ : ∃ d', d' = (D.crash d ks).2 := ⟨_, rfl⟩
                    rw [← hd7] at hA7 HCW
                    have HA7 := Lib.hid hA7
                    have HU7 : Hid (D.used d7.fs ≤ 5000 * k) := Lib.hid (Nat.le_trans HCW.out.2 HR.out.us)
                    clear x6 xz hA7 hs7 hd7
                    obtain ⟨x0, -, -, -, -, -, -, x7, x8, xz⟩ := row9 HK7.out.1
                    have HLOW : Hid (∀ i, i < w.heap.size → ¬ X6 i ∧ ¬ Y7 i) := Lib.hid fun i hi => ⟨(HA7.out.old (HOLD.out i hi)).1, (HA7.out.old (HOLD.out i hi)).2.1⟩
                    have HXl := Lib.hid HA7.out.s.ds.lt
                    have HYl := Lib.hid HA7.out.q.lt
                    have HZ7 : Hid (w.heap.size ≤ w7.heap.size) := Lib.hid (Nat.le_trans HB0.out.size HA7.out.s.ds.below.size)
                    have HUA := Lib.hid (append_well HA7.out.s.ds.well nm [B]).2
                    simp only [List.flatten_cons, List.flatten_nil, List.append_nil] at HUA
                    have HTOLD : Hid (∀ (V : World) (g : Nat), Only (fun i => X6 i ∨ Y7 i) w7 V → V.heap[g]? = some (.cells #[.slice da B.length dc] 34) → RepBl V (fun i => i < w.heap.size ∨ i = g) [B] (.slice (some ⟨g, 0, none⟩) 1 1)) := Lib.hid fun V g hV hg => one_told6 HBB.out HF.out (fun i hi => ((hV.block i (Nat.lt_of_lt_of_le hi HZ7.out) (by rintro (h | h); exact (HLOW.out i hi).1 h; exact (HLOW.out i hi).2 h)).trans (HA7.out.s.ds.below.block i (HOLD.out i hi))).trans (HR.out.a.s.ds.below.block i (HOLD.out i hi)).symm) hg
                    have r0 : ∀ w', Only (fun i => X6 i ∨ Y7 i) w7 w' → w'.cell? ⟨ga, 7, none⟩ = some (.string nm) := fun w' ho => (World.cell?_of_block (a := ⟨ga, 7, none⟩) (ho.block ga xz (by rintro (h | h); exact HK7.out.2.1 h; exact HK7.out.2.2.1 h))).trans x7
                    have r1 : ∀ w', Only (fun i => X6 i ∨ Y7 i) w7 w' → w'.cell? ⟨ga, 8, none⟩ = some (.slice da B.length dc) := fun w' ho => (World.cell?_of_block (a := ⟨ga, 8, none⟩) (ho.block ga xz (by rintro (h | h); exact HK7.out.2.1 h; exact HK7.out.2.2.1 h))).trans x8
                    have r2 : ∀ w', Only (fun i => X6 i ∨ Y7 i) w7 w' → w'.cell? ⟨ga, 0, none⟩ = some (.int .i64 4) := fun w' ho => (World.cell?_of_block (a := ⟨ga, 0, none⟩) (ho.block ga xz (by rintro (h | h); exact HK7.out.2.1 h; exact HK7.out.2.2.1 h))).trans x0
                    have hS : Only (fun i => X6 i ∨ Y7 i) w7 w7.drew := ⟨rfl, rfl, rfl, Nat.le_refl _, fun _ _ _ => rfl⟩
                    go_wp2_with fail
                    clear x0 x7 x8
                    refine wp_region_held (S := fun w' => Only (fun i => X6 i ∨ Y7 i) w7 w') (by kernel_rfl) ?_
                    refine H_take (i := 0) (v := ?_) rfl (by as_aux_lemma => kernel_rfl) (by as_aux_lemma => kernel_rfl) (by as_aux_lemma => kernel_rfl) (fun _ _ _ h => h) (by rfl) hS ?_ ?_
                    rotate_left
                    · intro w' hw'; go_simp; with_reducible rfl
                    go_simp
                    refine H_take (i := 1) (v := ?_) rfl (by as_aux_lemma => kernel_rfl) (by as_aux_lemma => kernel_rfl) (by as_aux_lemma => kernel_rfl) (fun _ _ _ h => h) (by rfl) hS ?_ ?_
                    rotate_left
                    · intro w' hw'; go_simp; with_reducible rfl
                    go_simp
                    refine H_take (i := 2) (v := ?_) rfl (by as_aux_lemma => kernel_rfl) (by as_aux_lemma => kernel_rfl) (by as_aux_lemma => kernel_rfl) (fun _ _ _ h => h) (by rfl) hS ?_ ?_
                    rotate_left
                    · intro w' hw'; go_simp; with_reducible rfl
                    go_simp
                    refine H_take (i := 3) (v := ?_) rfl (by as_aux_lemma => kernel_rfl) (by as_aux_lemma => kernel_rfl) (by as_aux_lemma => kernel_rfl) (fun _ _ _ h => h) (by rfl) hS ?_ ?_
                    rotate_left
                    · intro w' hw'; go_simp; with_reducible rfl
                    go_simp
                    refine H_take (i := 4) (v := ?_) rfl (by as_aux_lemma => kernel_rfl) (by as_aux_lemma => kernel_rfl) (by as_aux_lemma => kernel_rfl) (fun _ _ _ h => h) (by rfl) hS ?_ ?_
                    rotate_left
                    · intro w' hw'; go_simp; with_reducible rfl
                    go_simp
                    refine H_take (i := 5) (v := ?_) rfl (by as_aux_lemma => kernel_rfl) (by as_aux_lemma => kernel_rfl) (by as_aux_lemma => kernel_rfl) (fun _ _ _ h => h) (by rfl) hS ?_ ?_
                    rotate_left
                    · intro w' hw'; go_simp; with_reducible rfl
                    go_simp
                    refine H_take (i := 6) (v := ?_) rfl (by as_aux_lemma => kernel_rfl) (by as_aux_lemma => kernel_rfl) (by as_aux_lemma => kernel_rfl) (fun _ _ _ h => h) (by rfl) hS ?_ ?_
                    rotate_left
                    · intro w' hw'; go_simp; with_reducible rfl
                    go_simp
                    refine H_take (i := 7) (v := ?_) rfl (by as_aux_lemma => kernel_rfl) (by as_aux_lemma => kernel_rfl) (by as_aux_lemma => kernel_rfl) (fun _ _ _ h => h) (by rfl) hS ?_ ?_
                    rotate_left
                    · intro w' hw'; go_simp; with_reducible rfl
                    go_simp
                    refine H_take (i := 8) (v := ?_) rfl (by as_aux_lemma => kernel_rfl) (by as_aux_lemma => kernel_rfl) (by as_aux_lemma => kernel_rfl) (fun _ _ _ h => h) (by rfl) hS ?_ ?_
                    rotate_left
                    · intro w' hw'; go_simp; with_reducible rfl
                    go_simp
                    refine H_take (i := 11) (v := ?_) rfl (by as_aux_lemma => kernel_rfl) (by as_aux_lemma => kernel_rfl) (by as_aux_lemma => kernel_rfl) (fun _ _ _ h => h) (by rfl) hS ?_ ?_
                    rotate_left
                    · intro w' hw'; go_simp; with_reducible rfl
                    go_simp
                    refine H_take (i := 12) (v := ?_) rfl (by as_aux_lemma => kernel_rfl) (by as_aux_lemma => kernel_rfl) (by as_aux_lemma => kernel_rfl) (fun _ _ _ h => h) (by rfl) hS ?_ ?_
                    rotate_left
                    · intro w' hw'; go_simp; with_reducible rfl
                    go_simp
                    refine H_take (i := 13) (v := ?_) rfl (by as_aux_lemma => kernel_rfl) (by as_aux_lemma => kernel_rfl) (by as_aux_lemma => kernel_rfl) (fun _ _ _ h => h) (by rfl) hS ?_ ?_
                    rotate_left
                    · intro w' hw'; go_simp; with_reducible rfl
                    go_simp
                    refine H_take (i := 14) (v := ?_) rfl (by as_aux_lemma => kernel_rfl) (by as_aux_lemma => kernel_rfl) (by as_aux_lemma => kernel_rfl) (fun _ _ _ h => h) (by rfl) hS ?_ ?_
                    rotate_left
                    · intro w' hw'; go_simp; with_reducible rfl
                    go_simp
                    refine H_take (i := 15) (v := ?_) rfl (by as_aux_lemma => kernel_rfl) (by as_aux_lemma => kernel_rfl) (by as_aux_lemma => kernel_rfl) (fun _ _ _ h => h) (by rfl) hS ?_ ?_
                    rotate_left
                    · intro w' hw'; go_simp; with_reducible rfl
                    go_simp
                    refine H_both (i := 9) (j := 16) (by as_aux_lemma => kernel_rfl) rfl rfl (by rfl) (by rfl) ?_ ?_
                    · go_simp
                      obtain ⟨V1, hV⟩ : ∃ V, V = (w7.alloc (Obj.cells #[.slice da B.length dc] 34)).drew := ⟨_, rfl⟩
                      obtain ⟨gp, hg⟩ : ∃ g, g = w7.heap.size := ⟨_, rfl⟩
                      have hb : Below w7.heap.size w7 V1 := by rw [hV]; exact (below_alloc w7 _).drew
                      have Hgp : Hid (V1.heap[gp]? = some (.cells #[.slice da B.length dc] 34)) := Lib.hid (by rw [hV, hg]; exact heap_new _ _ _ rfl)
                      have HBV1 := Lib.hid hb
                      have HZgp : Hid (w7.heap.size ≤ gp ∧ gp = w7.heap.size) := Lib.hid ⟨by rw [hg]; exact Nat.le_refl _, hg⟩
                      have hS := (Only.refl (fun i => X6 i ∨ Y7 i) w7).next hb
                      rw [← hV, ← hg]
                      clear hV hg hb
                      refine ⟨hS, ?_⟩
                      go_simp
                      refine H_both (i := 10) (j := 16) (by as_aux_lemma => kernel_rfl) rfl rfl (by rfl) (by rfl) ?_ ?_
                      · go_simp
                        have HAV1 := Lib.hid (HA7.out.next HBV1.out).1
                        have HTP := HTOLD.out V1 gp hS Hgp.out
                        refine (DAppend HAV1.out.s.ds nm [B] (fun i => i < w.heap.size ∨ i = gp) _ HNM.out HTP (by
                          rintro i (hi | rfl)
                          · exact ⟨Nat.lt_of_lt_of_le hi (Nat.le_trans HZ7.out hS.size), (HLOW.out i hi).1⟩
                          · exact ⟨lt_of_heap Hgp.out, fun h => by have := HXl.out _ h; have := HZgp.out.1; omega⟩) (by have := HU7.out; have := HLS.out; have := H40.out; have := HLT.out; simp; omega)).mono ?_
                        intro ep wp hpp
                        have hS : Only (fun i => X6 i ∨ Y7 i) w7 wp := hS.thn (fun i hi => .inl hi) (hpp.2.1.mono fun i hi => .inl hi)
                        have HOP := Lib.hid hpp.2.1
                        obtain ⟨XT, hAp, -⟩ := HAV1.out.dcall hpp

                        have HAp := Lib.hid hAp
                        obtain ⟨rfl, -, -⟩ := hpp
                        clear HTP hAp
                        refine ⟨hS, ?_⟩
                        go_simp
                        refine H_one (i := 16) (by as_aux_lemma => kernel_rfl) rfl (by rfl) ?_
                        go_simp
                        obtain ⟨V3, hV⟩ : ∃ V, V = (wp.alloc (Obj.cells #[.slice da B.length dc] 34)) := ⟨_, rfl⟩
                        obtain ⟨gq, hg⟩ : ∃ g, g = wp.heap.size := ⟨_, rfl⟩
                        have hb : Below wp.heap.size wp V3 := by rw [hV]; exact below_alloc wp _
                        have Hgq : Hid (V3.heap[gq]? = some (.cells #[.slice da B.length dc] 34)) := Lib.hid (by rw [hV, hg]; exact heap_new _ _ _ rfl)
                        have HBV3 := Lib.hid hb
                        have HZgq : Hid (w7.heap.size ≤ gq ∧ gq = wp.heap.size) := Lib.hid ⟨by rw [hg]; exact hS.size, hg⟩
                        have hS := hS.next hb
                        rw [← hV, ← hg]
                        clear hV hg hb
                        refine ⟨hS, ?_⟩
                        go_simp
                        refine H_one (i := 17) (by as_aux_lemma => kernel_rfl) rfl (by rfl) ?_
                        go_simp
                        have HAV3 := Lib.hid (HAp.out.next HBV3.out).1
                        have Hq := Hgq
                        have HTQ := HTOLD.out V3 gq hS Hq.out
                        refine (QAppend HAV3.out.q nm [B] (fun i => i < w.heap.size ∨ i = gq) _ HNM.out HTQ (by
                          rintro i (hi | rfl)
                          · exact ⟨Nat.lt_of_lt_of_le hi (Nat.le_trans HZ7.out hS.size), (HLOW.out i hi).2⟩
                          · exact ⟨lt_of_heap Hq.out, fun h => by have := HYl.out _ h; have := HZgq.out.1; omega⟩) (by have := HU7.out; have := HLS.out; have := H40.out; have := HLT.out; simp; omega)).mono ?_
                        intro eq w8 hpq
                        have hS : Only (fun i => X6 i ∨ Y7 i) w7 w8 := hS.thn (fun i hi => .inl hi) (hpq.2.1.mono fun i hi => .inr hi)
                        obtain ⟨YT, hA8, -⟩ := HAV3.out.qcall hpq

                        have HA8 := Lib.hid hA8
                        obtain ⟨rfl, -, -⟩ := hpq
                        clear HTQ hA8
                        refine ⟨hS, ?_⟩
                        go_simp
                        refine H_take (i := 18) (v := ?_) rfl (by as_aux_lemma => kernel_rfl) (by as_aux_lemma => kernel_rfl) (by as_aux_lemma => kernel_rfl) (fun _ _ _ h => h) (by rfl) hS ?_ ?_
                        rotate_left
                        · intro w' hw'; go_simp; with_reducible rfl
                        go_simp
                        refine H_take (i := 19) (v := ?_) rfl (by as_aux_lemma => kernel_rfl) (by as_aux_lemma => kernel_rfl) (by as_aux_lemma => kernel_rfl) (fun _ _ _ h => h) (by rfl) hS ?_ ?_
                        rotate_left
                        · intro w' hw'; go_simp; with_reducible rfl
                        go_simp
                        refine wpAnyH_done (by as_aux_lemma => kernel_rfl) ?_ _
                        obtain ⟨dT, hdT⟩ : ∃ d', d' = (D.append d7 nm [B]).2 := ⟨_, rfl⟩
                        rw [← hdT] at HA8
                        have HUT : Hid (D.used dT.fs ≤ 5000 * (k + 1)) := Lib.hid (by rw [hdT]; have := HUA.out; have := HU7.out; have := HLS.out; omega)
                        clear hdT r0 r1 r2 hS
                        go_wp2_with fail
                        refine (ShOpen2_any dT XT gd w0 w8 HA8.out.s.ds (by have := HUT.out; have := H40.out; have := HLT.out; omega) HT0).mono ?_
                        rintro e w9 ⟨gsT, rfl, h9, hb9, hg9, hz9⟩
                        obtain ⟨tT, htT⟩ : ∃ t, t = newestS dT.fs := ⟨_, rfl⟩
                        rw [← htT] at h9 hz9
                        have HA9 := Lib.hid (HA8.out.open h9 hb9 hg9 hz9).1
                        have HtT := Lib.hid htT
                        have HTI : Hid (0 ≤ tT.idx ∧ tT.idx < 10000000000) := Lib.hid (by rw [htT]; exact newestS_idx6 _)
                        have HTZ : Hid (tT.idx = 0 → tT = Sn.zero) := Lib.hid (by rw [htT]; exact newestS_zero6)
                        clear h9 hb9 hg9 hz9 htT
                        go_wp2_with fail
                        refine (RefNewest6_any dT YT gr w9 HA9.out.q.dsk (by have := HUT.out; have := H40.out; have := HLT.out; omega) HA9.out.s.ds.fine.2.1).mono ?_
                        rintro e wn ⟨hbn, a1, n1, c1, a2, n2, c2, rfl, hr1, hr2⟩
                        rw [← HtT.out] at hr1 hr2
                        rw [newestS_some6, ← HtT.out]
                        obtain ⟨_, _, he, -⟩ := hr1.slice
                        cases he
                        obtain ⟨_, _, he, -⟩ := hr2.slice
                        cases he
                        have hAn := (HA9.out.next hbn).1
                        have hXl9 := HA9.out.s.ds.lt
                        have hYl9 := HA9.out.q.lt
                        have hgs9 := HA9.out.s.lt
                        have hgl9 := HA9.out.gl_lt
                        obtain ⟨pn, mn, qn, nn, hln, -, -⟩ := hAn.l
                        obtain ⟨y0, y1, y2, y3, f0, f1, f2, f3, yz⟩ := sh_four hln
                        obtain ⟨wT, hwT⟩ : ∃ W, W = (((wn.setCell ⟨gl, 0, none⟩ (.int .i64 tT.idx)).setCell ⟨gl, 1, none⟩ (.int .i64 tT.term)).setCell ⟨gl, 2, none⟩ (.slice a1 tT.conf.length c1)).setCell ⟨gl, 3, none⟩ (.slice a2 tT.body.length c2) := ⟨_, rfl⟩
                        have HAT := Lib.hid (hAn.lset (y := tT) (hr1.weak fun j hj => ⟨hj.2, fun h => by have := hXl9 j h; omega, fun h => by have := hYl9 j h; omega, by omega, by omega⟩) (hr2.weak fun j hj => ⟨hj.2, fun h => by have := hXl9 j h; omega, fun h => by have := hYl9 j h; omega, by omega, by omega⟩) hwT).1
                        have HWT := Lib.hid hwT
                        obtain ⟨bT, hbT⟩ : ∃ b : Bool, b = decide (tT.idx ≠ 0) := ⟨_, rfl⟩
                        have HBT : Hid (decide (tT.idx ≠ 0) = bT) := Lib.hid hbT.symm
                        rw [← hbT]
                        clear hbn hr1 hr2 hAn hXl9 hYl9 hgs9 hgl9 hln hwT hbT
                        go_wp2_with fail
                        rw [← HWT.out]
                        clear y0 y1 y2 y3 f0 f1 f2 f3 yz
                        have htop := ShTop_any dT XT gd gsT tT w0 wT HAT.out.s HTZ.out
                        rw [show (tT.idx != 0) = bT from (bne_dec _).trans HBT.out] at htop
                        refine htop.mono ?_
                        clear htop
                        rintro e wu ⟨u1, u2, rfl, hbu, hu1, hu2⟩
                        obtain ⟨ua, uc, rfl, -⟩ := hu1.slice
                        obtain ⟨va, vc, rfl, -⟩ := hu2.slice
                        unfold snAgg
                        simp only
                        obtain ⟨Wu, hWu⟩ : ∃ W, W = wu.alloc (.cells #[.int .i64 tT.idx, .int .i64 tT.term, .slice ua tT.conf.length uc, .slice va tT.body.length vc] 53) := ⟨_, rfl⟩
                        have hbu2 : Below wu.heap.size wu Wu := by rw [hWu]; exact below_alloc _ _
                        have HAU := Lib.hid (HAT.out.next (hbu.trans (hbu2.mono hbu.size))).1
                        obtain ⟨p6, m6, q6, n6, hl4, hlc, hlb⟩ := (HAT.out.next hbu).1.l
                        have HL4 : Hid (Wu.heap[gl]? = some (.cells #[.int .i64 tT.idx, .int .i64 tT.term, .slice p6 tT.conf.length m6, .slice q6 tT.body.length n6] 53)) := Lib.hid (old_below hl4 hbu2)
                        have hsame := Same6_any tT tT (.slice ua tT.conf.length uc) (.slice va tT.body.length vc) (.slice p6 tT.conf.length m6) (.slice q6 tT.body.length n6) (fun q => q < Wu.heap.size) Wu
                          (hu1.same (fun j hj => Nat.lt_of_lt_of_le hj.2 hbu2.size) fun j hj => hbu2.block j hj.2) (hu2.same (fun j hj => Nat.lt_of_lt_of_le hj.2 hbu2.size) fun j hj => hbu2.block j hj.2)
                          (hlc.same (fun j hj => Nat.lt_of_lt_of_le hj.1 hbu2.size) fun j hj => hbu2.block j hj.1) (hlb.same (fun j hj => Nat.lt_of_lt_of_le hj.1 hbu2.size) fun j hj => hbu2.block j hj.1) (fun _ h => h)
                        rw [(sameSn_iff tT tT).2 rfl] at hsame
                        have HSM := Lib.hid hsame
                        unfold snAgg at HSM
                        have HWu := Lib.hid hWu
                        obtain ⟨c0, c1, c2, c3, -, -, -, -, cz⟩ := sh_four hl4
                        clear hsame hWu hbu hbu2 hu1 hu2 hl4 hlc hlb
                        go_wp2_with fail
                        rw [← HWu.out]
                        refine HSM.out.mono ?_
                        rintro e ws ⟨rfl, hbs⟩
                        have HAV := Lib.hid (HAU.out.next hbs).1
                        have HL5 := Lib.hid (old_below HL4.out hbs)
                        obtain ⟨scv, sbv, hsh, -, -⟩ := HAV.out.s.blk
                        have HH1 := Lib.hid (ShHas_any gsT _ tT tT.idx scv sbv ws hsh)
                        rw [hasS_self, HBT.out] at HH1
                        have HH2 := Lib.hid (ShHas_any gsT _ tT (tT.idx + 1) scv sbv ws hsh)
                        rw [hasS_up] at HH2
                        clear hbs c0 c1 c2 c3 cz hsh
                        obtain ⟨c0, c1, c2, c3, -, -, -, -, cz⟩ := sh_four HL5.out
                        obtain ⟨hti1, hti2⟩ := HTI.out
                        go_wp2_with fail
                        refine HH1.out.mono ?_
                        rintro e wh ⟨rfl, rfl⟩
                        go_wp2_with fail
                        refine HH2.out.mono ?_
                        rintro e wh ⟨rfl, rfl⟩
                        clear c0 c1 c2 c3 cz hti1 hti2
                        go_wp2_with fail
                        refine (Disks6_any dT XT YT gd gr wh HAV.out.s.ds.dsk HAV.out.q.dsk HAV.out.s.ds.well (by have := HUT.out; have := H40.out; have := HLT.out; omega)).mono ?_
                        rintro e wd ⟨rfl, hbd⟩
                        have HAW := Lib.hid (HAV.out.next hbd).1
                        clear hbd
                        go_wp2_with fail
                        go_roundw
                        case rel => exact ⟨k + 1, gsT, XT, YT, dT, tT, bT, by have := HLT.out; omega, by go_num, rfl, rfl, HBT, Lib.hid ⟨HAW.out, HTI.out, HTZ.out, HUT.out⟩⟩
                        case measure => have := HLT.out; simp [intOf]; omega
                      · go_simp
                        obtain ⟨V2, hV⟩ : ∃ V, V = (V1.alloc (Obj.cells #[.slice da B.length dc] 34)) := ⟨_, rfl⟩
                        obtain ⟨gq, hg⟩ : ∃ g, g = V1.heap.size := ⟨_, rfl⟩
                        have hb : Below V1.heap.size V1 V2 := by rw [hV]; exact below_alloc V1 _
                        have Hgq : Hid (V2.heap[gq]? = some (.cells #[.slice da B.length dc] 34)) := Lib.hid (by rw [hV, hg]; exact heap_new _ _ _ rfl)
                        have HBV2 := Lib.hid hb
                        have HZgq : Hid (w7.heap.size ≤ gq ∧ gq = V1.heap.size) := Lib.hid ⟨by rw [hg]; exact hS.size, hg⟩
                        have hS := hS.next hb
                        rw [← hV, ← hg]
                        clear hV hg hb
                        refine ⟨hS, ?_⟩
                        go_simp
                        refine H_one (i := 10) (by as_aux_lemma => kernel_rfl) rfl (by rfl) ?_
                        go_simp
                        have HAV2 := Lib.hid (HA7.out.next (HBV1.out.trans (HBV2.out.mono HBV1.out.size))).1
                        have Hgp : Hid (V2.heap[gp]? = some (.cells #[.slice da B.length dc] 34)) := Lib.hid (old_below Hgp.out HBV2.out)
                        have HTP := HTOLD.out V2 gp hS Hgp.out
                        refine (DAppend HAV2.out.s.ds nm [B] (fun i => i < w.heap.size ∨ i = gp) _ HNM.out HTP (by
                          rintro i (hi | rfl)
                          · exact ⟨Nat.lt_of_lt_of_le hi (Nat.le_trans HZ7.out hS.size), (HLOW.out i hi).1⟩
                          · exact ⟨lt_of_heap Hgp.out, fun h => by have := HXl.out _ h; have := HZgp.out.1; omega⟩) (by have := HU7.out; have := HLS.out; have := H40.out; have := HLT.out; simp; omega)).mono ?_
                        intro ep wp hpp
                        have hS : Only (fun i => X6 i ∨ Y7 i) w7 wp := hS.thn (fun i hi => .inl hi) (hpp.2.1.mono fun i hi => .inl hi)
                        have HOP := Lib.hid hpp.2.1
                        obtain ⟨XT, hAp, -⟩ := HAV2.out.dcall hpp

                        have HAp := Lib.hid hAp
                        obtain ⟨rfl, -, -⟩ := hpp
                        clear HTP hAp
                        refine ⟨hS, ?_⟩
                        go_simp
                        refine H_one (i := 17) (by as_aux_lemma => kernel_rfl) rfl (by rfl) ?_
                        go_simp
                        have Hq : Hid (wp.heap[gq]? = some (.cells #[.slice da B.length dc] 34)) := Lib.hid ((HOP.out.block gq (lt_of_heap Hgq.out) fun h => by have := HXl.out _ h; have := HZgq.out.1; omega).trans Hgq.out)
                        have HTQ := HTOLD.out wp gq hS Hq.out
                        refine (QAppend HAp.out.q nm [B] (fun i => i < w.heap.size ∨ i = gq) _ HNM.out HTQ (by
                          rintro i (hi | rfl)
                          · exact ⟨Nat.lt_of_lt_of_le hi (Nat.le_trans HZ7.out hS.size), (HLOW.out i hi).2⟩
                          · exact ⟨lt_of_heap Hq.out, fun h => by have := HYl.out _ h; have := HZgq.out.1; omega⟩) (by have := HU7.out; have := HLS.out; have := H40.out; have := HLT.out; simp; omega)).mono ?_
                        intro eq w8 hpq
                        have hS : Only (fun i => X6 i ∨ Y7 i) w7 w8 := hS.thn (fun i hi => .inl hi) (hpq.2.1.mono fun i hi => .inr hi)
                        obtain ⟨YT, hA8, -⟩ := HAp.out.qcall hpq

                        have HA8 := Lib.hid hA8
                        obtain ⟨rfl, -, -⟩ := hpq
                        clear HTQ hA8
                        refine ⟨hS, ?_⟩
                        go_simp
                        refine H_take (i := 18) (v := ?_) rfl (by as_aux_lemma => kernel_rfl) (by as_aux_lemma => kernel_rfl) (by as_aux_lemma => kernel_rfl) (fun _ _ _ h => h) (by rfl) hS ?_ ?_
                        rotate_left
                        · intro w' hw'; go_simp; with_reducible rfl
                        go_simp
                        refine H_take (i := 19) (v := ?_) rfl (by as_aux_lemma => kernel_rfl) (by as_aux_lemma => kernel_rfl) (by as_aux_lemma => kernel_rfl) (fun _ _ _ h => h) (by rfl) hS ?_ ?_
                        rotate_left
                        · intro w' hw'; go_simp; with_reducible rfl
                        go_simp
                        refine wpAnyH_done (by as_aux_lemma => kernel_rfl) ?_ _
                        obtain ⟨dT, hdT⟩ : ∃ d', d' = (D.append d7 nm [B]).2 := ⟨_, rfl⟩
                        rw [← hdT] at HA8
                        have HUT : Hid (D.used dT.fs ≤ 5000 * (k + 1)) := Lib.hid (by rw [hdT]; have := HUA.out; have := HU7.out; have := HLS.out; omega)
                        clear hdT r0 r1 r2 hS
                        go_wp2_with fail
                        refine (ShOpen2_any dT XT gd w0 w8 HA8.out.s.ds (by have := HUT.out; have := H40.out; have := HLT.out; omega) HT0).mono ?_
                        rintro e w9 ⟨gsT, rfl, h9, hb9, hg9, hz9⟩
                        obtain ⟨tT, htT⟩ : ∃ t, t = newestS dT.fs := ⟨_, rfl⟩
                        rw [← htT] at h9 hz9
                        have HA9 := Lib.hid (HA8.out.open h9 hb9 hg9 hz9).1
                        have HtT := Lib.hid htT
                        have HTI : Hid (0 ≤ tT.idx ∧ tT.idx < 10000000000) := Lib.hid (by rw [htT]; exact newestS_idx6 _)
                        have HTZ : Hid (tT.idx = 0 → tT = Sn.zero) := Lib.hid (by rw [htT]; exact newestS_zero6)
                        clear h9 hb9 hg9 hz9 htT
                        go_wp2_with fail
                        refine (RefNewest6_any dT YT gr w9 HA9.out.q.dsk (by have := HUT.out; have := H40.out; have := HLT.out; omega) HA9.out.s.ds.fine.2.1).mono ?_
                        rintro e wn ⟨hbn, a1, n1, c1, a2, n2, c2, rfl, hr1, hr2⟩
                        rw [← HtT.out] at hr1 hr2
                        rw [newestS_some6, ← HtT.out]
                        obtain ⟨_, _, he, -⟩ := hr1.slice
                        cases he
                        obtain ⟨_, _, he, -⟩ := hr2.slice
                        cases he
                        have hAn := (HA9.out.next hbn).1
                        have hXl9 := HA9.out.s.ds.lt
                        have hYl9 := HA9.out.q.lt
                        have hgs9 := HA9.out.s.lt
                        have hgl9 := HA9.out.gl_lt
                        obtain ⟨pn, mn, qn, nn, hln, -, -⟩ := hAn.l
                        obtain ⟨y0, y1, y2, y3, f0, f1, f2, f3, yz⟩ := sh_four hln
                        obtain ⟨wT, hwT⟩ : ∃ W, W = (((wn.setCell ⟨gl, 0, none⟩ (.int .i64 tT.idx)).setCell ⟨gl, 1, none⟩ (.int .i64 tT.term)).setCell ⟨gl, 2, none⟩ (.slice a1 tT.conf.length c1)).setCell ⟨gl, 3, none⟩ (.slice a2 tT.body.length c2) := ⟨_, rfl⟩
                        have HAT := Lib.hid (hAn.lset (y := tT) (hr1.weak fun j hj => ⟨hj.2, fun h => by have := hXl9 j h; omega, fun h => by have := hYl9 j h; omega, by omega, by omega⟩) (hr2.weak fun j hj => ⟨hj.2, fun h => by have := hXl9 j h; omega, fun h => by have := hYl9 j h; omega, by omega, by omega⟩) hwT).1
                        have HWT := Lib.hid hwT
                        obtain ⟨bT, hbT⟩ : ∃ b : Bool, b = decide (tT.idx ≠ 0) := ⟨_, rfl⟩
                        have HBT : Hid (decide (tT.idx ≠ 0) = bT) := Lib.hid hbT.symm
                        rw [← hbT]
                        clear hbn hr1 hr2 hAn hXl9 hYl9 hgs9 hgl9 hln hwT hbT
                        go_wp2_with fail
                        rw [← HWT.out]
                        clear y0 y1 y2 y3 f0 f1 f2 f3 yz
                        have htop := ShTop_any dT XT gd gsT tT w0 wT HAT.out.s HTZ.out
                        rw [show (tT.idx != 0) = bT from (bne_dec _).trans HBT.out] at htop
                        refine htop.mono ?_
                        clear htop
                        rintro e wu ⟨u1, u2, rfl, hbu, hu1, hu2⟩
                        obtain ⟨ua, uc, rfl, -⟩ := hu1.slice
                        obtain ⟨va, vc, rfl, -⟩ := hu2.slice
                        unfold snAgg
                        simp only
                        obtain ⟨Wu, hWu⟩ : ∃ W, W = wu.alloc (.cells #[.int .i64 tT.idx, .int .i64 tT.term, .slice ua tT.conf.length uc, .slice va tT.body.length vc] 53) := ⟨_, rfl⟩
                        have hbu2 : Below wu.heap.size wu Wu := by rw [hWu]; exact below_alloc _ _
                        have HAU := Lib.hid (HAT.out.next (hbu.trans (hbu2.mono hbu.size))).1
                        obtain ⟨p6, m6, q6, n6, hl4, hlc, hlb⟩ := (HAT.out.next hbu).1.l
                        have HL4 : Hid (Wu.heap[gl]? = some (.cells #[.int .i64 tT.idx, .int .i64 tT.term, .slice p6 tT.conf.length m6, .slice q6 tT.body.length n6] 53)) := Lib.hid (old_below hl4 hbu2)
                        have hsame := Same6_any tT tT (.slice ua tT.conf.length uc) (.slice va tT.body.length vc) (.slice p6 tT.conf.length m6) (.slice q6 tT.body.length n6) (fun q => q < Wu.heap.size) Wu
                          (hu1.same (fun j hj => Nat.lt_of_lt_of_le hj.2 hbu2.size) fun j hj => hbu2.block j hj.2) (hu2.same (fun j hj => Nat.lt_of_lt_of_le hj.2 hbu2.size) fun j hj => hbu2.block j hj.2)
                          (hlc.same (fun j hj => Nat.lt_of_lt_of_le hj.1 hbu2.size) fun j hj => hbu2.block j hj.1) (hlb.same (fun j hj => Nat.lt_of_lt_of_le hj.1 hbu2.size) fun j hj => hbu2.block j hj.1) (fun _ h => h)
                        rw [(sameSn_iff tT tT).2 rfl] at hsame
                        have HSM := Lib.hid hsame
                        unfold snAgg at HSM
                        have HWu := Lib.hid hWu
                        obtain ⟨c0, c1, c2, c3, -, -, -, -, cz⟩ := sh_four hl4
                        clear hsame hWu hbu hbu2 hu1 hu2 hl4 hlc hlb
                        go_wp2_with fail
                        rw [← HWu.out]
                        refine HSM.out.mono ?_
                        rintro e ws ⟨rfl, hbs⟩
                        have HAV := Lib.hid (HAU.out.next hbs).1
                        have HL5 := Lib.hid (old_below HL4.out hbs)
                        obtain ⟨scv, sbv, hsh, -, -⟩ := HAV.out.s.blk
                        have HH1 := Lib.hid (ShHas_any gsT _ tT tT.idx scv sbv ws hsh)
                        rw [hasS_self, HBT.out] at HH1
                        have HH2 := Lib.hid (ShHas_any gsT _ tT (tT.idx + 1) scv sbv ws hsh)
                        rw [hasS_up] at HH2
                        clear hbs c0 c1 c2 c3 cz hsh
                        obtain ⟨c0, c1, c2, c3, -, -, -, -, cz⟩ := sh_four HL5.out
                        obtain ⟨hti1, hti2⟩ := HTI.out
                        go_wp2_with fail
                        refine HH1.out.mono ?_
                        rintro e wh ⟨rfl, rfl⟩
                        go_wp2_with fail
                        refine HH2.out.mono ?_
                        rintro e wh ⟨rfl, rfl⟩
                        clear c0 c1 c2 c3 cz hti1 hti2
                        go_wp2_with fail
                        refine (Disks6_any dT XT YT gd gr wh HAV.out.s.ds.dsk HAV.out.q.dsk HAV.out.s.ds.well (by have := HUT.out; have := H40.out; have := HLT.out; omega)).mono ?_
                        rintro e wd ⟨rfl, hbd⟩
                        have HAW := Lib.hid (HAV.out.next hbd).1
                        clear hbd
                        go_wp2_with fail
                        go_roundw
                        case rel => exact ⟨k + 1, gsT, XT, YT, dT, tT, bT, by have := HLT.out; omega, by go_num, rfl, rfl, HBT, Lib.hid ⟨HAW.out, HTI.out, HTZ.out, HUT.out⟩⟩
                        case measure => have := HLT.out; simp [intOf]; omega
                    · go_simp
                      obtain ⟨V1, hV⟩ : ∃ V, V = (w7.alloc (Obj.cells #[.slice da B.length dc] 34)).drew := ⟨_, rfl⟩
                      obtain ⟨gq, hg⟩ : ∃ g, g = w7.heap.size := ⟨_, rfl⟩
                      have hb : Below w7.heap.size w7 V1 := by rw [hV]; exact (below_alloc w7 _).drew
                      have Hgq : Hid (V1.heap[gq]? = some (.cells #[.slice da B.length dc] 34)) := Lib.hid (by rw [hV, hg]; exact heap_new _ _ _ rfl)
                      have HBV1 := Lib.hid hb
                      have HZgq : Hid (w7.heap.size ≤ gq ∧ gq = w7.heap.size) := Lib.hid ⟨by rw [hg]; exact Nat.le_refl _, hg⟩
                      have hS := (Only.refl (fun i => X6 i ∨ Y7 i) w7).next hb
                      rw [← hV, ← hg]
                      clear hV hg hb
                      refine ⟨hS, ?_⟩
                      go_simp
                      refine H_one (i := 9) (by as_aux_lemma => kernel_rfl) rfl (by rfl) ?_
                      go_simp
                      obtain ⟨V2, hV⟩ : ∃ V, V = (V1.alloc (Obj.cells #[.slice da B.length dc] 34)) := ⟨_, rfl⟩
                      obtain ⟨gp, hg⟩ : ∃ g, g = V1.heap.size := ⟨_, rfl⟩
                      have hb : Below V1.heap.size V1 V2 := by rw [hV]; exact below_alloc V1 _
                      have Hgp : Hid (V2.heap[gp]? = some (.cells #[.slice da B.length dc] 34)) := Lib.hid (by rw [hV, hg]; exact heap_new _ _ _ rfl)
                      have HBV2 := Lib.hid hb
                      have HZgp : Hid (w7.heap.size ≤ gp ∧ gp = V1.heap.size) := Lib.hid ⟨by rw [hg]; exact hS.size, hg⟩
                      have hS := hS.next hb
                      rw [← hV, ← hg]
                      clear hV hg hb
                      refine ⟨hS, ?_⟩
                      go_simp
                      refine H_one (i := 10) (by as_aux_lemma => kernel_rfl) rfl (by rfl) ?_
                      go_simp
                      have HAV2 := Lib.hid (HA7.out.next (HBV1.out.trans (HBV2.out.mono HBV1.out.size))).1
                      have Hgq : Hid (V2.heap[gq]? = some (.cells #[.slice da B.length dc] 34)) := Lib.hid (old_below Hgq.out HBV2.out)
                      have HTP := HTOLD.out V2 gp hS Hgp.out
                      refine (DAppend HAV2.out.s.ds nm [B] (fun i => i < w.heap.size ∨ i = gp) _ HNM.out HTP (by
                        rintro i (hi | rfl)
                        · exact ⟨Nat.lt_of_lt_of_le hi (Nat.le_trans HZ7.out hS.size), (HLOW.out i hi).1⟩
                        · exact ⟨lt_of_heap Hgp.out, fun h => by have := HXl.out _ h; have := HZgp.out.1; omega⟩) (by have := HU7.out; have := HLS.out; have := H40.out; have := HLT.out; simp; omega)).mono ?_
                      intro ep wp hpp
                      have hS : Only (fun i => X6 i ∨ Y7 i) w7 wp := hS.thn (fun i hi => .inl hi) (hpp.2.1.mono fun i hi => .inl hi)
                      have HOP := Lib.hid hpp.2.1
                      obtain ⟨XT, hAp, -⟩ := HAV2.out.dcall hpp

                      have HAp := Lib.hid hAp
                      obtain ⟨rfl, -, -⟩ := hpp
                      clear HTP hAp
                      refine ⟨hS, ?_⟩
                      go_simp
                      refine H_one (i := 17) (by as_aux_lemma => kernel_rfl) rfl (by rfl) ?_
                      go_simp
                      have Hq : Hid (wp.heap[gq]? = some (.cells #[.slice da B.length dc] 34)) := Lib.hid ((HOP.out.block gq (lt_of_heap Hgq.out) fun h => by have := HXl.out _ h; have := HZgq.out.1; omega).trans Hgq.out)
                      have HTQ := HTOLD.out wp gq hS Hq.out
                      refine (QAppend HAp.out.q nm [B] (fun i => i < w.heap.size ∨ i = gq) _ HNM.out HTQ (by
                        rintro i (hi | rfl)
                        · exact ⟨Nat.lt_of_lt_of_le hi (Nat.le_trans HZ7.out hS.size), (HLOW.out i hi).2⟩
                        · exact ⟨lt_of_heap Hq.out, fun h => by have := HYl.out _ h; have := HZgq.out.1; omega⟩) (by have := HU7.out; have := HLS.out; have := H40.out; have := HLT.out; simp; omega)).mono ?_
                      intro eq w8 hpq
                      have hS : Only (fun i => X6 i ∨ Y7 i) w7 w8 := hS.thn (fun i hi => .inl hi) (hpq.2.1.mono fun i hi => .inr hi)
                      obtain ⟨YT, hA8, -⟩ := HAp.out.qcall hpq

                      have HA8 := Lib.hid hA8
                      obtain ⟨rfl, -, -⟩ := hpq
                      clear HTQ hA8
                      refine ⟨hS, ?_⟩
                      go_simp
                      refine H_take (i := 18) (v := ?_) rfl (by as_aux_lemma => kernel_rfl) (by as_aux_lemma => kernel_rfl) (by as_aux_lemma => kernel_rfl) (fun _ _ _ h => h) (by rfl) hS ?_ ?_
                      rotate_left
                      · intro w' hw'; go_simp; with_reducible rfl
                      go_simp
                      refine H_take (i := 19) (v := ?_) rfl (by as_aux_lemma => kernel_rfl) (by as_aux_lemma => kernel_rfl) (by as_aux_lemma => kernel_rfl) (fun _ _ _ h => h) (by rfl) hS ?_ ?_
                      rotate_left
                      · intro w' hw'; go_simp; with_reducible rfl
                      go_simp
                      refine wpAnyH_done (by as_aux_lemma => kernel_rfl) ?_ _
                      obtain ⟨dT, hdT⟩ : ∃ d', d' = (D.append d7 nm [B]).2 := ⟨_, rfl⟩
                      rw [← hdT] at HA8
                      have HUT : Hid (D.used dT.fs ≤ 5000 * (k + 1)) := Lib.hid (by rw [hdT]; have := HUA.out; have := HU7.out; have := HLS.out; omega)
                      clear hdT r0 r1 r2 hS
                      go_wp2_with fail
                      refine (ShOpen2_any dT XT gd w0 w8 HA8.out.s.ds (by have := HUT.out; have := H40.out; have := HLT.out; omega) HT0).mono ?_
                      rintro e w9 ⟨gsT, rfl, h9, hb9, hg9, hz9⟩
                      obtain ⟨tT, htT⟩ : ∃ t, t = newestS dT.fs := ⟨_, rfl⟩
                      rw [← htT] at h9 hz9
                      have HA9 := Lib.hid (HA8.out.open h9 hb9 hg9 hz9).1
                      have HtT := Lib.hid htT
                      have HTI : Hid (0 ≤ tT.idx ∧ tT.idx < 10000000000) := Lib.hid (by rw [htT]; exact newestS_idx6 _)
                      have HTZ : Hid (tT.idx = 0 → tT = Sn.zero) := Lib.hid (by rw [htT]; exact newestS_zero6)
                      clear h9 hb9 hg9 hz9 htT
                      go_wp2_with fail
                      refine (RefNewest6_any dT YT gr w9 HA9.out.q.dsk (by have := HUT.out; have := H40.out; have := HLT.out; omega) HA9.out.s.ds.fine.2.1).mono ?_
                      rintro e wn ⟨hbn, a1, n1, c1, a2, n2, c2, rfl, hr1, hr2⟩
                      rw [← HtT.out] at hr1 hr2
                      rw [newestS_some6, ← HtT.out]
                      obtain ⟨_, _, he, -⟩ := hr1.slice
                      cases he
                      obtain ⟨_, _, he, -⟩ := hr2.slice
                      cases he
                      have hAn := (HA9.out.next hbn).1
                      have hXl9 := HA9.out.s.ds.lt
                      have hYl9 := HA9.out.q.lt
                      have hgs9 := HA9.out.s.lt
                      have hgl9 := HA9.out.gl_lt
                      obtain ⟨pn, mn, qn, nn, hln, -, -⟩ := hAn.l
                      obtain ⟨y0, y1, y2, y3, f0, f1, f2, f3, yz⟩ := sh_four hln
                      obtain ⟨wT, hwT⟩ : ∃ W, W = (((wn.setCell ⟨gl, 0, none⟩ (.int .i64 tT.idx)).setCell ⟨gl, 1, none⟩ (.int .i64 tT.term)).setCell ⟨gl, 2, none⟩ (.slice a1 tT.conf.length c1)).setCell ⟨gl, 3, none⟩ (.slice a2 tT.body.length c2) := ⟨_, rfl⟩
                      have HAT := Lib.hid (hAn.lset (y := tT) (hr1.weak fun j hj => ⟨hj.2, fun h => by have := hXl9 j h; omega, fun h => by have := hYl9 j h; omega, by omega, by omega⟩) (hr2.weak fun j hj => ⟨hj.2, fun h => by have := hXl9 j h; omega, fun h => by have := hYl9 j h; omega, by omega, by omega⟩) hwT).1
                      have HWT := Lib.hid hwT
                      obtain ⟨bT, hbT⟩ : ∃ b : Bool, b = decide (tT.idx ≠ 0) := ⟨_, rfl⟩
                      have HBT : Hid (decide (tT.idx ≠ 0) = bT) := Lib.hid hbT.symm
                      rw [← hbT]
                      clear hbn hr1 hr2 hAn hXl9 hYl9 hgs9 hgl9 hln hwT hbT
                      go_wp2_with fail
                      rw [← HWT.out]
                      clear y0 y1 y2 y3 f0 f1 f2 f3 yz
                      have htop := ShTop_any dT XT gd gsT tT w0 wT HAT.out.s HTZ.out
                      rw [show (tT.idx != 0) = bT from (bne_dec _).trans HBT.out] at htop
                      refine htop.mono ?_
                      clear htop
                      rintro e wu ⟨u1, u2, rfl, hbu, hu1, hu2⟩
                      obtain ⟨ua, uc, rfl, -⟩ := hu1.slice
                      obtain ⟨va, vc, rfl, -⟩ := hu2.slice
                      unfold snAgg
                      simp only
                      obtain ⟨Wu, hWu⟩ : ∃ W, W = wu.alloc (.cells #[.int .i64 tT.idx, .int .i64 tT.term, .slice ua tT.conf.length uc, .slice va tT.body.length vc] 53) := ⟨_, rfl⟩
                      have hbu2 : Below wu.heap.size wu Wu := by rw [hWu]; exact below_alloc _ _
                      have HAU := Lib.hid (HAT.out.next (hbu.trans (hbu2.mono hbu.size))).1
                      obtain ⟨p6, m6, q6, n6, hl4, hlc, hlb⟩ := (HAT.out.next hbu).1.l
                      have HL4 : Hid (Wu.heap[gl]? = some (.cells #[.int .i64 tT.idx, .int .i64 tT.term, .slice p6 tT.conf.length m6, .slice q6 tT.body.length n6] 53)) := Lib.hid (old_below hl4 hbu2)
                      have hsame := Same6_any tT tT (.slice ua tT.conf.length uc) (.slice va tT.body.length vc) (.slice p6 tT.conf.length m6) (.slice q6 tT.body.length n6) (fun q => q < Wu.heap.size) Wu
                        (hu1.same (fun j hj => Nat.lt_of_lt_of_le hj.2 hbu2.size) fun j hj => hbu2.block j hj.2) (hu2.same (fun j hj => Nat.lt_of_lt_of_le hj.2 hbu2.size) fun j hj => hbu2.block j hj.2)
                        (hlc.same (fun j hj => Nat.lt_of_lt_of_le hj.1 hbu2.size) fun j hj => hbu2.block j hj.1) (hlb.same (fun j hj => Nat.lt_of_lt_of_le hj.1 hbu2.size) fun j hj => hbu2.block j hj.1) (fun _ h => h)
                      rw [(sameSn_iff tT tT).2 rfl] at hsame
                      have HSM := Lib.hid hsame
                      unfold snAgg at HSM
                      have HWu := Lib.hid hWu
                      obtain ⟨c0, c1, c2, c3, -, -, -, -, cz⟩ := sh_four hl4
                      clear hsame hWu hbu hbu2 hu1 hu2 hl4 hlc hlb
                      go_wp2_with fail
                      rw [← HWu.out]
                      refine HSM.out.mono ?_
                      rintro e ws ⟨rfl, hbs⟩
                      have HAV := Lib.hid (HAU.out.next hbs).1
                      have HL5 := Lib.hid (old_below HL4.out hbs)
                      obtain ⟨scv, sbv, hsh, -, -⟩ := HAV.out.s.blk
                      have HH1 := Lib.hid (ShHas_any gsT _ tT tT.idx scv sbv ws hsh)
                      rw [hasS_self, HBT.out] at HH1
                      have HH2 := Lib.hid (ShHas_any gsT _ tT (tT.idx + 1) scv sbv ws hsh)
                      rw [hasS_up] at HH2
                      clear hbs c0 c1 c2 c3 cz hsh
                      obtain ⟨c0, c1, c2, c3, -, -, -, -, cz⟩ := sh_four HL5.out
                      obtain ⟨hti1, hti2⟩ := HTI.out
                      go_wp2_with fail
                      refine HH1.out.mono ?_
                      rintro e wh ⟨rfl, rfl⟩
                      go_wp2_with fail
                      refine HH2.out.mono ?_
                      rintro e wh ⟨rfl, rfl⟩
                      clear c0 c1 c2 c3 cz hti1 hti2
                      go_wp2_with fail
                      refine (Disks6_any dT XT YT gd gr wh HAV.out.s.ds.dsk HAV.out.q.dsk HAV.out.s.ds.well (by have := HUT.out; have := H40.out; have := HLT.out; omega)).mono ?_
                      rintro e wd ⟨rfl, hbd⟩
                      have HAW := Lib.hid (HAV.out.next hbd).1
                      clear hbd
                      go_wp2_with fail
                      go_roundw
                      case rel => exact ⟨k + 1, gsT, XT, YT, dT, tT, bT, by have := HLT.out; omega, by go_num, rfl, rfl, HBT, Lib.hid ⟨HAW.out, HTI.out, HTZ.out, HUT.out⟩⟩
                      case measure => have := HLT.out; simp [intOf]; omega
                · by_cases k3 : kd = 3
                  · subst k3
                    as_aux_lemma =>
                      go_wp2_with fail
                      rw [← HW5.out, ← Hga.out]
                      refine (HA5.out.s.stop an HAN.out).mono ?_
                      rintro e w6 ⟨rfl, h6, ho6, -⟩
                      obtain ⟨XT, hA6, hs6⟩ := HA5.out.scall (r := (0, D.stop d an)) (ex := .returned (.int .i64 0)) ⟨rfl, X, fun _ h => .inl h, h6, ho6.mono fun _ h => .inl h, .inl ho6⟩
                      have HA6 := Lib.hid hA6
                      have HK6 := Lib.hid (HKP.out.step hs6)
                      obtain ⟨-, -, -, -, -, x5, -, -, -, xz⟩ := row9 HK6.out.1
                      clear e0 e1 e2 e3 e4 e5 e6 e7 e8 h6 ho6 hA6 hs6
                      go_wp2_with fail
                      refine (QStop HA6.out.q an HAN.out).mono ?_
                      rintro e wT ⟨rfl, hp7⟩
                      obtain ⟨YT, hA7, hs7⟩ := HA6.out.qcall hp7
                      obtain ⟨dT, hdT⟩ : ∃ d', d' = D.stop d an := ⟨_, rfl⟩
                      simp only at hA7
                      rw [← hdT] at hA7
                      have HUT : Hid (D.used dT.fs ≤ 5000 * (k + 1)) := Lib.hid (by rw [hdT]; have : D.used (D.stop d an).fs = D.used d.fs := rfl; have := HR.out.us; omega)
                      obtain ⟨gsT, rfl⟩ : ∃ g, g = gs := ⟨_, rfl⟩
                      obtain ⟨bT, rfl⟩ : ∃ b', b' = bv := ⟨_, rfl⟩
                      have HBT := HBV
                      obtain ⟨tT, rfl⟩ : ∃ t', t' = top := ⟨_, rfl⟩
                      have HTI : Hid (0 ≤ tT.idx ∧ tT.idx < 10000000000) := Lib.hid HR.out.ti
                      have HTZ : Hid (tT.idx = 0 → tT = Sn.zero) := Lib.hid HR.out.tz
                      have HAT := Lib.hid hA7
                      clear hp7 hA7 hs7 hdT x5 xz
                      go_wp2_with fail
                      have htop := ShTop_any dT XT gd gsT tT w0 wT HAT.out.s HTZ.out
                      rw [show (tT.idx != 0) = bT from (bne_dec _).trans HBT.out] at htop
                      refine htop.mono ?_
                      clear htop
                      rintro e wu ⟨u1, u2, rfl, hbu, hu1, hu2⟩
                      obtain ⟨ua, uc, rfl, -⟩ := hu1.slice
                      obtain ⟨va, vc, rfl, -⟩ := hu2.slice
                      unfold snAgg
                      simp only
                      obtain ⟨Wu, hWu⟩ : ∃ W, W = wu.alloc (.cells #[.int .i64 tT.idx, .int .i64 tT.term, .slice ua tT.conf.length uc, .slice va tT.body.length vc] 53) := ⟨_, rfl⟩
                      have hbu2 : Below wu.heap.size wu Wu := by rw [hWu]; exact below_alloc _ _
                      have HAU := Lib.hid (HAT.out.next (hbu.trans (hbu2.mono hbu.size))).1
                      obtain ⟨p6, m6, q6, n6, hl4, hlc, hlb⟩ := (HAT.out.next hbu).1.l
                      have HL4 : Hid (Wu.heap[gl]? = some (.cells #[.int .i64 tT.idx, .int .i64 tT.term, .slice p6 tT.conf.length m6, .slice q6 tT.body.length n6] 53)) := Lib.hid (old_below hl4 hbu2)
                      have hsame := Same6_any tT tT (.slice ua tT.conf.length uc) (.slice va tT.body.length vc) (.slice p6 tT.conf.length m6) (.slice q6 tT.body.length n6) (fun q => q < Wu.heap.size) Wu
                        (hu1.same (fun j hj => Nat.lt_of_lt_of_le hj.2 hbu2.size) fun j hj => hbu2.block j hj.2) (hu2.same (fun j hj => Nat.lt_of_lt_of_le hj.2 hbu2.size) fun j hj => hbu2.block j hj.2)
                        (hlc.same (fun j hj => Nat.lt_of_lt_of_le hj.1 hbu2.size) fun j hj => hbu2.block j hj.1) (hlb.same (fun j hj => Nat.lt_of_lt_of_le hj.1 hbu2.size) fun j hj => hbu2.block j hj.1) (fun _ h => h)
                      rw [(sameSn_iff tT tT).2 rfl] at hsame
                      have HSM := Lib.hid hsame
                      unfold snAgg at HSM
                      have HWu := Lib.hid hWu
                      obtain ⟨c0, c1, c2, c3, -, -, -, -, cz⟩ := sh_four hl4
                      clear hsame hWu hbu hbu2 hu1 hu2 hl4 hlc hlb
                      go_wp2_with fail
                      rw [← HWu.out]
                      refine HSM.out.mono ?_
                      rintro e ws ⟨rfl, hbs⟩
                      have HAV := Lib.hid (HAU.out.next hbs).1
                      have HL5 := Lib.hid (old_below HL4.out hbs)
                      obtain ⟨scv, sbv, hsh, -, -⟩ := HAV.out.s.blk
                      have HH1 := Lib.hid (ShHas_any gsT _ tT tT.idx scv sbv ws hsh)
                      rw [hasS_self, HBT.out] at HH1
                      have HH2 := Lib.hid (ShHas_any gsT _ tT (tT.idx + 1) scv sbv ws hsh)
                      rw [hasS_up] at HH2
                      clear hbs c0 c1 c2 c3 cz hsh
                      obtain ⟨c0, c1, c2, c3, -, -, -, -, cz⟩ := sh_four HL5.out
                      obtain ⟨hti1, hti2⟩ := HTI.out
                      go_wp2_with fail
                      refine HH1.out.mono ?_
                      rintro e wh ⟨rfl, rfl⟩
                      go_wp2_with fail
                      refine HH2.out.mono ?_
                      rintro e wh ⟨rfl, rfl⟩
                      clear c0 c1 c2 c3 cz hti1 hti2
                      go_wp2_with fail
                      refine (Disks6_any dT XT YT gd gr wh HAV.out.s.ds.dsk HAV.out.q.dsk HAV.out.s.ds.well (by have := HUT.out; have := H40.out; have := HLT.out; omega)).mono ?_
                      rintro e wd ⟨rfl, hbd⟩
                      have HAW := Lib.hid (HAV.out.next hbd).1
                      clear hbd
                      go_wp2_with fail
                      go_roundw
                      case rel => exact ⟨k + 1, gsT, XT, YT, dT, tT, bT, by have := HLT.out; omega, by go_num, rfl, rfl, HBT, Lib.hid ⟨HAW.out, HTI.out, HTZ.out, HUT.out⟩⟩
                      case measure => have := HLT.out; simp [intOf]; omega
                  · as_aux_lemma =>
                      have z0 : (kd == 0) = false := beq_eq_false_iff_ne.2 k0
                      have z1 : (kd == 1) = false := beq_eq_false_iff_ne.2 k1
                      have z2 : (kd == 2) = false := beq_eq_false_iff_ne.2 k2
                      have z3 : (kd == 3) = false := beq_eq_false_iff_ne.2 k3
                      have z4 : (kd == 4) = false := beq_eq_false_iff_ne.2 k4
                      obtain ⟨wT, hwT⟩ : ∃ W, W = W5 := ⟨_, rfl⟩
                      obtain ⟨gsT, hgsT⟩ : ∃ g, g = gs := ⟨_, rfl⟩
                      obtain ⟨XT, hXT⟩ : ∃ X', X' = X := ⟨_, rfl⟩
                      obtain ⟨YT, hYT⟩ : ∃ Y', Y' = Y := ⟨_, rfl⟩
                      obtain ⟨dT, hdT⟩ : ∃ d', d' = d := ⟨_, rfl⟩
                      obtain ⟨tT, htT⟩ : ∃ t', t' = top := ⟨_, rfl⟩
                      obtain ⟨bT, hbT⟩ : ∃ b', b' = bv := ⟨_, rfl⟩
                      have HAT : Hid (AS w0 gd gr gsT gl XT YT dT dT tT tT wT) := by rw [hwT, hgsT, hXT, hYT, hdT, htT]; exact HA5
                      have HTI : Hid (0 ≤ tT.idx ∧ tT.idx < 10000000000) := Lib.hid (by rw [htT]; exact HR.out.ti)
                      have HTZ : Hid (tT.idx = 0 → tT = Sn.zero) := Lib.hid (by rw [htT]; exact HR.out.tz)
                      have HUT : Hid (D.used dT.fs ≤ 5000 * (k + 1)) := Lib.hid (by rw [hdT]; have := HR.out.us; omega)
                      have HBT : Hid (decide (tT.idx ≠ 0) = bT) := by rw [htT, hbT]; exact HBV
                      have HWT : Hid (wT = wr.alloc (.cells #[.int .i64 kd, .int .i64 xi, .int .i64 xt, .slice ca xc.length cc, .slice ba xb.length bc, .int .i64 an, .slice ka ks.length kc, .string nm, .slice da B.length dc] 71)) := by rw [hwT]; exact HW5
                      rw [← hgsT, ← hbT]
                      clear hwT hgsT hXT hYT hdT htT hbT
                      go_wp2_with fail
                      rw [← HWT.out]
                      clear e0 e1 e2 e3 e4 e5 e6 e7 e8
                      have htop := ShTop_any dT XT gd gsT tT w0 wT HAT.out.s HTZ.out
                      rw [show (tT.idx != 0) = bT from (bne_dec _).trans HBT.out] at htop
                      refine htop.mono ?_
                      clear htop
                      rintro e wu ⟨u1, u2, rfl, hbu, hu1, hu2⟩
                      obtain ⟨ua, uc, rfl, -⟩ := hu1.slice
                      obtain ⟨va, vc, rfl, -⟩ := hu2.slice
                      unfold snAgg
                      simp only
                      obtain ⟨Wu, hWu⟩ : ∃ W, W = wu.alloc (.cells #[.int .i64 tT.idx, .int .i64 tT.term, .slice ua tT.conf.length uc, .slice va tT.body.length vc] 53) := ⟨_, rfl⟩
                      have hbu2 : Below wu.heap.size wu Wu := by rw [hWu]; exact below_alloc _ _
                      have HAU := Lib.hid (HAT.out.next (hbu.trans (hbu2.mono hbu.size))).1
                      obtain ⟨p6, m6, q6, n6, hl4, hlc, hlb⟩ := (HAT.out.next hbu).1.l
                      have HL4 : Hid (Wu.heap[gl]? = some (.cells #[.int .i64 tT.idx, .int .i64 tT.term, .slice p6 tT.conf.length m6, .slice q6 tT.body.length n6] 53)) := Lib.hid (old_below hl4 hbu2)
                      have hsame := Same6_any tT tT (.slice ua tT.conf.length uc) (.slice va tT.body.length vc) (.slice p6 tT.conf.length m6) (.slice q6 tT.body.length n6) (fun q => q < Wu.heap.size) Wu
                        (hu1.same (fun j hj => Nat.lt_of_lt_of_le hj.2 hbu2.size) fun j hj => hbu2.block j hj.2) (hu2.same (fun j hj => Nat.lt_of_lt_of_le hj.2 hbu2.size) fun j hj => hbu2.block j hj.2)
                        (hlc.same (fun j hj => Nat.lt_of_lt_of_le hj.1 hbu2.size) fun j hj => hbu2.block j hj.1) (hlb.same (fun j hj => Nat.lt_of_lt_of_le hj.1 hbu2.size) fun j hj => hbu2.block j hj.1) (fun _ h => h)
                      rw [(sameSn_iff tT tT).2 rfl] at hsame
                      have HSM := Lib.hid hsame
                      unfold snAgg at HSM
                      have HWu := Lib.hid hWu
                      obtain ⟨c0, c1, c2, c3, -, -, -, -, cz⟩ := sh_four hl4
                      clear hsame hWu hbu hbu2 hu1 hu2 hl4 hlc hlb
                      go_wp2_with fail
                      rw [← HWu.out]
                      refine HSM.out.mono ?_
                      rintro e ws ⟨rfl, hbs⟩
                      have HAV := Lib.hid (HAU.out.next hbs).1
                      have HL5 := Lib.hid (old_below HL4.out hbs)
                      obtain ⟨scv, sbv, hsh, -, -⟩ := HAV.out.s.blk
                      have HH1 := Lib.hid (ShHas_any gsT _ tT tT.idx scv sbv ws hsh)
                      rw [hasS_self, HBT.out] at HH1
                      have HH2 := Lib.hid (ShHas_any gsT _ tT (tT.idx + 1) scv sbv ws hsh)
                      rw [hasS_up] at HH2
                      clear hbs c0 c1 c2 c3 cz hsh
                      obtain ⟨c0, c1, c2, c3, -, -, -, -, cz⟩ := sh_four HL5.out
                      obtain ⟨hti1, hti2⟩ := HTI.out
                      go_wp2_with fail
                      refine HH1.out.mono ?_
                      rintro e wh ⟨rfl, rfl⟩
                      go_wp2_with fail
                      refine HH2.out.mono ?_
                      rintro e wh ⟨rfl, rfl⟩
                      clear c0 c1 c2 c3 cz hti1 hti2
                      go_wp2_with fail
                      refine (Disks6_any dT XT YT gd gr wh HAV.out.s.ds.dsk HAV.out.q.dsk HAV.out.s.ds.well (by have := HUT.out; have := H40.out; have := HLT.out; omega)).mono ?_
                      rintro e wd ⟨rfl, hbd⟩
                      have HAW := Lib.hid (HAV.out.next hbd).1
                      clear hbd
                      go_wp2_with fail
                      go_roundw
                      case rel => exact ⟨k + 1, gsT, XT, YT, dT, tT, bT, by have := HLT.out; omega, by go_num, rfl, rfl, HBT, Lib.hid ⟨HAW.out, HTI.out, HTZ.out, HUT.out⟩⟩
                      case measure => have := HLT.out; simp [intOf]; omega
      · have hkk : ¬ (k : Int) < (acts.length : Int) := by omega
        go_wp2_with fail
        go_ret
        exact ⟨rfl, HBW.out⟩
end Go.Proofs.YtbcpcopapbgcdaaGreatDoor.M
