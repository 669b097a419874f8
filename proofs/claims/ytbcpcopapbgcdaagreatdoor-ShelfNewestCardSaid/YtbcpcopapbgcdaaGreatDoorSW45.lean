/- The document's shelf: there, Put. The document's shelf: Clean. -/
import Derived.Test.YtbcpcopapbgcdaaGreatDoorSW42
import Derived.Test.YtbcpcopapbgcdaaGreatDoorSW44
import Derived.Test.YtbcpcopapbgcdaaGreatDoorSW30
/- Part: ShR8. -/
namespace Go.Proofs.YtbcpcopapbgcdaaGreatDoor.M
open Go.RowKit
open D (Fl Dk)

set_option maxRecDepth 20000 in
set_option maxHeartbeats 800000 in
theorem RefThere6_any (d : Dk) (X : Nat → Prop) (gd : Nat) (s : ByteArray) (w : World) (hd : Dsk w X gd d) :
    Calls Tryz.prog 79 #[.pointer (some ⟨gd, 0, none⟩), .string s] w fun e w' => e = .returned (.bool (D.isThere d.fs s)) ∧ w = w' := by
  obtain ⟨vl, fv, hat⟩ := hd
  obtain ⟨-, ⟨-, c1, -, -⟩, -, hz, -, -⟩ := hat.cells
  obtain ⟨va, vc, rfl⟩ := owned_slice hat.row
  have hfl : (fv.length : Int) ≤ 9223372036854775807 := by have := hat.len.1; omega
  have HLN := Lib.hid hat.len.2
  have HAT := Lib.hid hat
  clear hat
  go_enter Tryz.func79, Tryz.ntmps79
  go_wp2_with fail
  go_loop [5] (fun i => ∃ k : Nat, k ≤ fv.length ∧ i = .int .i64 (k : Int) ∧ Hid (k ≤ D.find d.fs s)) (fun i => fv.length - (intOf i).toNat)
  case atStart => exact ⟨0, Nat.zero_le _, rfl, Lib.hid (Nat.zero_le _)⟩
  case round =>
    obtain ⟨k, hk, rfl, HR⟩ := hrel
    by_cases hlt : k < fv.length
    · have hkk : (k : Int) < (fv.length : Int) := by omega
      obtain ⟨ga, c, hv, -, -, hgz, -, -, e0, -, -, -⟩ := HAT.out.file k hlt
      cases hv
      have hkd : k < d.fs.length := by have := HLN.out; omega
      have hgt := HAT.out.get k hlt hkd
      obtain ⟨nm, hnm⟩ : ∃ nm, nm = fv[k].1.nm := ⟨_, rfl⟩
      rw [← hnm] at e0
      by_cases heq : (nm.toList == s.toList) = true
      · have HE : Hid (D.isThere d.fs s = true) := Lib.hid (by
          have := D.find_hit d.fs s k hkd HR.out (by rw [← hgt, ← hnm]; exact heq)
          unfold D.isThere
          rw [this]
          exact decide_eq_true hkd)
        clear hgt hnm
        go_wp2_with fail
        go_ret
        exact ⟨by rw [HE.out]; rfl, rfl⟩
      · have heq : (nm.toList == s.toList) = false := by simpa using heq
        have HE : Hid (k + 1 ≤ D.find d.fs s) := Lib.hid (D.find_next d.fs s k hkd HR.out (by rw [← hgt, ← hnm]; exact heq))
        clear hgt hnm
        go_wp2_with fail
        go_round
        case rel => exact ⟨k + 1, by omega, by go_num, HE⟩
        case measure => simp [intOf]; omega
    · have hkk : ¬ (k : Int) < (fv.length : Int) := by omega
      have HE : Hid (D.isThere d.fs s = false) := Lib.hid (by
        unfold D.isThere
        exact decide_eq_false (by have := HR.out; have := HLN.out; omega))
      go_wp2_with fail
      go_ret
      exact ⟨by rw [HE.out]; rfl, rfl⟩

theorem QPost.after {w : World} {X X1 : Nat → Prop} {gd : Nat} {wr w1 : World} {r : Int × Dk} {e : Ending} {w' : World} (ho : Only X wr w1) (hX : ∀ k, X1 k → X k ∨ wr.heap.size ≤ k) (hp : QPost w X1 gd w1 r e w') : QPost w X gd wr r e w' := by
  obtain ⟨he, h1, X', h2, h3⟩ := hp
  refine ⟨he, ho.thn hX h1, X', fun k hk => ?_, h3⟩
  rcases h2 k hk with h | h
  · exact hX k h
  · exact .inr (Nat.le_trans ho.size h)

theorem QS.told {w wr : World} {X : Nat → Prop} {gd : Nat} {d : Dk} (h : QS w X gd d wr) {L : List UInt8} {v : Value} (hv : RepB wr (fun k => k < wr.heap.size ∧ ¬ X k) L v) (t : TypeId) {W : World} (hW : W = wr.alloc (.cells #[v] t)) :
    QS w X gd d W ∧ RepBl W (fun b => (b < wr.heap.size ∧ ¬ X b) ∨ b = wr.heap.size) [L] (.slice (some ⟨wr.heap.size, 0, none⟩) 1 1) ∧ ∀ k, ((k < wr.heap.size ∧ ¬ X k) ∨ k = wr.heap.size) → k < W.heap.size ∧ ¬ X k := by
  subst hW
  refine ⟨h.next (below_alloc _ _), RepBl.one hv rfl (fun k hk => hk.1), fun k hk => ⟨by rcases hk with hk | hk <;> (simp; omega), fun hx => by
    have := h.lt k hx
    rcases hk with hk | hk
    · exact hk.2 hx
    · omega⟩⟩

theorem QS.names {w wr : World} {X : Nat → Prop} {gd : Nat} {d : Dk} (h : QS w X gd d wr) (ls : List ByteArray) (n : Nat) (hn : n = ls.length) (hl : ls.length ≤ 9223372036854775807) (t : TypeId) {W : World} (hW : W = wr.alloc (.cells (ls.map Value.string).toArray t)) :
    QS w X gd d W ∧ RepSl W (fun b => b = wr.heap.size) ls (.slice (some ⟨wr.heap.size, 0, none⟩) n n) ∧ ∀ k, k = wr.heap.size → k < W.heap.size ∧ ¬ X k := by
  subst hW
  exact ⟨h.next (below_alloc _ _), RepSl.new rfl hn hl, fun k hk => ⟨by rw [hk]; simp, fun hx => by have := h.lt k hx; omega⟩⟩


set_option maxRecDepth 20000 in
set_option maxHeartbeats 6400000 in
theorem RefPut6_any (d : Dk) (Y : Nat → Prop) (gr : Nat) (top x : Sn) (tc tb cv bv : Value) (w wr : World) (hq : QS w Y gr d wr) (htc : RepB wr (fun k => k < wr.heap.size ∧ ¬ Y k) top.conf tc) (htb : RepB wr (fun k => k < wr.heap.size ∧ ¬ Y k) top.body tb)
    (hxc : RepB wr (fun k => k < wr.heap.size ∧ ¬ Y k) x.conf cv) (hxb : RepB wr (fun k => k < wr.heap.size ∧ ¬ Y k) x.body bv) (hu : D.used d.fs ≤ 1000000000) (hl : x.conf.length + x.body.length ≤ 1000000000) :
    Calls Tryz.prog 30 #[.pointer (some ⟨gr, 0, none⟩), snAgg top tc tb, .bool (decide (top.idx ≠ 0)), snAgg x cv bv] wr (QPost w Y gr wr (putS d top x)) := by
  have HQ := Lib.hid hq
  obtain ⟨V, hV⟩ : ∃ V, V = (wr.alloc (.cells #[.int .i64 top.idx, .int .i64 top.term, tc, tb] 53)).alloc (.cells #[.int .i64 x.idx, .int .i64 x.term, cv, bv] 53) := ⟨_, rfl⟩
  have HBV : Hid (Below wr.heap.size wr V) := Lib.hid (by rw [hV]; exact ((Below.refl _ wr).alloc (Nat.le_refl _) _).alloc (by simp) _)
  have HV0 : Hid (V.heap[wr.heap.size]? = some (.cells #[.int .i64 top.idx, .int .i64 top.term, tc, tb] 53)) := Lib.hid (by rw [hV]; exact old_alloc (heap_new _ _ _ rfl))
  have HV1 : Hid (V.heap[wr.heap.size + 1]? = some (.cells #[.int .i64 x.idx, .int .i64 x.term, cv, bv] 53)) := Lib.hid (by rw [hV]; exact heap_new _ _ _ (by simp))
  have HXC0 := Lib.hid hxc
  have HXB0 := Lib.hid hxb
  have HXL := Lib.hid hl
  have HUU := Lib.hid hu
  obtain ⟨tca, tcc, rfl, -⟩ := htc.slice
  obtain ⟨tba, tbc, rfl, -⟩ := htb.slice
  obtain ⟨cva, cvc, rfl, -⟩ := hxc.slice
  obtain ⟨bva, bvc, rfl, -⟩ := hxb.slice
  unfold snAgg
  have HV := Lib.hid hV
  clear htc htb hxc hxb hq hl hu hV
  obtain ⟨x0, x1, x2, x3, -, -, -, -, xz⟩ := sh_four HV1.out
  cases hok : okSn (x.idx, x.term) with
  | false =>
    have HE : Hid (putS d top x = (2, d)) := Lib.hid (by unfold putS; rw [if_pos (.inl hok)])
    have HC : Hid (∀ wx, Calls Tryz.prog 27 #[.agg #[.int .i64 x.idx, .int .i64 x.term]] wx fun e w' => e = .returned (.bool false) ∧ Below wx.heap.size wx w') := Lib.hid fun wx => by rw [← hok]; exact RefRight6_any x.idx x.term wx
    clear hok
    go_enter Tryz.func30, Tryz.ntmps30
    go_wp2_with fail
    rw [← HV.out]
    refine (HC.out V).mono ?_
    rintro e W ⟨rfl, hb0⟩
    have hbw : Below wr.heap.size wr W := HBV.out.trans (hb0.mono HBV.out.size)
    have HEND : Hid (QPost w Y gr wr (putS d top x) (.returned (.int .i64 2)) W) := Lib.hid (by rw [HE.out]; exact ⟨rfl, Only.of_below hbw, Y, fun k hk => .inl hk, HQ.out.next hbw⟩)
    clear x0 x1 x2 x3 xz hb0 hbw
    go_wp2_with fail
    go_ret
    exact HEND.out
  | true =>
    have HOK := Lib.hid hok
    have HC : Hid (∀ wx, Calls Tryz.prog 27 #[.agg #[.int .i64 x.idx, .int .i64 x.term]] wx fun e w' => e = .returned (.bool true) ∧ Below wx.heap.size wx w') := Lib.hid fun wx => by rw [← hok]; exact RefRight6_any x.idx x.term wx
    clear hok
    by_cases hh : top.idx ≠ 0 ∧ x.idx ≤ top.idx
    · have HE : Hid (putS d top x = (2, d)) := Lib.hid (by unfold putS; rw [if_pos (.inr (by unfold hasS; exact decide_eq_true hh))])
      have p1 : decide (top.idx ≠ 0) = true := decide_eq_true hh.1
      have p2 := hh.2
      rw [p1]
      clear hh p1
      go_enter Tryz.func30, Tryz.ntmps30
      go_wp2_with fail
      rw [← HV.out]
      refine (HC.out V).mono ?_
      rintro e W ⟨rfl, hb0⟩
      have hbw : Below wr.heap.size wr W := HBV.out.trans (hb0.mono HBV.out.size)
      have HEND : Hid (QPost w Y gr wr (putS d top x) (.returned (.int .i64 2)) W) := Lib.hid (by rw [HE.out]; exact ⟨rfl, Only.of_below hbw, Y, fun k hk => .inl hk, HQ.out.next hbw⟩)
      clear x0 x1 x2 x3 xz hbw
      obtain ⟨x0, x1, x2, x3, -, -, -, -, xz⟩ := sh_four (old_below HV1.out hb0)
      obtain ⟨y0, y1, y2, y3, -, -, -, -, yz⟩ := sh_four (old_below HV0.out hb0)
      clear hb0
      go_wp2_with fail
      go_ret
      exact HEND.out
    · have HPS : Hid (putS d top x = writeF d (snName x.idx) (snBytes x)) := Lib.hid (by
        unfold putS
        rw [if_neg]
        rintro (h | h)
        · rw [HOK.out] at h; cases h
        · unfold hasS at h
          exact hh (of_decide_eq_true h))
      obtain ⟨hs, hhs⟩ : ∃ b, b = decide (top.idx ≠ 0) := ⟨_, rfl⟩
      have hcase : hs = false ∨ (hs = true ∧ decide (x.idx ≤ top.idx) = false) := by
        by_cases h0 : top.idx = 0
        · left; rw [hhs]; simp [h0]
        · right
          refine ⟨by rw [hhs]; simp [h0], decide_eq_false fun h => hh ⟨h0, h⟩⟩
      rw [← hhs]
      clear hh hhs
      have HNMC : Hid (∀ w5, Calls Tryz.prog 44 #[.int .i64 x.idx] w5 fun e w' => e = .returned (.string (snName x.idx)) ∧ w' = w5) := Lib.hid fun w5 => by
        have h := okSn_iff.1 HOK.out
        simp only at h
        obtain ⟨n, hn⟩ := Int.eq_ofNat_of_zero_le (show 0 ≤ x.idx by omega)
        rw [hn]
        exact RefName6_any n w5 (by omega)
      go_enter Tryz.func30, Tryz.ntmps30
      go_wp2_with fail
      rw [← HV.out]
      refine (HC.out V).mono ?_
      rintro e W ⟨rfl, hb0⟩
      have hbw : Below wr.heap.size wr W := HBV.out.trans (hb0.mono HBV.out.size)
      have HOW : Hid (Only Y wr W) := Lib.hid (Only.of_below hbw)
      have HYS : Hid (∀ k, Y k → Y k ∨ wr.heap.size ≤ k) := Lib.hid fun k hk => .inl hk
      have HUP : Hid (∀ k, (Y k ∨ W.heap.size ≤ k) → Y k ∨ wr.heap.size ≤ k) := Lib.hid fun k hk => hk.imp id fun h => Nat.le_trans hbw.size h
      have HXO : Hid (∀ w1, Only Y W w1 → _) := Lib.hid fun w1 (ho : Only Y W w1) => sh_four ((ho.block (wr.heap.size + 1) (Nat.lt_of_lt_of_le (lt_of_heap HV1.out) hb0.size) (fun hy => by have := HQ.out.lt _ hy; omega)).trans (old_below HV1.out hb0))
      have HXC : Hid (∀ w1 (X1 : Nat → Prop), Only Y W w1 → (∀ k, X1 k → Y k ∨ W.heap.size ≤ k) → RepB w1 (fun k => k < w1.heap.size ∧ ¬ X1 k) x.conf (.slice cva x.conf.length cvc)) := Lib.hid fun w1 X1 ho hX => HXC0.out.same (fun k hk => ⟨Nat.lt_of_lt_of_le hk.1 (Nat.le_trans hbw.size ho.size), fun hx => by
        rcases hX k hx with h | h
        · exact hk.2 h
        · have := hbw.size; omega⟩) fun k hk => (ho.block k (Nat.lt_of_lt_of_le hk.1 hbw.size) hk.2).trans (hbw.block k hk.1)
      have HXB : Hid (∀ w1 (X1 : Nat → Prop), Only Y W w1 → (∀ k, X1 k → Y k ∨ W.heap.size ≤ k) → RepB w1 (fun k => k < w1.heap.size ∧ ¬ X1 k) x.body (.slice bva x.body.length bvc)) := Lib.hid fun w1 X1 ho hX => HXB0.out.same (fun k hk => ⟨Nat.lt_of_lt_of_le hk.1 (Nat.le_trans hbw.size ho.size), fun hx => by
        rcases hX k hx with h | h
        · exact hk.2 h
        · have := hbw.size; omega⟩) fun k hk => (ho.block k (Nat.lt_of_lt_of_le hk.1 hbw.size) hk.2).trans (hbw.block k hk.1)
      have HQW := Lib.hid (HQ.out.next hbw)
      clear x0 x1 x2 x3 xz hbw
      obtain ⟨x0, x1, x2, x3, -, -, -, -, xz⟩ := sh_four (old_below HV1.out hb0)
      obtain ⟨y0, y1, y2, y3, -, -, -, -, yz⟩ := sh_four (old_below HV0.out hb0)
      clear hb0
      rcases hcase with rfl | ⟨rfl, p2⟩
      all_goals
        go_wp2_with fail
        refine (RefThere6_any d Y gr nmNew W HQW.out.dsk.1).mono ?_
        rintro e W' ⟨rfl, rfl⟩
        clear x0 x1 x2 x3 xz y0 y1 y2 y3 yz
        cases hth : D.isThere d.fs nmNew with
        | false =>
          have HSV : Hid (∀ S, saveF d nmNew S = if (D.append d nmNew [S]).1 ≠ 0 then D.append d nmNew [S] else D.sync (D.append d nmNew [S]).2 [nmNew]) := Lib.hid fun S => by
            unfold saveF
            rw [hth]
            rfl
          obtain ⟨d1, hd1⟩ : ∃ d1, d1 = d := ⟨_, rfl⟩
          obtain ⟨w1, hw1⟩ : ∃ w1, w1 = W := ⟨_, rfl⟩
          obtain ⟨X1, hX1⟩ : ∃ X1, X1 = Y := ⟨_, rfl⟩
          have HQ1 : Hid (QS w X1 gr d1 w1) := Lib.hid (by rw [hd1, hw1, hX1]; exact HQW.out)
          have HO1 : Hid (Only Y W w1) := Lib.hid (by rw [hw1]; exact ⟨rfl, rfl, rfl, Nat.le_refl _, fun _ _ _ => rfl⟩)
          have HXS1 : Hid (∀ k, X1 k → Y k ∨ W.heap.size ≤ k) := Lib.hid fun k hk => .inl (by rw [← hX1]; exact hk)
          have HU : Hid (D.used d1.fs ≤ 1000000000) := Lib.hid (by rw [hd1]; exact HUU.out)
          have HSV : Hid (∀ S, saveF d nmNew S = if (D.append d1 nmNew [S]).1 ≠ 0 then D.append d1 nmNew [S] else D.sync (D.append d1 nmNew [S]).2 [nmNew]) := Lib.hid (by rw [hd1]; exact HSV.out)
          rw [← hw1]
          clear hth hd1 hw1 hX1
          obtain ⟨x0, x1, x2, x3, -, -, -, -, xz⟩ := HXO.out w1 HO1.out
          go_wp2_with fail
          refine (RefBytes6_any x (.slice cva x.conf.length cvc) (.slice bva x.body.length bvc) (fun k => k < w1.heap.size ∧ ¬ X1 k) w1 HOK.out (HXC.out w1 X1 HO1.out HXS1.out) (HXB.out w1 X1 HO1.out HXS1.out) (fun k hk => hk.1) HXL.out).mono ?_
          rintro e w2 ⟨u2, rfl, hown2⟩
          obtain ⟨S, hS⟩ : ∃ S, S = snBytes x := ⟨_, rfl⟩
          rw [← hS] at hown2
          obtain ⟨a2, k2, rfl⟩ := hown2.slice
          have HS := Lib.hid hS
          have HQ2 := Lib.hid (HQ1.out.next hown2.1)
          have HO2 : Hid (Only Y W w2) := Lib.hid (HO1.out.next hown2.1)
          have HV2 : Hid (RepB w2 (fun k => k < w2.heap.size ∧ ¬ X1 k) S (.slice a2 S.length k2)) := Lib.hid (hown2.rep.weak fun k hk => ⟨hk.2, fun hx => by have := HQ1.out.lt k hx; omega⟩)
          have HSL : Hid (S.length ≤ 1000001000) := Lib.hid (by rw [hS]; have := snBytes_le x; have := HXL.out; omega)
          clear hown2 hS x0 x1 x2 x3 xz
          go_wp2_with fail
          obtain ⟨t1, t2, t3⟩ := HQ2.out.told HV2.out 34 rfl
          refine (QAppend t1 nmNew [S] _ _ (by decide) t2 t3 (by have h1 := HU.out; have h2 := HSL.out; simp; omega)).mono ?_
          rintro e w4 ⟨rfl, ho4, X4, hx4, h4⟩
          have HXS4 : Hid (∀ k, X4 k → Y k ∨ W.heap.size ≤ k) := Lib.hid fun k hk => by
            rcases hx4 k hk with h | h
            · exact HXS1.out k h
            · have h5 := HO2.out.size
              simp only [World.size_alloc] at h
              exact .inr (by omega)
          have HO4 : Hid (Only Y W w4) := Lib.hid ((HO2.out.next (below_alloc _ _)).thn HXS1.out ho4)
          obtain ⟨r, hr⟩ : ∃ r, r = D.append d1 nmNew [S] := ⟨_, rfl⟩
          rw [← hr] at h4 ⊢
          have HR4 := Lib.hid hr
          clear t1 t2 t3 ho4 hx4 hr
          obtain ⟨r1, d2⟩ := r
          have HD4 := Lib.hid h4
          simp only
          clear h4
          by_cases hr0 : r1 = 0
          case neg =>
            have q1 : (r1 != 0) = true := by simpa using hr0
            have HWR : Hid (putS d top x = (r1, d2)) := Lib.hid (by rw [HPS.out, ← HS.out]; unfold writeF; rw [HSV.out S, ← HR4.out]; simp only; rw [if_pos hr0]; exact if_pos hr0)
            clear hr0
            go_wp2_with fail
            go_ret
            rw [HWR.out]
            exact ⟨rfl, HOW.out.thn HYS.out HO4.out, X4, fun k hk => HUP.out k (HXS4.out k hk), HD4.out⟩
          subst hr0
          go_wp2_with fail
          obtain ⟨t1, t2, t3⟩ := HD4.out.names [nmNew] 1 rfl (by simp) 9 rfl
          refine (QSync t1 [nmNew] _ _ t2 t3).mono ?_
          rintro e w5 ⟨rfl, ho5, X5, hx5, h5⟩
          have HXS5 : Hid (∀ k, X5 k → Y k ∨ W.heap.size ≤ k) := Lib.hid fun k hk => by
            rcases hx5 k hk with h | h
            · exact HXS4.out k h
            · have h5 := HO4.out.size
              simp only [World.size_alloc] at h
              exact .inr (by omega)
          have HO5 : Hid (Only Y W w5) := Lib.hid ((HO4.out.next (below_alloc _ _)).thn HXS4.out ho5)
          obtain ⟨r, hr⟩ : ∃ r, r = D.sync d2 [nmNew] := ⟨_, rfl⟩
          rw [← hr] at h5 ⊢
          have HR5 := Lib.hid hr
          clear t1 t2 t3 ho5 hx5 hr
          obtain ⟨r1, d3⟩ := r
          have HD5 := Lib.hid h5
          simp only
          clear h5
          have HSF2 : Hid (saveF d nmNew S = (r1, d3)) := Lib.hid (by rw [HSV.out S, ← HR4.out]; simp only; rw [if_neg (by simp), ← HR5.out])
          by_cases hr0 : r1 = 0
          case neg =>
            have q1 : (r1 != 0) = true := by simpa using hr0
            have HWR : Hid (putS d top x = (r1, d3)) := Lib.hid (by rw [HPS.out, ← HS.out]; unfold writeF; rw [HSF2.out]; exact if_pos hr0)
            clear hr0
            go_wp2_with fail
            go_ret
            rw [HWR.out]
            exact ⟨rfl, HOW.out.thn HYS.out HO5.out, X5, fun k hk => HUP.out k (HXS5.out k hk), HD5.out⟩
          subst hr0
          have HWR : Hid (putS d top x = D.rename d3 nmNew (snName x.idx)) := Lib.hid (by rw [HPS.out, ← HS.out]; unfold writeF; rw [HSF2.out]; rfl)
          obtain ⟨x0, x1, x2, x3, -, -, -, -, xz⟩ := HXO.out w5 HO5.out
          go_wp2_with fail
          refine (HNMC.out w5).mono ?_
          rintro e w6 ⟨rfl, rfl⟩
          go_wp2_with fail
          refine (QRename HD5.out nmNew (snName x.idx) (by rw [snName_size]; omega)).mono ?_
          intro e w7 hp7
          rw [← HWR.out] at hp7
          have HP7 := Lib.hid (QPost.after (HOW.out.thn HYS.out HO5.out) (fun k hk => HUP.out k (HXS5.out k hk)) hp7)
          have he := HP7.out.1
          subst he
          clear hp7 x0 x1 x2 x3 xz
          go_wp2_with fail
          go_ret
          exact HP7.out
        | true =>
          have HSV0 : Hid (∀ S, saveF d nmNew S = if (D.remove d [nmNew]).1 ≠ 0 then D.remove d [nmNew] else if (D.append (D.remove d [nmNew]).2 nmNew [S]).1 ≠ 0 then D.append (D.remove d [nmNew]).2 nmNew [S] else D.sync (D.append (D.remove d [nmNew]).2 nmNew [S]).2 [nmNew]) := Lib.hid fun S => by
            unfold saveF
            rw [hth]
            rfl
          have HUR : Hid (D.used (D.remove d [nmNew]).2.fs ≤ 1000000000) := Lib.hid (Nat.le_trans (remove_well HQ.out.well [nmNew]).2 HUU.out)
          clear hth
          go_wp2_with fail
          obtain ⟨t1, t2, t3⟩ := HQW.out.names [nmNew] 1 rfl (by simp) 9 rfl
          refine (QRemove t1 [nmNew] _ _ t2 t3).mono ?_
          rintro e w1 ⟨rfl, ho1, X1, hx1, h1⟩
          obtain ⟨r, hr⟩ : ∃ r, r = D.remove d [nmNew] := ⟨_, rfl⟩
          rw [← hr] at HSV0 HUR h1 ⊢
          have HXS1 : Hid (∀ k, X1 k → Y k ∨ W.heap.size ≤ k) := Lib.hid fun k hk => by
            rcases hx1 k hk with h | h
            · exact .inl h
            · simp only [World.size_alloc] at h
              exact .inr (by omega)
          have HO1 : Hid (Only Y W w1) := Lib.hid ((Only.of_below (below_alloc W _)).thn (fun k hk => .inl hk) ho1)
          clear t1 t2 t3 ho1 hx1 hr
          obtain ⟨r1, d1⟩ := r
          have HQ1 := Lib.hid h1
          have HU : Hid (D.used d1.fs ≤ 1000000000) := HUR
          simp only
          clear h1
          by_cases hr0 : r1 = 0
          case neg =>
            have q1 : (r1 != 0) = true := by simpa using hr0
            have HWR : Hid (putS d top x = (r1, d1)) := Lib.hid (by rw [HPS.out]; unfold writeF; rw [HSV0.out]; simp only; rw [if_pos hr0]; exact if_pos hr0)
            clear hr0
            go_wp2_with fail
            go_ret
            rw [HWR.out]
            exact ⟨rfl, HOW.out.thn HYS.out HO1.out, X1, fun k hk => HUP.out k (HXS1.out k hk), HQ1.out⟩
          subst hr0
          have HSV : Hid (∀ S, saveF d nmNew S = if (D.append d1 nmNew [S]).1 ≠ 0 then D.append d1 nmNew [S] else D.sync (D.append d1 nmNew [S]).2 [nmNew]) := Lib.hid fun S => by
            rw [HSV0.out S]
            simp only
            rw [if_neg (by simp)]
          clear HSV0
          obtain ⟨x0, x1, x2, x3, -, -, -, -, xz⟩ := HXO.out w1 HO1.out
          go_wp2_with fail
          refine (RefBytes6_any x (.slice cva x.conf.length cvc) (.slice bva x.body.length bvc) (fun k => k < w1.heap.size ∧ ¬ X1 k) w1 HOK.out (HXC.out w1 X1 HO1.out HXS1.out) (HXB.out w1 X1 HO1.out HXS1.out) (fun k hk => hk.1) HXL.out).mono ?_
          rintro e w2 ⟨u2, rfl, hown2⟩
          obtain ⟨S, hS⟩ : ∃ S, S = snBytes x := ⟨_, rfl⟩
          rw [← hS] at hown2
          obtain ⟨a2, k2, rfl⟩ := hown2.slice
          have HS := Lib.hid hS
          have HQ2 := Lib.hid (HQ1.out.next hown2.1)
          have HO2 : Hid (Only Y W w2) := Lib.hid (HO1.out.next hown2.1)
          have HV2 : Hid (RepB w2 (fun k => k < w2.heap.size ∧ ¬ X1 k) S (.slice a2 S.length k2)) := Lib.hid (hown2.rep.weak fun k hk => ⟨hk.2, fun hx => by have := HQ1.out.lt k hx; omega⟩)
          have HSL : Hid (S.length ≤ 1000001000) := Lib.hid (by rw [hS]; have := snBytes_le x; have := HXL.out; omega)
          clear hown2 hS x0 x1 x2 x3 xz
          go_wp2_with fail
          obtain ⟨t1, t2, t3⟩ := HQ2.out.told HV2.out 34 rfl
          refine (QAppend t1 nmNew [S] _ _ (by decide) t2 t3 (by have h1 := HU.out; have h2 := HSL.out; simp; omega)).mono ?_
          rintro e w4 ⟨rfl, ho4, X4, hx4, h4⟩
          have HXS4 : Hid (∀ k, X4 k → Y k ∨ W.heap.size ≤ k) := Lib.hid fun k hk => by
            rcases hx4 k hk with h | h
            · exact HXS1.out k h
            · have h5 := HO2.out.size
              simp only [World.size_alloc] at h
              exact .inr (by omega)
          have HO4 : Hid (Only Y W w4) := Lib.hid ((HO2.out.next (below_alloc _ _)).thn HXS1.out ho4)
          obtain ⟨r, hr⟩ : ∃ r, r = D.append d1 nmNew [S] := ⟨_, rfl⟩
          rw [← hr] at h4 ⊢
          have HR4 := Lib.hid hr
          clear t1 t2 t3 ho4 hx4 hr
          obtain ⟨r1, d2⟩ := r
          have HD4 := Lib.hid h4
          simp only
          clear h4
          by_cases hr0 : r1 = 0
          case neg =>
            have q1 : (r1 != 0) = true := by simpa using hr0
            have HWR : Hid (putS d top x = (r1, d2)) := Lib.hid (by rw [HPS.out, ← HS.out]; unfold writeF; rw [HSV.out S, ← HR4.out]; simp only; rw [if_pos hr0]; exact if_pos hr0)
            clear hr0
            go_wp2_with fail
            go_ret
            rw [HWR.out]
            exact ⟨rfl, HOW.out.thn HYS.out HO4.out, X4, fun k hk => HUP.out k (HXS4.out k hk), HD4.out⟩
          subst hr0
          go_wp2_with fail
          obtain ⟨t1, t2, t3⟩ := HD4.out.names [nmNew] 1 rfl (by simp) 9 rfl
          refine (QSync t1 [nmNew] _ _ t2 t3).mono ?_
          rintro e w5 ⟨rfl, ho5, X5, hx5, h5⟩
          have HXS5 : Hid (∀ k, X5 k → Y k ∨ W.heap.size ≤ k) := Lib.hid fun k hk => by
            rcases hx5 k hk with h | h
            · exact HXS4.out k h
            · have h5 := HO4.out.size
              simp only [World.size_alloc] at h
              exact .inr (by omega)
          have HO5 : Hid (Only Y W w5) := Lib.hid ((HO4.out.next (below_alloc _ _)).thn HXS4.out ho5)
          obtain ⟨r, hr⟩ : ∃ r, r = D.sync d2 [nmNew] := ⟨_, rfl⟩
          rw [← hr] at h5 ⊢
          have HR5 := Lib.hid hr
          clear t1 t2 t3 ho5 hx5 hr
          obtain ⟨r1, d3⟩ := r
          have HD5 := Lib.hid h5
          simp only
          clear h5
          have HSF2 : Hid (saveF d nmNew S = (r1, d3)) := Lib.hid (by rw [HSV.out S, ← HR4.out]; simp only; rw [if_neg (by simp), ← HR5.out])
          by_cases hr0 : r1 = 0
          case neg =>
            have q1 : (r1 != 0) = true := by simpa using hr0
            have HWR : Hid (putS d top x = (r1, d3)) := Lib.hid (by rw [HPS.out, ← HS.out]; unfold writeF; rw [HSF2.out]; exact if_pos hr0)
            clear hr0
            go_wp2_with fail
            go_ret
            rw [HWR.out]
            exact ⟨rfl, HOW.out.thn HYS.out HO5.out, X5, fun k hk => HUP.out k (HXS5.out k hk), HD5.out⟩
          subst hr0
          have HWR : Hid (putS d top x = D.rename d3 nmNew (snName x.idx)) := Lib.hid (by rw [HPS.out, ← HS.out]; unfold writeF; rw [HSF2.out]; rfl)
          obtain ⟨x0, x1, x2, x3, -, -, -, -, xz⟩ := HXO.out w5 HO5.out
          go_wp2_with fail
          refine (HNMC.out w5).mono ?_
          rintro e w6 ⟨rfl, rfl⟩
          go_wp2_with fail
          refine (QRename HD5.out nmNew (snName x.idx) (by rw [snName_size]; omega)).mono ?_
          intro e w7 hp7
          rw [← HWR.out] at hp7
          have HP7 := Lib.hid (QPost.after (HOW.out.thn HYS.out HO5.out) (fun k hk => HUP.out k (HXS5.out k hk)) hp7)
          have he := HP7.out.1
          subst he
          clear hp7 x0 x1 x2 x3 xz
          go_wp2_with fail
          go_ret
          exact HP7.out
end Go.Proofs.YtbcpcopapbgcdaaGreatDoor.M

/- Part: ShR9. -/
namespace Go.Proofs.YtbcpcopapbgcdaaGreatDoor.M
open Go.RowKit
open D (Fl Dk)

theorem names_next {fs : List Fl} {t : Int} {k : Nat} (h : k < fs.length) : ((fs.take (k + 1)).map (·.nm)).filter (elder t) = ((fs.take k).map (·.nm)).filter (elder t) ++ (if elder t fs[k].nm then [fs[k].nm] else []) := by
  rw [List.take_succ_eq_append_getElem h, List.map_append, List.filter_append]
  congr 1
  simp only [List.map_cons, List.map_nil, List.filter_cons, List.filter_nil]

theorem elder_idx (t : Int) (s : ByteArray) : elder t s = decide (0 ≤ idxN s ∧ idxN s < t) := by
  unfold elder
  cases h : snIdx s with
  | none => rw [idxN_none h]; rfl
  | some n =>
    rw [idxN_some h]
    simp only
    congr 1
    exact propext ⟨fun h => ⟨by omega, h⟩, fun h => h.2⟩

def clean2 (d : Dk) (l : List ByteArray) : Int × Dk := thenDrop (removeEach d l)

theorem clean2_nil (d : Dk) : clean2 d [] = dropNew d := by
  unfold clean2
  show thenDrop (0, d) = _
  unfold thenDrop
  rw [if_neg (by simp)]

theorem clean2_cons (d : Dk) (s : ByteArray) (l : List ByteArray) : clean2 d (s :: l) = if (D.remove d [s]).1 ≠ 0 then D.remove d [s] else clean2 (D.remove d [s]).2 l := by
  unfold clean2
  show thenDrop (if (D.remove d [s]).1 ≠ 0 then D.remove d [s] else removeEach (D.remove d [s]).2 l) = _
  by_cases h0 : (D.remove d [s]).1 ≠ 0
  · rw [if_pos h0, if_pos h0]
    unfold thenDrop
    rw [if_pos h0]
  · rw [if_neg h0, if_neg h0]

set_option maxRecDepth 20000 in
set_option maxHeartbeats 6400000 in
theorem RefClean6_any (d : Dk) (Y : Nat → Prop) (gr : Nat) (top : Sn) (tc tb : Value) (w wr0 : World) (hq : QS w Y gr d wr0) (htc : ∃ a n c, tc = .slice a n c) (htb : ∃ a n c, tb = .slice a n c) (hnm : ∀ f ∈ d.fs, f.nm.size ≤ 9223372036854775807) :
    Calls Tryz.prog 33 #[.pointer (some ⟨gr, 0, none⟩), snAgg top tc tb, .bool (decide (top.idx ≠ 0))] wr0 (QPost w Y gr wr0 (cleanS d top.idx)) := by
  obtain ⟨tca, tcn, tcc, rfl⟩ := htc
  obtain ⟨tba, tbn, tbc, rfl⟩ := htb
  have HQ := Lib.hid hq
  have hfine := hq.well.1.1
  obtain ⟨⟨vl, fv, hat⟩, hXz⟩ := hq.dsk
  obtain ⟨-, ⟨-, c1, -, -⟩, -, hz, -, -⟩ := hat.cells
  obtain ⟨va, vc, rfl⟩ := owned_slice hat.row
  obtain ⟨W, hW⟩ : ∃ W, W = wr0.alloc (.cells #[.int .i64 top.idx, .int .i64 top.term, .slice tca tcn tcc, .slice tba tbn tbc] 53) := ⟨_, rfl⟩
  have HB : Hid (Below wr0.heap.size wr0 W) := Lib.hid (by rw [hW]; exact below_alloc _ _)
  have HX : Hid (W.heap[wr0.heap.size]? = some (.cells #[.int .i64 top.idx, .int .i64 top.term, .slice tca tcn tcc, .slice tba tbn tbc] 53)) := Lib.hid (by rw [hW]; exact heap_new _ _ _ rfl)
  have hfl : (fv.length : Int) ≤ 9223372036854775807 := by have := hat.len.1; omega
  have HLN := Lib.hid hat.len.2
  have HAT := Lib.hid hat
  have HW := Lib.hid hW
  have HNM := Lib.hid hnm
  have HF4 : Hid (fv.length ≤ 4096) := Lib.hid (by have := hfine.1; have := hat.len.2; omega)
  have E1 : Hid (∀ wr : World, Below W.heap.size W wr → wr.cell? ⟨gr, 1, none⟩ = some (.slice va fv.length vc) ∧ gr < wr.heap.size) := Lib.hid fun wr hb => ⟨(World.cell?_of_block (a := ⟨gr, 1, none⟩) ((hb.block gr (Nat.lt_of_lt_of_le hz HB.out.size)).trans (HB.out.block gr hz))).trans c1, Nat.lt_of_lt_of_le hz (Nat.le_trans HB.out.size hb.size)⟩
  obtain ⟨hs, hhs⟩ : ∃ b, b = decide (top.idx ≠ 0) := ⟨_, rfl⟩
  have HHS := Lib.hid hhs
  rw [← hhs]
  unfold snAgg
  obtain ⟨iv, hiv, hiv0, hiv1, hiv2⟩ := info_parts infoStr1
  clear hat hW hnm hXz c1 hz hq hfine hhs
  go_enter Tryz.func33, Tryz.ntmps33
  go_wp2_with fail
  rw [← HW.out]
  go_loopw [7, 8, 9] (fun nv i _ wr => ∃ (k : Nat) (ls : List ByteArray), i = .int .i64 (k : Int) ∧ k ≤ fv.length ∧ ls.length ≤ k ∧ Hid (ls = ((d.fs.take k).map (·.nm)).filter (elder top.idx)) ∧ Below W.heap.size W wr ∧ wr.ownsRow W.heap.size 9 1 nv ls.length (ls.map Value.string)) (fun _ i _ _ => fv.length - (intOf i).toNat)
  case atStart => exact ⟨0, [], rfl, Nat.zero_le _, Nat.le_refl _, Lib.hid rfl, Below.refl _ _, World.ownsRow_nil _ _ _ _⟩
  case round =>
    obtain ⟨k, ls, rfl, hk, hlk, HLS, hbw, hown⟩ := hrel
    obtain ⟨q1, qz⟩ := E1.out wr hbw
    have HBW := Lib.hid hbw
    have HOWN := Lib.hid hown
    obtain ⟨la, lc, rfl⟩ := owned_slice hown
    obtain ⟨x0, x1, x2, x3, -, -, -, -, xz⟩ := sh_four (old_below HX.out hbw)
    clear hbw hown
    by_cases hlt : k < fv.length
    · have hkk : (k : Int) < (fv.length : Int) := by omega
      obtain ⟨ga, gc, hv, -, -, hgz, -, -, e0, -, -, -⟩ := HAT.out.file k hlt
      cases hv
      have hkd : k < d.fs.length := by have := HLN.out; omega
      have hgt := HAT.out.get k hlt hkd
      have HNX := Lib.hid (names_next (t := top.idx) hkd)
      have hnz := HNM.out d.fs[k] (List.getElem_mem hkd)
      rw [hgt] at e0
      obtain ⟨nm, hnm⟩ : ∃ nm, nm = d.fs[k].nm := ⟨_, rfl⟩
      rw [← hnm] at e0 hnz HNX
      have e0' := (World.cell?_of_block (a := ⟨ga, k * 3, none⟩) ((HBW.out.block ga (Nat.lt_of_lt_of_le hgz HB.out.size)).trans (HB.out.block ga hgz))).trans e0
      have hgw : ga < wr.heap.size := Nat.lt_of_lt_of_le hgz (Nat.le_trans HB.out.size HBW.out.size)
      have HNZ := Lib.hid hnz
      have HK4 : Hid (k < 4096) := Lib.hid (by have := HF4.out; omega)
      have HED := Lib.hid (elder_idx top.idx nm)
      clear e0 hnm hgt hnz hgz
      go_wp2_with fail
      refine (RefIdx6_any nm wr HNZ.out).mono ?_
      rintro e w0 ⟨rfl, rfl⟩
      obtain ⟨I, hI⟩ : ∃ I, I = idxN nm := ⟨_, rfl⟩
      rw [← hI] at HED ⊢
      clear hI
      have hcase : (elder top.idx nm = false ∧ (hs = false ∨ (hs = true ∧ ¬ 0 ≤ I) ∨ (hs = true ∧ 0 ≤ I ∧ decide (I < top.idx) = false))) ∨ (elder top.idx nm = true ∧ hs = true ∧ 0 ≤ I ∧ I < top.idx) := by
        rw [HED.out]
        by_cases h1 : 0 ≤ I
        · by_cases h2 : I < top.idx
          · exact .inr ⟨decide_eq_true ⟨h1, h2⟩, by rw [HHS.out]; exact decide_eq_true (by omega), h1, h2⟩
          · refine .inl ⟨decide_eq_false fun h => h2 h.2, ?_⟩
            cases hs with
            | false => exact .inl rfl
            | true => exact .inr (.inr ⟨rfl, h1, decide_eq_false h2⟩)
        · refine .inl ⟨decide_eq_false fun h => h1 h.1, ?_⟩
          cases hs with
          | false => exact .inl rfl
          | true => exact .inr (.inl ⟨rfl, h1⟩)
      rcases hcase with ⟨he, hc⟩ | ⟨he, rfl, h1, h2⟩
      · have HL2 : Hid (ls = ((d.fs.take (k + 1)).map (·.nm)).filter (elder top.idx)) := Lib.hid (by rw [HNX.out, ← HLS.out, he]; simp)
        clear he
        rcases hc with rfl | ⟨rfl, h1⟩ | ⟨rfl, h1, h2⟩
        · go_wp2_with fail
          go_roundw
          case rel => exact ⟨k + 1, ls, by go_num, by omega, by omega, HL2, HBW.out, HOWN.out⟩
          case measure => simp [intOf]; omega
        · have p1 : decide ((0 : Int) ≤ I) = false := decide_eq_false h1
          clear h1
          go_wp2_with fail
          go_roundw
          case rel => exact ⟨k + 1, ls, by go_num, by omega, by omega, HL2, HBW.out, HOWN.out⟩
          case measure => simp [intOf]; omega
        · go_wp2_with fail
          go_roundw
          case rel => exact ⟨k + 1, ls, by go_num, by omega, by omega, HL2, HBW.out, HOWN.out⟩
          case measure => simp [intOf]; omega
      · have HL2 : Hid (ls ++ [nm] = ((d.fs.take (k + 1)).map (·.nm)).filter (elder top.idx)) := Lib.hid (by rw [HNX.out, ← HLS.out, he]; simp)
        clear he
        go_wp2_with (at_builtin; refine wpList_append_any _ rfl (.tmp 42) (.tmp 51) 43 rfl W.heap.size 9 iv (.string ByteArray.empty) 1 16 Tryz.underlying43 hiv hiv0 hiv1 hiv2 rfl (by decide) _ ls.length (ls.map Value.string) rfl (HOWN.out.alloc _) _ rfl 1 [.string nm] ?c1 (by unfold maxLen; have := HK4.out; omega) (by have := HK4.out; omega) (by have := HBW.out.size; simp; omega) ?_)
        case c1 => exact ⟨rfl, fun u hu => by simp at hu; subst hu; rfl, .inr ⟨_, _, rfl, cell_one_new _ _ _⟩⟩
        intro lv wd happ
        have HB' := Lib.hid ((HBW.out.alloc HBW.out.size _).grown happ.2.1 (by have := HBW.out.size; simp; omega) fun j hj => (HOWN.out.lt j hj).1)
        have HO' : Hid (wd.ownsRow W.heap.size 9 1 lv (ls ++ [nm]).length ((ls ++ [nm]).map Value.string)) := Lib.hid (by simpa using happ.1)
        clear happ x0 x1 x2 x3 xz q1 qz e0' hgw
        go_wp2_with fail
        go_roundw
        case rel => exact ⟨k + 1, ls ++ [nm], by go_num, by omega, by simp; omega, HL2, HB'.out, HO'.out⟩
        case measure => simp [intOf]; omega
    · have hkk : ¬ (k : Int) < (fv.length : Int) := by omega
      have HL2 : Hid (ls = (d.fs.map (·.nm)).filter (elder top.idx)) := Lib.hid (by rw [HLS.out, List.take_of_length_le (by have := HLN.out; omega)])
      have HK4 : Hid (ls.length ≤ 4096) := Lib.hid (by have := HF4.out; omega)
      obtain ⟨R, hR⟩ : ∃ R, R = cleanS d top.idx := ⟨_, rfl⟩
      have HEQ := Lib.hid hR
      have HR0 : Hid (R = clean2 d ls) := Lib.hid (by rw [hR, HL2.out]; rfl)
      have HOW : Hid (Only Y wr0 wr) := Lib.hid (Only.of_below (HB.out.trans (HBW.out.mono HB.out.size)))
      have HQW := Lib.hid (HQ.out.next (HB.out.trans (HBW.out.mono HB.out.size)))
      have HRS : Hid (RepSl wr (fun q => q < wr.heap.size ∧ ¬ Y q) ls (.slice la ls.length lc)) := Lib.hid (RepSl.of_row HOWN.out rfl fun q h1 h2 => ⟨h2, fun hy => by have := HQ.out.lt q hy; have := HB.out.size; omega⟩)
      have HFIN : Hid (∀ (e : Ending) (w' : World), QPost w Y gr wr0 R e w' → QPost w Y gr wr0 (cleanS d top.idx) e w') := Lib.hid fun e w' h => by rw [← hR]; exact h
      obtain ⟨n, hn⟩ : ∃ n, n = ls.length := ⟨_, rfl⟩
      rw [← hn] at HRS HK4 ⊢
      have HNN := Lib.hid hn
      have hn4 := HK4.out
      clear x0 x1 x2 x3 xz hR hlk hn hk
      go_wp2_with fail
      clear q1 qz hkk hlt
      go_loopw [10, 11] (fun i _ wr' => ∃ (j : Nat) (dk : Dk) (Yk : Nat → Prop), i = .int .i64 (j : Int) ∧ j ≤ n ∧ Hid (R = clean2 dk (ls.drop j)) ∧ Hid (∀ q, Yk q → Y q ∨ wr0.heap.size ≤ q) ∧ Hid (QS w Yk gr dk wr') ∧ Hid (Only Y wr0 wr') ∧ Hid (RepSl wr' (fun q => q < wr'.heap.size ∧ ¬ Yk q) ls (.slice la n lc))) (fun i _ _ => n - (intOf i).toNat)
      case atStart => exact ⟨0, d, Y, rfl, Nat.zero_le _, HR0, Lib.hid fun q hq => .inl hq, HQW, HOW, HRS⟩
      case round =>
        obtain ⟨j, dk, Yk, rfl, hj, HRK, HYK, HQK, HOK, HRSK⟩ := hrel
        by_cases hlt : j < n
        · have hkk : (j : Int) < (n : Int) := by omega
          have hlt2 : j < ls.length := by rw [← HNN.out]; exact hlt
          rcases HRSK.out with ⟨h, -⟩ | ⟨gb, off, c', he, hF, hlc, hcm, hcell⟩
          · rw [h] at hlt2; simp at hlt2
          simp only [Value.slice.injEq] at he
          obtain ⟨rfl, -, rfl⟩ := he
          have HDK : Hid (R = if (D.remove dk [ls[j]]).1 ≠ 0 then D.remove dk [ls[j]] else clean2 (D.remove dk [ls[j]]).2 (ls.drop (j + 1))) := Lib.hid (by
            have hd : ls.drop j = ls[j] :: ls.drop (j + 1) := List.drop_eq_getElem_cons hlt2
            have h := HRK.out
            rw [hd, clean2_cons] at h
            exact h)
          have HSL : Hid (RepSl wr (fun q => q = gb) [ls[j]] (.slice (some ⟨gb, off + j, none⟩) 1 (lc - j))) := Lib.hid (.inr ⟨gb, off + j, lc - j, rfl, rfl, by simp; omega, by omega, fun i hi => by
            obtain rfl : i = 0 := by simpa using hi
            rw [Nat.add_zero]
            exact hcell j hlt2⟩)
          have HGB : Hid (gb < wr.heap.size ∧ ¬ Yk gb) := Lib.hid hF
          have h1 : (j : Int) + 1 ≤ (lc : Int) := by omega
          have h2 : ¬ lc = j := by omega
          have h3 : ((j : Int) + 1).toNat = j + 1 := by omega
          have h4 : j + 1 - j = 1 := by omega
          have h5 : j ≤ j + 1 := by omega
          have h6 : (0 : Int) ≤ (j : Int) + 1 := by omega
          obtain ⟨nm, hnm⟩ : ∃ nm, nm = ls[j] := ⟨_, rfl⟩
          rw [← hnm] at HDK HSL
          clear hnm hlt2 hcell hF hlc hcm HRK
          go_wp2_with fail
          refine (QRemove HQK.out [nm] _ _ HSL.out (fun q hq => by rw [hq]; exact HGB.out)).mono ?_
          rintro e w3 ⟨rfl, ho3, X3, hx3, h3'⟩
          obtain ⟨r, hr⟩ : ∃ r, r = D.remove dk [nm] := ⟨_, rfl⟩
          rw [← hr] at h3' HDK ⊢
          have HQ3 := Lib.hid h3'
          have HX3 : Hid (∀ q, X3 q → Y q ∨ wr0.heap.size ≤ q) := Lib.hid fun q hq => by
            rcases hx3 q hq with h | h
            · exact HYK.out q h
            · have := HOK.out.size; exact .inr (by omega)
          have HO3 : Hid (Only Y wr0 w3) := Lib.hid (HOK.out.thn HYK.out ho3)
          have HRS3 : Hid (RepSl w3 (fun q => q < w3.heap.size ∧ ¬ X3 q) ls (.slice (some ⟨gb, off, none⟩) n lc)) := Lib.hid (HRSK.out.same (fun q hq => ⟨Nat.lt_of_lt_of_le hq.1 ho3.size, fun hx => by
            rcases hx3 q hx with h | h
            · exact hq.2 h
            · omega⟩) fun q hq => ho3.block q hq.1 hq.2)
          clear ho3 hx3 h3' hr h1 h2 h3 h4 h5 h6
          obtain ⟨r1, d3⟩ := r
          simp only at HDK ⊢
          by_cases hr0 : r1 = 0
          · subst hr0
            have HR3 : Hid (R = clean2 d3 (ls.drop (j + 1))) := Lib.hid (by have h := HDK.out; rw [if_neg (by simp)] at h; exact h)
            go_wp2_with fail
            go_roundw
            case rel => exact ⟨j + 1, d3, X3, by go_num, by omega, HR3, HX3, HQ3, HO3, HRS3⟩
            case measure => simp [intOf]; omega
          · have q2 : (r1 != 0) = true := by simpa using hr0
            have HR3 : Hid (R = (r1, d3)) := Lib.hid (by have h := HDK.out; rw [if_pos hr0] at h; exact h)
            clear hr0
            go_wp2_with fail
            go_ret
            refine HFIN.out _ _ ?_
            rw [HR3.out]
            exact ⟨rfl, HO3.out, X3, HX3.out, HQ3.out⟩
        · have hkk : ¬ (j : Int) < (n : Int) := by omega
          have HR3 : Hid (R = dropNew dk) := Lib.hid (by
            have h := HRK.out
            rw [List.drop_of_length_le (by have := HNN.out; omega), clean2_nil] at h
            exact h)
          go_wp2_with fail
          refine (RefThere6_any dk Yk gr nmNew wr HQK.out.dsk.1).mono ?_
          rintro e w2 ⟨rfl, rfl⟩
          cases hth : D.isThere dk.fs nmNew with
          | false =>
            have HE : Hid (R = (0, dk)) := Lib.hid (by rw [HR3.out]; unfold dropNew; rw [hth]; rfl)
            clear hth
            go_wp2_with fail
            go_ret
            refine HFIN.out _ _ ?_
            rw [HE.out]
            exact ⟨rfl, HOK.out, Yk, HYK.out, HQK.out⟩
          | true =>
            have HE : Hid (R = D.remove dk [nmNew]) := Lib.hid (by rw [HR3.out]; unfold dropNew; rw [hth]; rfl)
            clear hth
            go_wp2_with fail
            obtain ⟨t1, t2, t3⟩ := HQK.out.names [nmNew] 1 rfl (by simp) 9 rfl
            refine (QRemove t1 [nmNew] _ _ t2 t3).mono ?_
            intro e w3 hp3
            rw [← HE.out] at hp3
            have HP3 := Lib.hid (QPost.after (HOK.out.next (below_alloc _ _)) (fun k hk => by
              rcases HYK.out k hk with h | h
              · exact .inl h
              · exact .inr h) hp3)
            have he := HP3.out.1
            subst he
            clear hp3 t1 t2 t3
            go_wp2_with fail
            go_ret
            exact HFIN.out _ _ HP3.out
end Go.Proofs.YtbcpcopapbgcdaaGreatDoor.M
