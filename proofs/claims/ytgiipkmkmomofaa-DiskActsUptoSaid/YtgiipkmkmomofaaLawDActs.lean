/- The law DiskActs: whatever is done, each answer, and all that is told behind it. -/
import Derived.Test.YtgiipkmkmomofaaActsAt
namespace Go.Proofs.Ytgiipkmkmomofaa.M
open Go.RowKit Go.Maps
open D (Fl Dk)

set_option maxRecDepth 40000 in
set_option maxHeartbeats 6400000 in
theorem DiskActs_any (room : Int) (acts : List Ac) (F : Nat → Prop) (va : Value) (w : World) (hr1 : -9223372036854775808 ≤ room) (hr2 : room ≤ 9223372036854775807) (ha : RepAs w F acts va) (hF : ∀ k, F k → k < w.heap.size)
    (hs : Hid (∀ a ∈ acts, asize a ≤ 1099511627776)) :
    Calls Try.prog 4 #[.int .i64 room, va] w fun e w' => e = .returned (.bool true) ∧ Below w.heap.size w w' := by
  obtain ⟨aa, ac, rfl, hal⟩ := ha.slice
  have HA := Lib.hid ha
  have HF := Lib.hid hF
  clear ha hF
  by_cases h60 : 60 < acts.length
  · have q1 : (60 : Int) < (acts.length : Int) := by omega
    clear h60
    go_enter Try.func4, Try.ntmps4
    go_wp2_with fail
    refine (awake3_any w).mono ?_
    rintro e w1 ⟨rfl, hb1⟩
    have HB1 := Lib.hid hb1
    clear hb1
    go_wp2_with fail
    refine (awake3_any w1).mono ?_
    rintro e w2 ⟨rfl, hb2⟩
    have HB2 : Hid (Below w.heap.size w w2) := Lib.hid (HB1.out.trans (hb2.mono HB1.out.size))
    clear hb2
    go_wp2_with fail
    go_ret
    exact ⟨rfl, HB2.out⟩
  · have q1 : decide ((60 : Int) < (acts.length : Int)) = false := by simp; omega
    have H60 : Hid (acts.length ≤ 60) := Lib.hid (by omega)
    clear h60
    by_cases hneg : room < 0
    · go_enter Try.func4, Try.ntmps4
      go_wp2_with fail
      refine (awake3_any w).mono ?_
      rintro e w1 ⟨rfl, hb1⟩
      have HB1 := Lib.hid hb1
      clear hb1
      go_wp2_with fail
      refine (New_neg room w1 hneg).mono ?_
      rintro e w2 ⟨rfl, rfl⟩
      go_wp2_with fail
      go_ret
      exact ⟨rfl, HB1.out⟩
    · have hr0 : 0 ≤ room := by omega
      have q2 : decide (room < 0) = false := by simp; omega
      clear hneg
      go_enter Try.func4, Try.ntmps4
      go_wp2_with fail
      refine (awake3_any w).mono ?_
      rintro e w1 ⟨rfl, hb1⟩
      have HB1 := Lib.hid hb1
      clear hb1
      go_wp2_with fail
      refine (New_any room w1 hr0).mono ?_
      rintro e w2 ⟨rfl, hb2, hz2, hd2⟩
      have H2 : Hid (DS w _ _ (fresh room) w2) := Lib.hid ⟨HB1.out.trans (hb2.mono HB1.out.size), fun k hk => Nat.le_trans HB1.out.size hk.1, ⟨hd2, fun k hk => by omega⟩, fresh_well hr0 hr2⟩
      obtain ⟨gd, hgd⟩ : ∃ gd, gd = w1.heap.size + 1 := ⟨_, rfl⟩
      obtain ⟨X2, hX2⟩ : ∃ X2 : Nat → Prop, X2 = fun k => w1.heap.size ≤ k ∧ k < w1.heap.size + 2 := ⟨_, rfl⟩
      rw [← hgd, ← hX2] at H2
      rw [← hgd]
      clear hb2 hz2 hd2 hgd hX2
      obtain ⟨gr, hgr⟩ : ∃ gr, gr = w2.heap.size := ⟨_, rfl⟩
      have H3 : Hid (RunAt w gd gr (fresh room) acts 0 (w2.alloc (.cells #[.int .i64 room, .slice none 0 0, .bool false, .int .i64 0] 34))) := Lib.hid (RunAt.start (X := X2) (Y := fun k => k = gr) ⟨(H2.out.alloc _).below, H2.out.own, fun k hk => by rw [hk, hgr]; exact H2.out.below.size, (H2.out.alloc _).dsk, newRef w2 room gr hgr, fun k hk hk2 => by have := H2.out.lt k hk; omega, H2.out.well, H2.out.well⟩)
      have HGR := Lib.hid hgr
      clear hgr
      go_wp2_with fail
      rw [← HGR.out]
      go_loopg [8, 9, 10, 11, 12, 13] acts.length (fun g i _ _ _ _ _ wr => ∃ k : Nat, i = .int .i64 (k : Int) ∧ k + g = acts.length ∧ RunAt w gd gr (fresh room) acts k wr)
      case atStart => exact ⟨0, rfl, by omega, H3.out⟩
      case round =>
        obtain ⟨k, rfl, hkg, hk, hsz, hus, X, Y, htd⟩ := hrel
        obtain ⟨go, hgo⟩ : ∃ go : Nat, go = gk := ⟨_, rfl⟩
        subst hgo
        have HSZ := Lib.hid hsz
        have HUS := Lib.hid hus
        have HTD := Lib.hid htd
        clear hsz hus htd
        have hused : D.used (runA (fresh room) acts k).fs ≤ 120000 := by
          have h1 := HUS.out
          have h2 := H60.out
          have h3 : D.used (fresh room).fs = 0 := rfl
          omega
        have HU := Lib.hid hused
        clear hused
        by_cases hlt : k < acts.length
        · have hkk : (k : Int) < (acts.length : Int) := by omega
          have ha2 : RepAs wr F acts (.slice aa acts.length ac) := HA.out.same (fun _ h => h) fun j hj => HTD.out.below.block j (HF.out j hj)
          obtain ⟨b, off, rfl, hFb, x0, x1, x2, x3, x4, c0, c1, c2, c3, c4, hra⟩ := ha2.elem k hlt
          have hbz : b < wr.heap.size := Nat.lt_of_lt_of_le (HF.out b hFb) HTD.out.below.size
          obtain ⟨na, nc, hx1, hnl⟩ := hra.2.2.1.slice
          obtain ⟨ba, bc, hx2, hbl⟩ := hra.2.2.2.2.1.slice
          obtain ⟨ka, kc, hx4, hkl⟩ := hra.2.2.2.2.2.2.2.slice
          have hx0 := hra.1
          have hx3 := hra.2.2.2.2.2.1
          obtain ⟨n1, hn1⟩ : ∃ n1, n1 = acts[k].names.length := ⟨_, rfl⟩
          obtain ⟨n2, hn2⟩ : ∃ n2, n2 = acts[k].bs.length := ⟨_, rfl⟩
          obtain ⟨n4, hn4⟩ : ∃ n4, n4 = acts[k].keep.length := ⟨_, rfl⟩
          obtain ⟨kd, hkd⟩ : ∃ kd, kd = acts[k].kind := ⟨_, rfl⟩
          obtain ⟨an, han⟩ : ∃ an, an = acts[k].n := ⟨_, rfl⟩
          rw [← hn1] at hx1 hnl
          rw [← hn2] at hx2 hbl
          rw [← hn4] at hx4 hkl
          rw [← hkd] at hx0
          rw [← han] at hx3
          subst hx0 hx1 hx2 hx3 hx4
          have HN2 := Lib.hid hn2
          have HRA := Lib.hid hra
          have HFB := Lib.hid hFb
          clear hn1 hn2 hn4 hkd han
          have HAS : Hid (Hid (asize acts[k] ≤ 1099511627776)) := Lib.hid (Lib.hid (hs.out _ (List.getElem_mem hlt)))
          have hFw : ∀ j, F j → j < wr.heap.size := fun j hj => Nat.lt_of_lt_of_le (HF.out j hj) HTD.out.below.size
          have HFW := Lib.hid hFw
          clear ha2 hra hFw hFb
          obtain ⟨bs, hbs⟩ : ∃ bs, bs = acts[k].bs := ⟨_, rfl⟩
          have HBS := Lib.hid hbs
          obtain ⟨g9, hg9⟩ : ∃ g9, g9 = wr.heap.size := ⟨_, rfl⟩
          obtain ⟨wa, hwa⟩ : ∃ wa, wa = wr.alloc (.cells #[.int .i64 kd, .slice na n1 nc, .slice ba n2 bc, .int .i64 an, .slice ka n4 kc] 39) := ⟨_, rfl⟩
          have HBA : Hid (Below wr.heap.size wr wa) := Lib.hid (by rw [hwa]; exact below_alloc _ _)
          obtain ⟨g0, g1, g2, g3, g4⟩ := five_new wr (.int .i64 kd) (.slice na n1 nc) (.slice ba n2 bc) (.int .i64 an) (.slice ka n4 kc) 39 g9 hg9
          have gf : wa.frozen? ⟨g9, 2, none⟩ = false := by
            rw [hwa, hg9]
            exact frozen_of_row _ _ 2 _ _ (heap_alloc_new _ _)
          have hgz : g9 < wa.heap.size := by rw [hwa, hg9]; simp
          rw [← hwa] at g0 g1 g2 g3 g4
          have HTA : Hid (TD w X Y gd gr (runA (fresh room) acts k) (runA (fresh room) acts k) wa) := Lib.hid (HTD.out.next HBA.out)
          have HRAA : Hid (RepA wa F acts[k] (.int .i64 kd) (.slice na n1 nc) (.slice ba n2 bc) (.int .i64 an) (.slice ka n4 kc)) := Lib.hid (HRA.out.same (fun _ h => h) fun j hj => HBA.out.block j (HFW.out j hj))
          have HFA : Hid (∀ j, F j → j < wa.heap.size) := Lib.hid fun j hj => Nat.lt_of_lt_of_le (HFW.out j hj) HBA.out.size
          have HG0 : Hid (wa.cell? ⟨g9, 0, none⟩ = some (.int .i64 kd) ∧ wa.cell? ⟨g9, 1, none⟩ = some (.slice na n1 nc) ∧ wa.cell? ⟨g9, 2, none⟩ = some (.slice ba n2 bc) ∧ wa.cell? ⟨g9, 3, none⟩ = some (.int .i64 an) ∧ wa.cell? ⟨g9, 4, none⟩ = some (.slice ka n4 kc) ∧ wa.frozen? ⟨g9, 2, none⟩ = false ∧ g9 < wa.heap.size ∧ w.heap.size ≤ g9 ∧ ¬ X g9 ∧ ¬ Y g9) := Lib.hid ⟨g0, g1, g2, g3, g4, gf, hgz, by rw [hg9]; exact HTD.out.below.size, fun h => by have := HTD.out.p.2 g9 h; omega, fun h => by have := HTD.out.q.2 g9 h; omega⟩
          have HWA := Lib.hid hwa
          have HG9 := Lib.hid hg9
          clear g0 g1 g2 g3 g4 gf hgz hwa hg9 hbs
          go_wp2_with fail
          rw [← HG9.out, ← HWA.out]
          refine (ActSize_any acts[k] F _ _ _ _ _ wa HRAA.out HFA.out HAS.out).mono ?_
          rintro e w5 ⟨rfl, hb5⟩
          have HB5 := Lib.hid hb5
          have HT5 : Hid (TD w X Y gd gr (runA (fresh room) acts k) (runA (fresh room) acts k) w5) := Lib.hid (HTA.out.next hb5)
          have hsz5 := hb5.size
          have HG5 : Hid (∀ w', Below w5.heap.size w5 w' → (w'.cell? ⟨g9, 0, none⟩ = some (.int .i64 kd) ∧ w'.cell? ⟨g9, 1, none⟩ = some (.slice na n1 nc) ∧ w'.cell? ⟨g9, 2, none⟩ = some (.slice ba n2 bc) ∧ w'.cell? ⟨g9, 3, none⟩ = some (.int .i64 an) ∧ w'.cell? ⟨g9, 4, none⟩ = some (.slice ka n4 kc)) ∧ w'.frozen? ⟨g9, 2, none⟩ = false ∧ g9 < w'.heap.size) := Lib.hid fun w' hb => by
            obtain ⟨g0, g1, g2, g3, g4, gf, hgz, -, -, -⟩ := HG0.out
            have hbl : w'.heap[g9]? = wa.heap[g9]? := (hb.block g9 (by omega)).trans (HB5.out.block g9 hgz)
            have e : ∀ j, w'.cell? ⟨g9, j, none⟩ = wa.cell? ⟨g9, j, none⟩ := fun j => World.cell?_of_block (a := ⟨g9, j, none⟩) hbl
            have hz := hb.size
            exact ⟨⟨(e 0).trans g0, (e 1).trans g1, (e 2).trans g2, (e 3).trans g3, (e 4).trans g4⟩, (World.frozen?_of_block (a := ⟨g9, 2, none⟩) hbl).trans gf, by omega⟩
          have HBL : Hid (∀ w', Below w5.heap.size w5 w' → RepBl w' F bs (.slice ba n2 bc)) := Lib.hid fun w' hb => by
            have h1 := HRAA.out.2.2.2.2.1
            rw [← HBS.out] at h1
            exact h1.same (fun _ h => h) fun j hj => (hb.block j (by have := HFA.out j hj; omega)).trans (HB5.out.block j (HFA.out j hj))
          have HN2' : Hid (n2 = bs.length) := Lib.hid (by rw [HBS.out]; exact HN2.out)
          obtain ⟨⟨e0, e1, e2, e3, e4⟩, -, ez⟩ := HG5.out w5 (Below.refl _ _)
          obtain ⟨z, hz⟩ : ∃ z, z = asize acts[k] := ⟨_, rfl⟩
          rw [← hz]
          have HZ := Lib.hid hz
          clear hz hb5
          by_cases hbig : 2000 < z
          · have q3 : (2000 : Int) < (z : Int) := by omega
            clear hbig
            go_wp2_with fail
            go_ret
            exact ⟨rfl, HT5.out.below⟩
          · have q3 : decide ((2000 : Int) < (z : Int)) = false := by simp; omega
            have HZ2 : Hid (asize acts[k] ≤ 2000) := Lib.hid (by rw [← HZ.out]; omega)
            have HFL : Hid (bs.flatten.length ≤ 2000 ∧ bs.length ≤ 2000) := Lib.hid (by
              have h1 := asize_flat acts[k]
              have h2 := len_size acts[k].bs
              have h3 : bsize acts[k].bs ≤ asize acts[k] := by unfold asize; omega
              rw [← HBS.out] at h1 h2 h3
              have h4 := HZ2.out
              omega)
            have hn2l : n2 ≤ 2000 := by have := HFL.out; have := HN2'.out; omega
            obtain ⟨is0, his, hisz0, hisz1, hisz2⟩ := info_parts infoSl
            clear hbig e0 e1 e3 e4
            go_wp2_with fail
            obtain ⟨wo, hwo⟩ : ∃ wo : World, wo = wr := ⟨_, rfl⟩
            subst hwo
            go_loopg [10, 11] n2 (fun g vb z wr => ∃ j : Nat, z = .int .i64 (j : Int) ∧ j + g = n2 ∧ CpAt w5 bs j vb wr)
            case atStart => exact ⟨0, rfl, by omega, CpAt.start _ _⟩
            case round =>
              obtain ⟨j, rfl, hjg, hcp⟩ := hrel
              have HCP := Lib.hid hcp
              obtain ⟨-, hb, us, hus, hrow, heach⟩ := hcp
              have hbz5 := hb.size
              obtain ⟨⟨e0, e1, e2, e3, e4⟩, ef, ez⟩ := HG5.out wr hb
              by_cases hj : j < n2
              · have hjj : (j : Int) < (n2 : Int) := by omega
                have hjb : j < bs.length := by rw [← HN2'.out]; exact hj
                obtain ⟨b2, off2, u, hba, hFb2, hcu, hru⟩ := (HBL.out wr hb).elem j hjb
                subst hba
                have hb2z : b2 < wr.heap.size := by have := HFA.out b2 hFb2; omega
                obtain ⟨ua, uc, rfl, hul⟩ := hru.slice
                have hll := flat_at bs j hjb
                obtain ⟨L, hL⟩ : ∃ L, L = bs[j] := ⟨_, rfl⟩
                rw [← hL] at hcu hru hul hll
                have HLE := Lib.hid hL
                have HLL : Hid (L.length ≤ 2000) := Lib.hid (by have := HFL.out; omega)
                have HRU := Lib.hid hru
                have HROW := Lib.hid hrow
                have HUS := Lib.hid hus
                have HEA := Lib.hid heach
                have HFR : Hid (∀ j, F j → j < wr.heap.size) := Lib.hid fun j hj => by have := HFA.out j hj; omega
                clear hru hrow hus heach hll hb hL e0 e1 e3 e4 ef
                go_wp2_with (at_builtin; refine wpList_own_append (w := wr) (L2 := L) rfl (.tmp 65) (.tmp 70) rfl rfl rfl (Own.lit (Below.refl _ _) rfl) rfl (HRU.out.same (fun _ h => h) fun i hi => Below.heap_alloc _ _ _ (HFR.out i hi)) (by have := HLL.out; simp; omega) ?_)
                intro v7 w7 hown7
                obtain ⟨va7, vc7, rfl⟩ := hown7.slice
                have hz7 := hown7.1.size
                have hrow7 := (HROW.out.kept (grown_of_below hown7.1) (Classical.em _))
                have HO7 := Lib.hid hown7
                have HR7 := Lib.hid hrow7
                clear hown7 hrow7
                go_wp2_with (at_builtin; refine wpList_append_own _ rfl _ _ 36 rfl w5.heap.size 41 is0 (.slice none 0 0) 1 24 Try.underlying36 his hisz0 hisz1 hisz2 rfl (by decide) _ _ _ rfl (HR7.out.alloc _) ⟨w7.heap.size, 0, none⟩ 1 1 [.slice va7 L.length vc7] rfl rfl (cell_one_new _ _ _) (by simp [Value.oneCell']) (by unfold maxLen; omega) (by omega) (by simp; omega) ?_)
                intro v8 w8 hown8 hg8 hnil8
                have HNX : Hid (CpAt w5 bs (j + 1) v8 w8) := Lib.hid (CpAt.step HCP.out hjb (by rw [← HLE.out]; exact HO7.out) HUS.out HROW.out HEA.out hown8 hg8)
                clear hown8 hg8 hnil8
                go_wp2_with fail
                go_roundg (gk - 1)
                case measure => omega
                case rel => exact ⟨j + 1, by go_num, by omega, HNX.out⟩
              · have hjj : ¬ (j : Int) < (n2 : Int) := by omega
                obtain rfl : j = n2 := by omega
                obtain ⟨vba, vbc, rfl⟩ := owned_slice hrow
                clear hrow hus heach hj
                have HB2 := Lib.hid hb
                obtain ⟨wc, hwc⟩ : ∃ wc, wc = wr.setCell ⟨g9, 2, none⟩ (.slice vba j vbc) := ⟨_, rfl⟩
                have hcpF : CpAt w5 bs bs.length (.slice vba j vbc) wr := by
                  have h1 := HCP.out
                  rw [HN2'.out] at h1
                  rw [HN2'.out]
                  exact h1
                have HCF := Lib.hid hcpF
                have HOC : Hid (Only (fun q => q = g9) wr wc) := Lib.hid (by rw [hwc]; exact (Only.refl _ _).set (X := fun q => q = g9) (.inl rfl) _)
                have hcz : wc.heap.size = wr.heap.size := by rw [hwc]; simp
                have HCZ := Lib.hid hcz
                have HWC := Lib.hid hwc
                have HZ5 : Hid (g9 < w5.heap.size ∧ w5.heap.size ≤ wr.heap.size ∧ wa.heap.size ≤ w5.heap.size ∧ w.heap.size ≤ g9) := Lib.hid (by
                  obtain ⟨-, -, -, -, -, -, h1, h2, -, -⟩ := HG0.out
                  omega)
                have HT7 : Hid (TD w X Y gd gr (runA (fresh room) acts k) (runA (fresh room) acts k) wc) := Lib.hid ((HT5.out.next HB2.out).hold HOC.out (fun q hq hx => by
                  obtain ⟨-, -, -, -, -, -, -, -, h1, -⟩ := HG0.out
                  exact h1 (hq ▸ hx)) (fun q hq hx => by
                  obtain ⟨-, -, -, -, -, -, -, -, -, h1⟩ := HG0.out
                  exact h1 (hq ▸ hx)) fun q hq => by rw [hq]; exact HZ5.out.2.2.2)
                have HRA7 : Hid (RepA wc (fun q => F q ∨ (w5.heap.size ≤ q ∧ q < wr.heap.size)) acts[k] (.int .i64 kd) (.slice na n1 nc) (.slice vba j vbc) (.int .i64 an) (.slice ka n4 kc)) := Lib.hid (by
                  have hz := HZ5.out
                  have h1 := HRAA.out.same (G := fun q => F q ∨ (w5.heap.size ≤ q ∧ q < wr.heap.size)) (w' := wc) (fun _ h => .inl h) (fun q hq => by
                    have hq1 := HFA.out q hq
                    have hq2 := HF.out q hq
                    exact ((HOC.out.block q (by omega) (by omega)).trans (HB2.out.block q (by omega))).trans (HB5.out.block q hq1))
                  have h2 : RepBl wc (fun q => F q ∨ (w5.heap.size ≤ q ∧ q < wr.heap.size)) acts[k].bs (.slice vba j vbc) := by
                    rw [← HBS.out]
                    exact HCF.out.rep.same (fun _ h => .inr h) fun q hq => HOC.out.block q hq.2 (by omega)
                  exact ⟨h1.1, h1.2.1, h1.2.2.1, h1.2.2.2.1, h2, h1.2.2.2.2.2⟩)
                have HF7 : Hid (∀ q, (F q ∨ (w5.heap.size ≤ q ∧ q < wr.heap.size)) → q < wc.heap.size ∧ ¬ X q ∧ ¬ Y q) := Lib.hid fun q hq => by
                  have hz := HZ5.out
                  have hz2 := HCZ.out
                  rcases hq with hq | hq
                  · have hq2 := HF.out q hq
                    exact ⟨by omega, fun h => by have := HT5.out.ownX q h; omega, fun h => by have := HT5.out.ownY q h; omega⟩
                  · exact ⟨by omega, fun h => by have := HT5.out.p.2 q h; omega, fun h => by have := HT5.out.q.2 q h; omega⟩
                have HUU : Hid (D.used (runA (fresh room) acts k).fs + acts[k].bs.flatten.length ≤ 1099511627776 ∧ D.used (runA (fresh room) acts k).fs + acts[k].bs.flatten.length ≤ 1099511627776) := Lib.hid (by
                  have h1 := HU.out
                  have h2 := asize_flat acts[k]
                  have h3 := HZ2.out
                  omega)
                have HN64 : Hid (Int64 acts[k].n) := Lib.hid HRA.out.2.2.2.2.2.2.1
                clear hb hcpF hcz hwc
                go_wp2_with fail
                rw [← HWC.out]
                refine (ActDo_any acts[k] _ _ X Y gd gr _ _ _ _ _ _ wc HT7.out.p HT7.out.q HT7.out.dis HT7.out.wd HT7.out.we HRA7.out HF7.out HUU).mono ?_
                rintro e w8 ⟨rfl, hb8⟩
                have eb : ((act (runA (fresh room) acts k) acts[k]).1 == (act (runA (fresh room) acts k) acts[k]).1) = true := by simp
                rw [eb]
                obtain ⟨hwB, huB⟩ := act_well HT7.out.wd acts[k] HN64.out
                obtain ⟨X', Y', hT8, hkeep, hz8⟩ := HT5.out.act2 HT7.out hb8 hwB hwB
                obtain ⟨us, hrow, hbc⟩ := HCF.out.bytes
                rw [← HN2'.out] at hrow
                obtain ⟨d8, hd8⟩ : ∃ d8, d8 = (act (runA (fresh room) acts k) acts[k]).2 := ⟨_, rfl⟩
                obtain ⟨S, hS⟩ : ∃ S : Nat → Prop, S = fun q => w5.heap.size ≤ q ∧ q < wr.heap.size ∧ (Value.slice vba j vbc).ownBlock ≠ some q := ⟨_, rfl⟩
                have HS : Hid (∀ q, S q → (w5.heap.size ≤ q ∧ q < wr.heap.size ∧ (Value.slice vba j vbc).ownBlock ≠ some q)) := Lib.hid (by rw [hS]; exact fun _ h => h)
                rw [← hS] at hbc
                have HKB : Hid (∀ q, w5.heap.size ≤ q → q < wr.heap.size → ¬ X' q ∧ ¬ Y' q ∧ w8.heap[q]? = wr.heap[q]?) := Lib.hid fun q h1 h2 => by
                  have hz := HZ5.out
                  obtain ⟨k1, k2, k3⟩ := hkeep q h1 (by rw [HCZ.out]; exact h2)
                  exact ⟨k1, k2, k3.trans (HOC.out.block q h2 (by omega))⟩
                have HX0 : Hid (XoAt S w8 bs us w8) := Lib.hid ⟨Only.refl _ _, hbc.same (fun _ h => h) (fun q hq => (HKB.out q (HS.out q hq).1 (HS.out q hq).2.1).2.2) (by rw [← HCZ.out]; exact hz8)⟩
                have HUL : Hid (us.length = bs.length) := Lib.hid hbc.1
                have HROWC : Hid (∀ w', Only S w8 w' → ∀ (i : Nat) (hi : i < bs.length) (h2 : i < us.length), ∃ gv, vba = some ⟨gv, 0, none⟩ ∧ gv < w'.heap.size ∧ w'.cell? ⟨gv, i, none⟩ = some us[i]) := Lib.hid fun w' ho i hi h2 => by
                  obtain ⟨gv, h3, h4, h5, h6⟩ := row_cell hrow i (by rw [HN2'.out]; exact hi)
                  subst h3
                  obtain ⟨-, -, h7⟩ := HKB.out gv h4 h5
                  have hz9 := HCZ.out
                  have h8 : w'.heap[gv]? = wr.heap[gv]? := (ho.block gv (by omega) fun hq => (HS.out gv hq).2.2 rfl).trans h7
                  refine ⟨gv, rfl, by have := ho.size; omega, ?_⟩
                  rw [World.cell?_of_block (a := ⟨gv, i, none⟩) h8, h6, List.getElem?_eq_getElem h2]
                rw [← hd8] at hT8 hwB huB
                have HT8 := Lib.hid hT8
                have HWB := Lib.hid hwB
                have HUB : Hid (D.used d8.fs ≤ 1099511627776) := Lib.hid (by have h1 := HU.out; have h2 := HUU.out; omega)
                have HD8 := Lib.hid hd8
                clear hb8 eb hwB huB hT8 hkeep hz8 hrow hbc hd8 hS his e2 ez
                go_wp2_with fail
                obtain ⟨wq, hwq⟩ : ∃ wq : World, wq = wr := ⟨_, rfl⟩
                subst hwq
                go_loopg [12, 13] j (fun g z _ wr => ∃ i : Nat, z = .int .i64 (i : Int) ∧ i + g = j ∧ XoAt S w8 bs us wr)
                case atStart => exact ⟨0, rfl, by omega, HX0.out⟩
                case round =>
                  obtain ⟨i, rfl, hig, hxo⟩ := hrel
                  obtain ⟨go3, hgo3⟩ : ∃ go3 : Nat, go3 = gk := ⟨_, rfl⟩
                  subst hgo3
                  have HXO := Lib.hid hxo
                  clear hxo
                  by_cases hi : i < j
                  · have hii : (i : Int) < (j : Int) := by omega
                    have hib : i < bs.length := by rw [← HN2'.out]; exact hi
                    have hiu : i < us.length := by rw [HUL.out]; exact hib
                    obtain ⟨n, hn⟩ : ∃ n, n = bs[i].length := ⟨_, rfl⟩
                    have hnl : n ≤ 2000 := by rw [hn]; have := flat_at bs i hib; have := HFL.out; omega
                    have HNN := Lib.hid hn
                    clear hn
                    go_wp2_with fail
                    obtain ⟨wp, hwp⟩ : ∃ wp : World, wp = wr := ⟨_, rfl⟩
                    subst hwp
                    go_loopg [13] n (fun g z wr => ∃ m : Nat, z = .int .i64 (m : Int) ∧ m + g = n ∧ XoAt S w8 bs us wr)
                    case atStart => exact ⟨0, rfl, by omega, HXO.out⟩
                    case round =>
                      obtain ⟨m, rfl, hmg, hx2⟩ := hrel
                      have HX2 := Lib.hid hx2
                      obtain ⟨gv, hva, hgv, hcv⟩ := HROWC.out wr hx2.1 i hib hiu
                      subst hva
                      obtain ⟨ua, uc, hu, hby⟩ := hx2.2.2 i hiu hib
                      rw [hu, ← HNN.out] at hcv
                      clear hx2 hu
                      by_cases hm : m < n
                      · have hmm : (m : Int) < (n : Int) := by omega
                        obtain ⟨gb, hua, hSg, hgb, c, hcb, hfb⟩ := hby m (by rw [← HNN.out]; exact hm)
                        subst hua
                        have ex : bits .xor .u8 (c.toNat : Int) 255 = ((c ^^^ 255).toNat : Int) := u8_x c 255
                        have HNX : Hid (XoAt S w8 bs us (wr.setCell ⟨gb, m, none⟩ (.int .u8 ((c ^^^ 255).toNat : Int)))) := Lib.hid (HX2.out.set hSg _ hcb)
                        obtain ⟨c2, hc2⟩ : ∃ c2, c2 = c ^^^ 255 := ⟨_, rfl⟩
                        rw [← hc2] at ex HNX
                        have hc3 : c2.toNat < 256 := c2.toNat_lt
                        clear hc2 hby
                        go_wp2_with fail
                        go_still_tail 14, (by kernel_rfl)
                        go_wp2_with fail
                        go_roundg (gk - 1)
                        case measure => omega
                        case rel => exact ⟨m + 1, by go_num, by omega, HNX.out.drew⟩
                      · have hmm : ¬ (m : Int) < (n : Int) := by omega
                        clear hby
                        go_wp2_with fail
                        go_roundg (go3 - 1)
                        case measure => omega
                        case rel => exact ⟨i + 1, by go_num, by omega, HX2.out⟩
                  · have hii : ¬ (i : Int) < (j : Int) := by omega
                    have HT9 : Hid (TD w X' Y' gd gr d8 d8 wr) := Lib.hid (HT8.out.hold HXO.out.1 (fun q hq => (HKB.out q (HS.out q hq).1 (HS.out q hq).2.1).1) (fun q hq => (HKB.out q (HS.out q hq).1 (HS.out q hq).2.1).2.1) fun q hq => by
                      have h1 := (HS.out q hq).1
                      have h2 := HZ5.out
                      omega)
                    clear hi
                    go_wp2_with fail
                    refine (Told_any d8 X' Y' gd gr wr HT9.out.p HT9.out.q HWB.out HUB.out).mono ?_
                    rintro e w10 ⟨rfl, hb10⟩
                    have HNF : Hid (RunAt w gd gr (fresh room) acts (k + 1) w10) := Lib.hid (RunAt.step2 (X := X') (Y := Y') hlt HSZ.out HUS.out HT7.out.wd HN64.out HZ2.out (by
                      have h1 := HT9.out.next hb10
                      rw [HD8.out] at h1
                      exact h1))
                    clear hb10
                    go_wp2_with fail
                    go_roundg (go - 1)
                    case measure => omega
                    case rel => exact ⟨k + 1, by go_num, by omega, HNF.out⟩
        · have hkk : ¬ (k : Int) < (acts.length : Int) := by omega
          clear hlt
          go_wp2_with fail
          go_ret
          exact ⟨rfl, HTD.out.below⟩
end Go.Proofs.Ytgiipkmkmomofaa.M
