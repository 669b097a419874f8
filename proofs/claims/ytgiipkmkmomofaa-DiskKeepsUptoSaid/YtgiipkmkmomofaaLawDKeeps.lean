/- The law DiskKeeps: what outlives a crash. -/
import Derived.Test.YtgiipkmkmomofaaDiskRun
namespace Go.Proofs.Ytgiipkmkmomofaa.M
open Go.RowKit Go.Maps
open D (Fl Dk)

set_option maxRecDepth 40000 in
set_option maxHeartbeats 6400000 in
theorem DiskKeeps_any (room : Int) (acts : List Ac) (keep : List Int) (F : Nat → Prop) (va vk : Value) (w : World) (hr1 : -9223372036854775808 ≤ room) (hr2 : room ≤ 9223372036854775807) (ha : RepAs w F acts va) (hk : RepI w F keep vk) (hF : ∀ k, F k → k < w.heap.size)
    (hs : Hid (∀ a ∈ acts, asize a ≤ 1099511627776)) :
    Calls Try.prog 5 #[.int .i64 room, va, vk] w fun e w' => e = .returned (.bool true) ∧ Below w.heap.size w w' := by
  obtain ⟨aa, ac, rfl, hal⟩ := ha.slice
  obtain ⟨ka, kc, rfl, hkl⟩ := hk.slice
  have HA := Lib.hid ha
  have HK := Lib.hid hk
  have HF := Lib.hid hF
  clear ha hk hF
  by_cases hbad : 60 < acts.length ∨ room < 0
  · go_enter Try.func5, Try.ntmps5
    go_wp2_with fail
    refine (awake3_any w).mono ?_
    rintro e w1 ⟨rfl, hb1⟩
    have HB1 := Lib.hid hb1
    clear hb1
    by_cases h60 : 60 < acts.length
    · have q1 : (60 : Int) < (acts.length : Int) := by omega
      clear hbad
      go_wp2_with fail
      refine (awake3_any w1).mono ?_
      rintro e w2 ⟨rfl, hb2⟩
      have HB2 : Hid (Below w.heap.size w w2) := Lib.hid (HB1.out.trans (hb2.mono HB1.out.size))
      clear hb2
      go_wp2_with fail
      go_ret
      exact ⟨rfl, HB2.out⟩
    · have q1 : decide ((60 : Int) < (acts.length : Int)) = false := by simp; omega
      have q2 : room < 0 := by omega
      clear hbad
      go_wp2_with fail
      refine (awake3_any w1).mono ?_
      rintro e w2 ⟨rfl, hb2⟩
      have HB2 : Hid (Below w.heap.size w w2) := Lib.hid (HB1.out.trans (hb2.mono HB1.out.size))
      clear hb2
      go_wp2_with fail
      go_ret
      exact ⟨rfl, HB2.out⟩
  · have h60 : acts.length ≤ 60 := by omega
    have hr0 : 0 ≤ room := by omega
    have q1 : decide ((60 : Int) < (acts.length : Int)) = false := by simp; omega
    have q2 : decide (room < 0) = false := by simp; omega
    have H60 := Lib.hid h60
    clear hbad h60
    go_enter Try.func5, Try.ntmps5
    go_wp2_with fail
    refine (awake3_any w).mono ?_
    rintro e w1 ⟨rfl, hb1⟩
    have HB1 := Lib.hid hb1
    clear hb1
    go_wp2_with fail
    refine (New_any room w1 hr0).mono ?_
    rintro e w2 ⟨rfl, hb2, hz2, hd2⟩
    have H2 : Hid (DS w _ _ (fresh room) w2) := Lib.hid ⟨HB1.out.trans (hb2.mono HB1.out.size), fun k hk => Nat.le_trans HB1.out.size hk.1, ⟨hd2, fun k hk => by omega⟩, fresh_well hr0 hr2⟩
    obtain ⟨gd, hgd⟩ : ∃ gd, gd = w1.heap.size + 1 := ⟨_, rfl⟩
    obtain ⟨X2, hX2⟩ : ∃ X2 : Nat → Prop, X2 = fun k => w1.heap.size ≤ k ∧ k < w1.heap.size + 2 := ⟨_, rfl⟩
    rw [← hgd, ← hX2] at H2
    rw [← hgd]
    clear hb2 hz2 hd2 hgd hX2
    obtain ⟨gr, hgr⟩ : ∃ gr, gr = w2.heap.size := ⟨_, rfl⟩
    have H3 : Hid (RunAt w gd gr (fresh room) acts 0 (w2.alloc (.cells #[.int .i64 room, .slice none 0 0, .bool false, .int .i64 0] 34))) := Lib.hid (RunAt.start (X := X2) (Y := fun k => k = gr) ⟨(H2.out.alloc _).below, H2.out.own, fun k hk => by rw [hk, hgr]; exact H2.out.below.size, (H2.out.alloc _).dsk, newRef w2 room gr hgr, fun k hk hk2 => by have := H2.out.lt k hk; omega, H2.out.well, H2.out.well⟩)
    have HGR := Lib.hid hgr
    clear hgr
    go_wp2_with fail
    rw [← HGR.out]
    go_loopw [10] (fun i wr => ∃ k : Nat, i = .int .i64 (k : Int) ∧ RunAt w gd gr (fresh room) acts k wr) (fun i _ => acts.length - (intOf i).toNat)
    case atStart => exact ⟨0, rfl, H3.out⟩
    case round =>
      obtain ⟨k, rfl, hk, hsz, hus, X, Y, htd⟩ := hrel
      have HSZ := Lib.hid hsz
      have HUS := Lib.hid hus
      have HTD := Lib.hid htd
      clear hsz hus htd
      have hused : D.used (runA (fresh room) acts k).fs ≤ 120000 := by
        have h1 := HUS.out
        have h2 := H60.out
        have h3 : D.used (fresh room).fs = 0 := rfl
        omega
      have HU := Lib.hid hused
      clear hused
      by_cases hlt : k < acts.length
      · have hkk : (k : Int) < (acts.length : Int) := by omega
        have ha2 : RepAs wr F acts (.slice aa acts.length ac) := HA.out.same (fun _ h => h) fun j hj => HTD.out.below.block j (HF.out j hj)
        obtain ⟨b, off, rfl, hFb, x0, x1, x2, x3, x4, c0, c1, c2, c3, c4, hra⟩ := ha2.elem k hlt
        have hbz : b < wr.heap.size := Nat.lt_of_lt_of_le (HF.out b hFb) HTD.out.below.size
        have HRA := Lib.hid hra
        have HFB := Lib.hid hFb
        have HAS : Hid (Hid (asize acts[k] ≤ 1099511627776)) := Lib.hid (Lib.hid (hs.out _ (List.getElem_mem hlt)))
        have hFw : ∀ j, F j → j < wr.heap.size := fun j hj => Nat.lt_of_lt_of_le (HF.out j hj) HTD.out.below.size
        have HFW := Lib.hid hFw
        clear ha2 hra hFw hFb
        go_wp2_with fail
        refine (ActSize_any acts[k] F x0 x1 x2 x3 x4 wr HRA.out HFW.out HAS.out).mono ?_
        rintro e w4 ⟨rfl, hb4⟩
        have HT4 : Hid (TD w X Y gd gr (runA (fresh room) acts k) (runA (fresh room) acts k) w4) := Lib.hid (HTD.out.next hb4)
        have ec : ∀ j, w4.cell? ⟨b, j, none⟩ = wr.cell? ⟨b, j, none⟩ := fun j => World.cell?_of_block (a := ⟨b, j, none⟩) (hb4.block b hbz)
        have c0' := (ec _).trans c0
        have c1' := (ec _).trans c1
        have c2' := (ec _).trans c2
        have c3' := (ec _).trans c3
        have c4' := (ec _).trans c4
        have hbz4 : b < w4.heap.size := Nat.lt_of_lt_of_le hbz hb4.size
        have HRA4 : Hid (RepA w4 F acts[k] x0 x1 x2 x3 x4) := Lib.hid (HRA.out.same (fun _ h => h) fun j hj => hb4.block j (HFW.out j hj))
        obtain ⟨z, hz⟩ : ∃ z, z = asize acts[k] := ⟨_, rfl⟩
        rw [← hz]
        have HZ := Lib.hid hz
        have HFW4 : Hid (∀ j, F j → j < w4.heap.size ∧ ¬ X j ∧ ¬ Y j) := Lib.hid fun j hj => ⟨Nat.lt_of_lt_of_le (HFW.out j hj) hb4.size, fun h => by have := HTD.out.ownX j h; have := HF.out j hj; omega, fun h => by have := HTD.out.ownY j h; have := HF.out j hj; omega⟩
        clear hz hb4 ec c0 c1 c2 c3 c4 hbz
        by_cases hbig : 2000 < z
        · have q3 : (2000 : Int) < (z : Int) := by omega
          clear hbig
          go_wp2_with fail
          go_ret
          exact ⟨rfl, HT4.out.below⟩
        · have q3 : decide ((2000 : Int) < (z : Int)) = false := by simp; omega
          have HZ2 : Hid (asize acts[k] ≤ 2000) := Lib.hid (by rw [← HZ.out]; omega)
          have HUU : Hid (D.used (runA (fresh room) acts k).fs + acts[k].bs.flatten.length ≤ 1099511627776 ∧ D.used (runA (fresh room) acts k).fs + acts[k].bs.flatten.length ≤ 1099511627776) := Lib.hid (by
            have h1 := HU.out
            have h2 := asize_flat acts[k]
            have h3 := HZ2.out
            omega)
          clear hbig
          go_wp2_with fail
          refine (ActDo_any acts[k] _ _ X Y gd gr F x0 x1 x2 x3 x4 w4 HT4.out.p HT4.out.q HT4.out.dis HT4.out.wd HT4.out.we HRA4.out HFW4.out HUU).mono ?_
          rintro e w5 ⟨rfl, hb5⟩
          have HN : Hid (RunAt w gd gr (fresh room) acts (k + 1) w5) := Lib.hid (RunAt.step hlt HSZ.out HUS.out HT4.out HRA4.out.2.2.2.2.2.2.1 HZ2.out hb5)
          clear hb5
          go_wp2_with fail
          go_roundw
          case rel => exact ⟨k + 1, by go_num, HN.out⟩
          case measure => simp [intOf]; omega
      · have hkk : ¬ (k : Int) < (acts.length : Int) := by omega
        obtain ⟨d, hd⟩ : ∃ d, d = runA (fresh room) acts k := ⟨_, rfl⟩
        rw [← hd] at HTD HU
        have HDS : Hid (DS w X gd d wr) := Lib.hid HTD.out.ds
        clear hd hlt
        obtain ⟨wo, hwo⟩ : ∃ wo : World, wo = wr := ⟨_, rfl⟩
        subst hwo
        obtain ⟨is0, his, hisz0, hisz1, hisz2⟩ := info_parts infoSl
        obtain ⟨ii0, hii, hiiz0, hiiz1, hiiz2⟩ := info_parts infoInt
        have hfl : d.fs.length ≤ 4096 := HDS.out.well.1.1.1
        go_wp2_with fail
        refine (Names_any d X gd wo HDS.out.dsk HDS.out.well.1.2.1 (by omega)).mono ?_
        rintro e w6 ⟨v, rfl, hb6, hrow6⟩
        obtain ⟨nma, nmc, rfl⟩ := owned_slice hrow6
        have H6 : Hid (DS w X gd d w6) := Lib.hid (HDS.out.next hb6)
        have HXL : Hid (∀ j, X j → j < wo.heap.size) := Lib.hid HDS.out.lt
        have HROW := Lib.hid hrow6
        have HB6 := Lib.hid hb6
        have HKP : Hid (KpAt w6 d.fs 0 0 (.slice none 0 0) (.slice none 0 0) w6) := Lib.hid (KpAt.start w6 d.fs)
        clear hb6 hrow6
        go_wp2_with fail
        go_loopw [11, 12, 14, 15, 16, 17] (fun vw vs al i _ _ wr => ∃ (k : Nat) (y : Int), i = .int .i64 (k : Int) ∧ al = .int .i64 y ∧ KpAt w6 d.fs k y vw vs wr) (fun _ _ _ i _ _ _ => d.fs.length - (intOf i).toNat)
        case atStart => exact ⟨0, 0, rfl, rfl, HKP.out⟩
        case round =>
          obtain ⟨k, y, rfl, rfl, hkp⟩ := hrel
          have HK2 := Lib.hid hkp
          have hyu : 0 ≤ y ∧ y ≤ 120000 := by
            have h1 := hkp.2.2.1
            have h2 := D.used_le d.fs k
            have h3 := HU.out
            omega
          obtain ⟨hy0, hy1⟩ := hyu
          obtain ⟨hkl, hbq, -, hsrow, us, hus, hwrow, heach⟩ := hkp
          have H7 : Hid (DS w X gd d wr) := Lib.hid (H6.out.next hbq)
          have HS := Lib.hid hsrow
          have HWR := Lib.hid hwrow
          have HE := Lib.hid heach
          have HUS2 := Lib.hid hus
          have HBQ := Lib.hid hbq
          have hqz := hbq.size
          clear hsrow hwrow heach hus hbq
          by_cases hlt2 : k < d.fs.length
          · have hkk2 : (k : Int) < (d.fs.length : Int) := by omega
            obtain ⟨gn, hva, hgn1, hgn2, hcn⟩ := row_cell HROW.out k hlt2
            subst hva
            obtain ⟨f, hfe⟩ : ∃ f, f = d.fs[k] := ⟨_, rfl⟩
            rw [List.getElem?_map, List.getElem?_eq_getElem hlt2, ← hfe] at hcn
            have hfm : f ∈ d.fs := by rw [hfe]; exact List.getElem_mem _
            have hcn2 : wr.cell? ⟨gn, k, none⟩ = some (.string f.nm) := (World.cell?_of_block (a := ⟨gn, k, none⟩) (HBQ.out.block gn hgn2)).trans hcn
            have hgq : gn < wr.heap.size := by omega
            have HFM := Lib.hid hfm
            have HFE := Lib.hid hfe
            have HNS := Lib.hid (H6.out.well.names f hfm)
            have hfu : f.b.length ≤ 120000 := by have := D.used_mem hfm; have := HU.out; omega
            have HBO : Hid (bytesOf d.fs f.nm = f.b ∧ safeOf d.fs f.nm = f.safe) := Lib.hid (by
              unfold bytesOf safeOf
              rw [find_some H6.out.well.1.2.1 hfm]
              exact ⟨rfl, rfl⟩)
            have hsl : (f.safe : Int) ≤ 120000 := by have := H6.out.well.1.2.2 f hfm; omega
            clear hfm hfe hcn
            go_wp2_with fail
            refine (PRead_any d X gd f.nm wr H7.out.dsk H7.out.well.1.2.1 HNS.out (by have := HU.out; omega)).mono ?_
            rintro e w7 ⟨v, rfl, hown⟩
            rw [HBO.out.1] at hown
            obtain ⟨va, vc, rfl⟩ := hown.slice
            obtain ⟨n, hn⟩ : ∃ n, n = f.b.length := ⟨_, rfl⟩
            have HOWN := Lib.hid hown
            rw [← hn] at hfu HOWN ⊢
            have HN := Lib.hid hn
            have hz7 := hown.1.size
            have hrow7 := (HWR.out.kept (grown_of_below hown.1) (Classical.em _))
            have HR7 := Lib.hid hrow7
            have H8 : Hid (DS w X gd d w7) := Lib.hid (H7.out.next hown.1)
            clear hown hn hrow7
            have hb7 : Below w6.heap.size w6 w7 := HBQ.out.trans (HOWN.out.1.mono hqz)
            have HB7 := Lib.hid hb7
            have hz6 := hb7.size
            clear hb7
            go_wp2_with (at_builtin; refine wpList_append_own _ rfl _ _ 36 rfl w6.heap.size 41 is0 (.slice none 0 0) 1 24 Try.underlying36 his hisz0 hisz1 hisz2 rfl (by decide) _ _ _ rfl (HR7.out.alloc _) ⟨w7.heap.size, 0, none⟩ 1 1 [.slice va n vc] rfl rfl (cell_one_new _ _ _) (by simp [Value.oneCell']) (by unfold maxLen; omega) (by omega) (by simp; omega) ?_)
            intro v8 w8 hown8 hg8 hnil8
            have hb8 : Below w6.heap.size w6 w8 := (HB7.out.alloc hz6 _).grown hg8 (by simp; omega) (fun j hj => (HWR.out.lt j hj).1)
            have H9 : Hid (DS w X gd d w8) := Lib.hid (H6.out.next hb8)
            have hs8 := (((HS.out.kept (grown_of_below HOWN.out.1) (Classical.em _)).alloc (.cells #[.slice va n vc] 41))).kept hg8 (by
              rcases Option.eq_none_or_eq_some u12.ownBlock with h | ⟨j2, h⟩
              · exact .inl h
              · exact .inr fun e2 => rows_apart HS.out HWR.out (by decide) h (e2 ▸ h))
            have hcn8 : w8.cell? ⟨gn, k, none⟩ = some (.string f.nm) := ((World.cell?_of_block (a := ⟨gn, k, none⟩) ((hb8.block gn hgn2).trans (HBQ.out.block gn hgn2).symm))).trans hcn2
            have hgn8 : gn < w8.heap.size := Nat.lt_of_lt_of_le hgn2 hb8.size
            have HO8 := Lib.hid hown8
            have HG8 := Lib.hid hg8
            have HS8 := Lib.hid hs8
            have HB8 := Lib.hid hb8
            obtain ⟨va8, vc8, rfl⟩ := owned_slice hown8
            clear hown8 hg8 hnil8 hs8 hb8
            go_wp2_with fail
            refine (PSafe_any d X gd f.nm w8 H9.out.dsk.1 H9.out.well.1.2.1 HNS.out).mono ?_
            rintro e w9 ⟨rfl, rfl⟩
            rw [HBO.out.2]
            have hz8 := HB8.out.size
            go_wp2_with (at_builtin; refine wpList_append_own _ rfl _ _ 37 rfl w6.heap.size 3 ii0 (.int .i64 0) 1 8 Try.underlying37 hii hiiz0 hiiz1 hiiz2 rfl (by decide) _ _ _ rfl (HS8.out.alloc _) ⟨w8.heap.size, 0, none⟩ 1 1 [.int .i64 (f.safe : Int)] rfl rfl (cell_one_new _ _ _) (by simp [Value.oneCell']) (by unfold maxLen; omega) (by omega) (by simp; omega) ?_)
            intro v9 w9 hown9 hg9 hnil9
            obtain ⟨va9, vc9, rfl⟩ := owned_slice hown9
            have HNEXT : Hid (KpAt w6 d.fs (k + 1) (y + (n : Int)) (.slice va8 (k + 1) vc8) (.slice va9 (k + 1) vc9) w9) := Lib.hid (by
              have h1 := KpAt.step HK2.out hlt2 (by rw [← HFE.out]; exact (HN.out ▸ HOWN.out)) us HUS2.out HWR.out HE.out HO8.out HG8.out (by rw [← HFE.out, List.map_take]; exact hown9) hg9
              rw [← HFE.out, ← HN.out] at h1
              exact h1)
            clear hown9 hg9 hnil9
            go_wp2_with fail
            go_roundw
            case rel => exact ⟨k + 1, y + n, by go_num, by go_num, HNEXT.out⟩
            case measure => simp [intOf]; omega
          · have hkk2 : ¬ (k : Int) < (d.fs.length : Int) := by omega
            obtain rfl : k = d.fs.length := by omega
            have HY : Hid (y = (D.used d.fs : Int)) := Lib.hid (by have := HK2.out.2.2.1; rw [List.take_length] at this; exact this)
            rw [List.take_length] at HS
            clear hlt2
            obtain ⟨wp, hwp⟩ : ∃ wp : World, wp = wr := ⟨_, rfl⟩
            subst hwp
            have hkpF : RepI wp F keep (.slice ka keep.length kc) := HK.out.same (fun _ h => h) fun j hj => H7.out.below.block j (HF.out j hj)
            have hFw : ∀ j, F j → j < wp.heap.size ∧ ¬ X j := fun j hj => ⟨Nat.lt_of_lt_of_le (HF.out j hj) H7.out.below.size, fun h => by have := H7.out.own j h; have := HF.out j hj; omega⟩
            have HKF := Lib.hid hkpF
            have HFW := Lib.hid hFw
            clear hkpF hFw
            go_wp2_with fail
            refine (DCrash H7.out keep F _ HKF.out HFW.out).mono ?_
            rintro e wc ⟨rfl, hoc, X5, -, h5⟩
            obtain ⟨d5, hd5⟩ : ∃ d5, d5 = (D.crash d keep).2 := ⟨_, rfl⟩
            rw [← hd5] at h5
            have H5 : Hid (DS w X5 gd d5 wc) := Lib.hid h5
            have hfs5 : d5.fs = D.crashFs d.fs keep := by rw [hd5]; rfl
            have HFS5 := Lib.hid hfs5
            have HLEN5 : Hid (d5.fs.length = d.fs.length) := Lib.hid (by rw [hfs5, crashFs_len])
            have hgone : ((D.crash d keep).1 : Int) = y - (D.used d5.fs : Int) := by
              have h1 := (crash_well H7.out.well keep).2
              rw [← hd5] at h1
              rw [HY.out, hfs5]
              rw [hfs5] at h1
              show ((D.used d.fs - D.used (D.crashFs d.fs keep) : Nat) : Int) = _
              omega
            have HU5 : Hid (D.used d5.fs ≤ 120000) := Lib.hid (by
              have h1 := (crash_well H7.out.well keep).2
              rw [← hd5] at h1
              have := HU.out
              omega)
            rw [hgone]
            have hol : ∀ j, w6.heap.size ≤ j → j < wp.heap.size → wc.heap[j]? = wp.heap[j]? := fun j h1 h2 => hoc.block j h2 fun hx => by have := H6.out.lt j hx; omega
            -- the rows, behind the crash
            have HWC : Hid (wc.ownsRow w6.heap.size 41 1 u11 d.fs.length us) := Lib.hid (ownsRow_same HWR.out fun j hj => hol j (HWR.out.lt j hj).1 (HWR.out.lt j hj).2)
            have HSC : Hid (wc.ownsRow w6.heap.size 3 1 u12 d.fs.length (d.fs.map fun f => .int .i64 (f.safe : Int))) := Lib.hid (ownsRow_same HS.out fun j hj => hol j (HS.out.lt j hj).1 (HS.out.lt j hj).2)
            have HEC : Hid (∀ (i : Nat) (h1 : i < d.fs.length) (h2 : i < us.length), wc.ownsRow w6.heap.size 5 1 us[i] d.fs[i].b.length (d.fs[i].b.map byteV)) := Lib.hid fun i h1 h2 => ownsRow_same (HE.out i h1 h2) fun j hj => hol j ((HE.out i h1 h2).lt j hj).1 ((HE.out i h1 h2).lt j hj).2
            obtain ⟨gone, hgo⟩ : ∃ gone, gone = y - (D.used d5.fs : Int) := ⟨_, rfl⟩
            rw [← hgo]
            have HGO := Lib.hid hgo
            have HNC : Hid (∀ k, k < d.fs.length → ∃ g, nma = some ⟨g, 0, none⟩ ∧ g < wc.heap.size ∧ wc.cell? ⟨g, k, none⟩ = (d.fs.map fun f => Value.string f.nm)[k]?) := Lib.hid fun k hk => by
              obtain ⟨g, h1, h2, h3, h4⟩ := row_cell HROW.out k hk
              have h5 := HBQ.out.block g h3
              have hz := HBQ.out.size
              have h6 := hoc.block g (by omega) fun hx => by have := HXL.out g hx; omega
              exact ⟨g, h1, Nat.lt_of_lt_of_le (by omega) hoc.size, (World.cell?_of_block (a := ⟨g, k, none⟩) (h6.trans h5)).trans h4⟩
            clear hd5 hfs5 hgone hol hoc h5 hgo
            obtain ⟨wa, wcap, hwv⟩ := owned_slice HWC.out
            obtain ⟨sa, scap, hsv⟩ := owned_slice HSC.out
            subst hwv hsv
            go_wp2_with fail
            go_loopw [19, 20, 21, 22] (fun lf i _ _ wr => ∃ (k : Nat) (z : Int), i = .int .i64 (k : Int) ∧ lf = .int .i64 z ∧ k ≤ d.fs.length ∧ z = (D.used (d5.fs.take k) : Int) ∧ Below wc.heap.size wc wr) (fun _ i _ _ _ => d.fs.length - (intOf i).toNat)
            case atStart => exact ⟨0, 0, rfl, rfl, Nat.zero_le _, by simp [D.used], Below.refl _ _⟩
            case round =>
              obtain ⟨k, z, rfl, rfl, hk3, hz3, hb3⟩ := hrel
              have HZ3 := Lib.hid hz3
              have HB3 := Lib.hid hb3
              have H8 : Hid (DS w X5 gd d5 wr) := Lib.hid (H5.out.next hb3)
              have hzl : 0 ≤ z ∧ z ≤ 120000 := by
                have h2 := D.used_le d5.fs k
                have h3 := HU5.out
                omega
              obtain ⟨hz0, hz1⟩ := hzl
              clear hz3 hb3
              by_cases hlt3 : k < d.fs.length
              · have hkk3 : (k : Int) < (d.fs.length : Int) := by omega
                obtain ⟨gn, hva, hgn, hcn⟩ := HNC.out k hlt3
                obtain ⟨gw, hwa, -, hgw, hcw⟩ := row_cell HWC.out k hlt3
                obtain ⟨gs, hsa, -, hgs, hcs⟩ := row_cell HSC.out k hlt3
                subst hva hwa hsa
                have hlt5 : k < d5.fs.length := by rw [HLEN5.out]; exact hlt3
                have hku : k < us.length := by rw [HUS2.out]; exact hlt3
                obtain ⟨f, hfe⟩ : ∃ f, f = d.fs[k] := ⟨_, rfl⟩
                obtain ⟨f5, hfe5⟩ : ∃ f5, f5 = d5.fs[k] := ⟨_, rfl⟩
                have hg5 : f5 = crashG keep[k]? f := by
                  rw [hfe5, hfe]
                  have h1 := HFS5.out
                  simp only [h1]
                  exact crashFs_at d.fs keep k hlt3 (by rw [crashFs_len]; exact hlt3)
                have hfm : f ∈ d.fs := by rw [hfe]; exact List.getElem_mem _
                have hfm5 : f5 ∈ d5.fs := by rw [hfe5]; exact List.getElem_mem _
                have hst := stays_le (H7.out.well.1.2.2 f hfm) keep[k]?
                rw [List.getElem?_map, List.getElem?_eq_getElem hlt3, ← hfe] at hcn hcs
                replace hcs : wc.cell? ⟨gs, k, none⟩ = some (.int .i64 (f.safe : Int)) := hcs
                replace hcn : wc.cell? ⟨gn, k, none⟩ = some (.string f.nm) := hcn
                rw [List.getElem?_eq_getElem hku] at hcw
                have heach := HEC.out k hlt3 hku
                rw [← hfe] at heach
                obtain ⟨uk, huk⟩ : ∃ uk, uk = us[k] := ⟨_, rfl⟩
                rw [← huk] at hcw heach
                obtain ⟨ua, uc, hue⟩ := owned_slice heach
                have hnm : f5.nm = f.nm := by rw [hg5]; rfl
                have hb5 : f5.b = f.b.take (D.stays f keep[k]?) := by rw [hg5]; rfl
                have hs5 : f5.safe = D.stays f keep[k]? := by rw [hg5]; rfl
                have hl5 : f5.b.length = D.stays f keep[k]? := by rw [hb5]; simp; omega
                have HBO : Hid (bytesOf d5.fs f.nm = f5.b ∧ D.isThere d5.fs f.nm = true ∧ safeOf d5.fs f.nm = f5.b.length) := Lib.hid (by
                  unfold bytesOf safeOf
                  rw [← hnm, find_some H5.out.well.1.2.1 hfm5]
                  exact ⟨rfl, D.isThere_mem.2 ⟨f5, hfm5, rfl⟩, by show f5.safe = _; rw [hs5, hl5]⟩)
                have HNS := Lib.hid (H6.out.well.names f hfm)
                have HEACH := Lib.hid heach
                have hfu : f.b.length ≤ 120000 := by have := D.used_mem hfm; have := HU.out; omega
                have HZN : Hid (z + (f5.b.length : Int) = (D.used (d5.fs.take (k + 1)) : Int)) := Lib.hid (by
                  rw [HZ3.out, D.used_take d5.fs k hlt5, ← hfe5]; omega)
                have ec : ∀ g j, g < wc.heap.size → wr.cell? ⟨g, j, none⟩ = wc.cell? ⟨g, j, none⟩ := fun g j hg => World.cell?_of_block (a := ⟨g, j, none⟩) (HB3.out.block g hg)
                have hz8 := HB3.out.size
                have hcn' := (ec gn k hgn).trans hcn
                have hgn' : gn < wr.heap.size := by omega
                obtain ⟨L5, hL5⟩ : ∃ L5, L5 = f5.b.length := ⟨_, rfl⟩
                obtain ⟨L, hL⟩ : ∃ L, L = f.b.length := ⟨_, rfl⟩
                obtain ⟨S, hS⟩ : ∃ S, S = f.safe := ⟨_, rfl⟩
                rw [← hL5] at HZN hl5
                rw [← hL] at hfu
                rw [← hS] at hcs
                have hSL : S ≤ L5 := by omega
                have hLL : L5 ≤ L := by omega
                have HL5 := Lib.hid hL5
                have HB5 := Lib.hid hb5
                have HLS : Hid (L5 = D.stays f keep[k]? ∧ L = f.b.length) := Lib.hid ⟨hl5, hL⟩
                subst hue
                rw [← hL] at hcw HEACH
                clear hfe hfe5 hg5 hfm hfm5 hst heach huk hnm hb5 hs5 hl5 hL5 hL hS ec hcn hku
                go_wp2_with fail
                refine (PRead_any d5 X5 gd f.nm wr H8.out.dsk H8.out.well.1.2.1 HNS.out (by have := HU5.out; omega)).mono ?_
                rintro e w9 ⟨v, rfl, hown⟩
                rw [HBO.out.1] at hown
                rw [HBO.out.2.1]
                have h9b := hown.1
                have hst1 := fun m => run_string (P := Try.prog) (w := w9.drewN m) (hown.rep.same (fun _ h => h) fun _ _ => rfl) 41 5 9 Try.underlying41 Try.underlying5 Try.underlying9
                obtain ⟨va, vc, rfl⟩ := hown.slice
                rw [← HL5.out]
                simp only [← HL5.out] at hst1
                have H10 : Hid (DS w X5 gd d5 w9) := Lib.hid (H8.out.next h9b)
                have hb10 : Below wc.heap.size wc w9 := HB3.out.trans (h9b.mono hz8)
                have HB10 := Lib.hid hb10
                have ec : ∀ g j, g < wc.heap.size → w9.cell? ⟨g, j, none⟩ = wc.cell? ⟨g, j, none⟩ := fun g j hg => World.cell?_of_block (a := ⟨g, j, none⟩) (hb10.block g hg)
                have hcn9 : w9.cell? ⟨gn, k, none⟩ = some (.string f.nm) := by rw [ec gn k hgn, ← hcn']; exact (World.cell?_of_block (a := ⟨gn, k, none⟩) (HB3.out.block gn hgn)).symm
                have hcw9 := (ec gw k hgw).trans hcw
                have hcs9 := (ec gs k hgs).trans hcs
                have hz9 := hb10.size
                have hgn9 : gn < w9.heap.size := by omega
                have hgw9 : gw < w9.heap.size := by omega
                have hgs9 : gs < w9.heap.size := by omega
                have hrep : RepB wc (fun b => b < wc.heap.size) f.b (.slice ua L uc) := (RepB.of_own (by rw [← HLS.out.2]; exact HEACH.out)).same (fun _ h => h.2) fun _ _ => rfl
                have hst2 := fun m => run_string (P := Try.prog) (w := w9.drewN m) ((hrep.take L5 (by rw [← HLS.out.2]; exact hLL)).same (w' := w9.drewN m) (fun _ h => h) fun j hj => hb10.block j hj) 41 5 9 Try.underlying41 Try.underlying5 Try.underlying9
                have hbe : f.b.take L5 = f5.b := by rw [HB5.out, HLS.out.1]
                simp only [hbe] at hst2
                have hLc : L ≤ uc ∧ uc ≤ 9223372036854775807 := by
                  rcases HEACH.out.2 with ⟨h1, h2⟩ | ⟨g, cap, cur, h1, -, -, h3, h4, -⟩
                  · cases h1; exact ⟨Nat.le_refl _, by omega⟩
                  · cases h1; exact ⟨h3, by unfold maxLen at h4; exact h4⟩
                obtain ⟨hLc1, hLc2⟩ := hLc
                have hsf : ∀ m, Calls Try.prog 18 #[.pointer (some ⟨gd, 0, none⟩), .string f.nm] (w9.drewN m) fun e w' => e = .returned (.int .i64 (L5 : Int)) ∧ w' = w9.drewN m := fun m => (PSafe_any d5 X5 gd f.nm (w9.drewN m) (H10.out.dsk.1.same (fun _ h => h) fun _ _ => rfl) H10.out.well.1.2.1 HNS.out).mono fun e w' h => ⟨by rw [h.1, HBO.out.2.2, ← HL5.out], h.2.symm⟩
                have HSF := Lib.hid hsf
                obtain ⟨sq, hsq⟩ : ∃ sq, sq = strOf f5.b := ⟨_, rfl⟩
                simp only [← hsq] at hst1 hst2
                have g1 : decide ((L5 : Int) < (S : Int)) = false := by simp; omega
                have g2 : decide ((L : Int) < (L5 : Int)) = false := by simp; omega
                have g3 : (L5 : Int) ≤ (uc : Int) := by omega
                have g1' : decide (L5 < S) = false := by simp; omega
                have g2' : decide (L < L5) = false := by simp; omega
                have g3' : L5 ≤ uc := by omega
                clear hown h9b hb10 ec hrep hbe hsf hsq hcn' hcw hcs hSL
                go_wp2_with fail
                go_quiet ((go_at_call 18; exact Calls.quiet_of_same (HSF.out _)))
                have HBN : Hid (∀ m, Below wc.heap.size wc (w9.drewN m)) := Lib.hid fun m => ⟨HB10.out.os, HB10.out.tape, HB10.out.output, HB10.out.size, HB10.out.block⟩
                clear hst1 hst2 hcn9 hcw9 hcs9 g1 g2 g3 g1' g2' g3'
                go_wp2_with fail
                go_roundw
                case rel => exact ⟨k + 1, z + (L5 : Int), by go_num, rfl, by omega, HZN.out, HBN.out _⟩
                case measure => simp [intOf]; omega
              · have hkk3 : ¬ (k : Int) < (d.fs.length : Int) := by omega
                obtain rfl : k = d.fs.length := by omega
                have hEq : y - z = gone := by
                  have h1 := HZ3.out
                  rw [List.take_of_length_le (by rw [HLEN5.out]; exact Nat.le_refl _)] at h1
                  have h2 := HGO.out
                  omega
                have hy1 : y ≤ 120000 := by have := HY.out; have := HU.out; omega
                have hy0 : 0 ≤ y := by have := HY.out; omega
                have HAG : Hid ((D.crash d5 []).1 = 0) := Lib.hid (by
                  have h1 : ∀ f ∈ d5.fs, f.safe = f.b.length := fun f hf => by
                    obtain ⟨j, hj, rfl⟩ := List.mem_iff_getElem.1 hf
                    have h2 := HFS5.out
                    have hj2 : j < d.fs.length := by rw [← HLEN5.out]; exact hj
                    have h3 : d5.fs[j] = crashG keep[j]? d.fs[j] := by
                      simp only [h2]
                      exact crashFs_at d.fs keep j hj2 (by rw [crashFs_len]; exact hj2)
                    have h4 := stays_le (H7.out.well.1.2.2 _ (List.getElem_mem hj2)) keep[j]?
                    rw [h3]
                    unfold crashG
                    simp
                    omega
                  unfold D.crash
                  rw [crash_again d5.fs h1]
                  simp)
                clear hlt3
                go_wp2_with fail
                refine (Names_any d5 X5 gd wr H8.out.dsk H8.out.well.1.2.1 (by have := H8.out.well.1.1.1; omega)).mono ?_
                rintro e w9 ⟨v, rfl, hb9, hrow9⟩
                obtain ⟨va, vc, rfl⟩ := owned_slice hrow9
                rw [HLEN5.out]
                have H9 : Hid (DS w X5 gd d5 w9) := Lib.hid (H8.out.next hb9)
                clear hb9 hrow9
                go_wp2_with fail
                refine (DCrash H9.out [] (fun _ => False) (.slice none 0 0) (.inl ⟨rfl, Bare.nil⟩) (fun _ h => h.elim)).mono ?_
                rintro e w10 ⟨rfl, -, X10, -, h10⟩
                rw [HAG.out]
                have H10 := Lib.hid h10
                clear h10
                go_wp2_with fail
                go_ret
                exact ⟨rfl, H10.out.below⟩
end Go.Proofs.Ytgiipkmkmomofaa.M
