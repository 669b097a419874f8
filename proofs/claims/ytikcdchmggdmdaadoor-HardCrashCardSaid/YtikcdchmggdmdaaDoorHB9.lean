/- The law HardCrash. -/
import Derived.Test.YtikcdchmggdmdaaDoorHB8
import Derived.LoopN
namespace Go.Proofs.YtikcdchmggdmdaaDoor.M
open Go.RowKit Go.Maps
open D (Fl Dk)

theorem all_follow {s : Int × Int} {l : List (Int × Int)} (h : ∀ e ∈ l, follows s e = true) (hn : l ≠ []) : followsAll s l = true := by
  have one : ∀ e ∈ l, isState s = true ∧ may s e = true := fun e he => by
    have h1 := h e he
    rw [← follows_one] at h1
    unfold followsAll at h1
    simpa using h1
  unfold followsAll
  rw [Bool.and_eq_true]
  constructor
  · cases l with
    | nil => exact absurd rfl hn
    | cons a l => exact (one a (by simp)).1
  · rw [List.all_eq_true]
    exact fun e he => (one e he).2

theorem follows_self {s e : Int × Int} (h : follows s e = true) : follows s s = true := by
  unfold follows at *
  have h := of_decide_eq_true h
  exact decide_eq_true ⟨h.1, h.2.1, .inr ⟨rfl, .inl rfl⟩⟩

/-- The state at the head of the loop. -/
def CrAt (w0 : World) (gd : Nat) (k : Nat) (hv sv : Value) (wr : World) : Prop :=
  ∃ gh d has L, hv = .pointer (some ⟨gh, 0, none⟩) ∧ CS w0 gd gh d has (L ++ [has]) sv wr ∧ Inv d k has ∧ (∀ e ∈ L ++ [has], follows has e = true) ∧ L.length ≤ k

set_option maxRecDepth 20000 in
set_option maxHeartbeats 12800000 in
theorem HardCrash_any (sts : List (Int × Int)) (stops keep : List Int) (F : Nat → Prop) (v0 v1 v2 : Value) (w : World) (hv0 : RepSts w F sts v0) (hv1 : RepI w F stops v1) (hv2 : RepI w F keep v2) (hF : ∀ k, F k → k < w.heap.size) (hT : Hid (Tab w)) :
    Calls Tryd.prog 4 #[v0, v1, v2] w fun e w' => e = .returned (.bool true) ∧ Below w.heap.size w w' := by
  obtain ⟨sa, sc, rfl, hsl⟩ := hv0.slice
  obtain ⟨pa, pc, rfl, hpl⟩ := hv1.slice
  obtain ⟨ka, kc, rfl, hkl⟩ := hv2.slice
  have HV0 := Lib.hid hv0
  have HV1 := Lib.hid hv1
  have HV2 := Lib.hid hv2
  have HF := Lib.hid hF
  clear hv0 hv1 hv2 hF
  by_cases hbig : 60 < sts.length ∨ 100 < keep.length
  · have HA : Hid (∀ wx : World, Below w.heap.size w wx → Calls Tryd.prog 6 #[] wx fun e w' => e = .returned (.bool true) ∧ Below w.heap.size w w') := Lib.hid fun wx hb =>
      (awake4_any wx (Lib.hid (hT.out.next hb))).mono fun e w' h => ⟨h.1, hb.trans (h.2.mono hb.size)⟩
    rcases (show 60 < (sts.length : Int) ∨ (¬ 60 < (sts.length : Int) ∧ 100 < (keep.length : Int)) by omega) with q | ⟨q, q2⟩
    all_goals
      clear hbig
      go_enter Tryd.func4, Tryd.ntmps4
      go_wp2_with fail
      refine (HA.out w (Below.refl _ _)).mono ?_
      rintro e w0 ⟨rfl, hb0⟩
      go_wp2_with fail
      refine (HA.out w0 hb0).mono ?_
      rintro e w1 ⟨rfl, hb1⟩
      go_wp2_with fail
      go_ret
      exact ⟨rfl, hb1⟩
  · have q1 : decide ((60 : Int) < (sts.length : Int)) = false := by simp; omega
    have q2 : decide ((100 : Int) < (keep.length : Int)) = false := by simp; omega
    have H60 : Hid (sts.length ≤ 60) := Lib.hid (by omega)
    clear hbig
    go_enter Tryd.func4, Tryd.ntmps4
    go_wp2_with fail
    refine (awake4_any w hT).mono ?_
    rintro e w0 ⟨rfl, hb0⟩
    have HB0 := Lib.hid hb0
    have HT0 : Hid (Tab w0) := Lib.hid (hT.out.next hb0)
    clear hb0
    go_wp2_with fail
    refine (made_any 10000 w0 (by omega) (by omega)).mono ?_
    rintro e w1 ⟨gd, gr, X1, rfl, hd1, -, -, -⟩
    have H1 : Hid (DS w0 X1 gd (fresh 10000) w1) := Lib.hid hd1
    have I0 : Hid (Inv (fresh 10000) 0 (0, -1)) := Lib.hid (Inv.fresh (by omega))
    obtain ⟨d0, hd0⟩ : ∃ d0, d0 = fresh 10000 := ⟨_, rfl⟩
    rw [← hd0] at H1 I0
    clear hd1 hd0
    go_wp2_with fail
    refine (Open_any d0 X1 gd w1 H1.out.dsk H1.out.well.1.2.1 (Nat.le_trans I0.out.used (by decide)) (H1.out.tab HT0)).mono ?_
    rintro e w2 ⟨gh, rfl, hb2, hg2, hk2⟩
    rw [I0.out.on] at hk2
    have H2 : Hid (HS w0 X1 gd gh d0 (0, -1) w2) := Lib.hid ⟨H1.out.next hb2, hk2, fun h => by have := H1.out.lt _ h; omega, Nat.le_trans H1.out.below.size hg2⟩
    clear hb2 hg2 hk2
    go_wp2_with fail
    obtain ⟨W, hW⟩ : ∃ W, W = w2.alloc (.cells #[.int .i64 0, .int .i64 (-1)] 23) := ⟨_, rfl⟩
    have HCR : Hid (CrAt w0 gd 0 (.pointer (some ⟨gh, 0, none⟩)) (.slice (some ⟨w2.heap.size, 0, none⟩) 1 1) W) := Lib.hid (by
      have hb := below_alloc w2 (.cells #[.int .i64 0, .int .i64 (-1)] 23)
      refine ⟨gh, d0, (0, -1), [], rfl, ⟨⟨X1, ?_, fun g hg => ?_⟩, ?_⟩, I0.out, fun e he => ?_, Nat.zero_le _⟩
      · rw [hW]; exact H2.out.next hb
      · obtain rfl : w2.heap.size = g := by cases hg; rfl
        exact ⟨fun hx => by have := H2.out.ds.lt _ hx; omega, by have := lt_of_heap H2.out.blk; omega⟩
      · rw [hW]
        exact World.ownsRow_lit w2 #[.int .i64 0, .int .i64 (-1)] 1 (base := w0.heap.size) (e := 23) (size := 2) H2.out.ds.below.size (by unfold maxLen; omega) rfl
      · have e2 : e = (0, -1) := by simpa using he
        rw [e2]
        decide)
    rw [← hW]
    clear hW
    go_loopw [9, 11, 12, 13] (fun hv sv tv i wr => ∃ k : Nat, k ≤ sts.length ∧ i = .int .i64 (k : Int) ∧ tv = .slice none 0 0 ∧ CrAt w0 gd k hv sv wr) (fun _ _ _ i _ => sts.length - (intOf i).toNat)
    case atStart => exact ⟨0, Nat.zero_le _, rfl, rfl, HCR.out⟩
    case round =>
      obtain ⟨k, hk, rfl, rfl, gh, d, has, L, rfl, hcs, hinv, hall, hLl⟩ := hrel
      have HI := Lib.hid hinv
      have HALL := Lib.hid hall
      have HLL := Lib.hid hLl
      have HBW : Hid (Below w.heap.size w wr) := Lib.hid (HB0.out.trans (hcs.below.mono HB0.out.size))
      obtain ⟨ra, rc, hra⟩ := hcs.row.slice
      rw [List.length_append, List.length_singleton] at hra
      subst hra
      have HCS := Lib.hid hcs
      have hk60 : k ≤ 60 := Nat.le_trans hk H60.out
      clear hcs hinv hall hLl
      have HST : Hid (∀ (hlt : k < sts.length), ∃ b off, sa = some ⟨b, off, none⟩ ∧ b < w.heap.size ∧ ∀ wx : World, Below w.heap.size w wx → wx.cell? ⟨b, off + k * 2, none⟩ = some (.int .i64 sts[k].1) ∧ wx.cell? ⟨b, off + k * 2 + 1, none⟩ = some (.int .i64 sts[k].2)) := Lib.hid fun hlt => by
        obtain ⟨b, off, h1, h2, h3, h4⟩ := HV0.out.elem k hlt
        have hbz := HF.out b h2
        exact ⟨b, off, h1, hbz, fun wx hb => ⟨(hb.cell hbz).trans h3, (hb.cell hbz).trans h4⟩⟩
      by_cases hlt : k < sts.length
      · have hkk : (k : Int) < (sts.length : Int) := by omega
        -- the stop that may come ahead of the save
        have hst : (¬ (k : Int) < (stops.length : Int)) ∨ (∃ (b off : Nat) (x : Int), (k : Int) < (stops.length : Int) ∧ pa = some ⟨b, off, none⟩ ∧ b < w.heap.size ∧ wr.cell? ⟨b, off + k, none⟩ = some (.int .i64 x) ∧ (¬ 0 ≤ x ∨ 0 ≤ x)) := by
          by_cases h : k < stops.length
          · obtain ⟨b, off, hpa, hFb, hc, -, -⟩ := (HV1.out.same (w' := wr) (fun _ h => h) fun j hj => HBW.out.block j (HF.out j hj)).elem k h
            exact .inr ⟨b, off, _, by omega, hpa, HF.out b hFb, hc, by omega⟩
          · exact .inl (by omega)
        obtain ⟨b, off, rfl, hbz0, hload⟩ := HST.out hlt
        obtain ⟨⟨st, sv⟩, hs⟩ : ∃ s, s = sts[k] := ⟨_, rfl⟩
        rw [← hs] at hload
        have HLOAD := Lib.hid hload
        clear hs hload
        obtain ⟨e0, e1⟩ := HLOAD.out wr HBW.out
        have ebz : b < wr.heap.size := Nat.lt_of_lt_of_le hbz0 HBW.out.size
        have HSTEP : Hid (∀ (w3 : World) (d3 : Dk), CS w0 gd gh d3 has (L ++ [has]) (.slice ra (L.length + 1) rc) w3 → Inv d3 k has → ∃ r d4, (Calls Tryd.prog 12 #[.pointer (some ⟨gh, 0, none⟩), .agg #[.int .i64 st, .int .i64 sv]] w3 fun e w4 => e = .returned (.int .i64 r) ∧ CS w0 gd gh d4 (if r = 0 then (st, sv) else has) (L ++ [has]) (.slice ra (L.length + 1) rc) w4) ∧
            ((r = 0 ∧ follows (st, sv) has = true ∧ Inv d4 (k + 1) (st, sv)) ∨ (r = 2 ∧ Inv d4 (k + 1) has) ∨ (r = 32 ∧ follows (st, sv) has = true ∧ ∀ ks, Inv (D.crash d4 ks).2 (k + 1) has ∨ Inv (D.crash d4 ks).2 (k + 1) (st, sv)))) := Lib.hid fun w3 d3 h hi => by
          obtain ⟨⟨X3, h3, hx3⟩, hr3⟩ := h
          obtain ⟨r, d4, s4, hout, -⟩ := save_inv (s := (st, sv)) hi (by unfold top; omega)
          refine ⟨r, d4, (h3.save (s := (st, sv)) (Nat.le_trans hi.used (by decide)) HT0 s4).mono fun e w4 h => ?_, ?_⟩
          · obtain ⟨he, X4, hX4, h4, ho4⟩ := h
            exact ⟨he, CS.call h3 hx3 hr3 ho4 hX4 h4⟩
          · rcases hout with h | ⟨h1, h2, -⟩ | h
            · exact .inl h
            · exact .inr (.inl ⟨h1, by rw [h2]; exact hi.mono (by omega)⟩)
            · exact .inr (.inr h)
        rcases hst with hn | ⟨pb, poff, x, hn, rfl, hpz, hc, hx | hx⟩
        · go_wp2_with fail
          obtain ⟨r, d4, hcall, hout⟩ := HSTEP.out wr d HCS.out HI.out
          refine hcall.mono ?_
          rintro e w4 ⟨rfl, h4⟩
          have HC4 := Lib.hid h4
          have hbw4 : Below w.heap.size w w4 := HB0.out.trans (h4.below.mono HB0.out.size)
          obtain ⟨e0, e1⟩ := HLOAD.out w4 hbw4
          have ebz : b < w4.heap.size := Nat.lt_of_lt_of_le hbz0 hbw4.size
          obtain ⟨ib, hib, hib0, hib1, hib2⟩ := info_parts infoState
          have hLL := HLL.out
          clear hcall h4 hbw4
          rcases hout with ⟨rfl, hf, hi⟩ | ⟨rfl, hi⟩ | ⟨rfl, hf, hcr⟩
          · have HI4 := Lib.hid hi
            have HF4 := Lib.hid hf
            have HCB : Hid (CS w0 gd gh d4 (st, sv) (L ++ [has]) (.slice ra (L.length + 1) rc) (w4.alloc (.cells #[.int .i64 st, .int .i64 sv] 23))) := Lib.hid (HC4.out.next (below_alloc _ _))
            clear HC4 hi hf
            go_wp2_with (at_builtin; refine wpList_append_any _ rfl (.tmp 79) (.tmp 84) 28 rfl w0.heap.size 23 ib (.agg #[.int .i64 0, .int .i64 0]) 2 16 Tryd.underlying28 hib hib0 hib1 hib2 rfl (by decide) _ (L ++ [has]).length (cells2 (L ++ [has])) rfl HCB.out.row _ rfl 1 [.int .i64 st, .int .i64 sv] (yields_one (s := (st, sv)) rfl) (by rw [List.length_append, List.length_singleton]; unfold maxLen; omega) (by rw [List.length_append, List.length_singleton]; omega) HCB.out.below.size ?_)
            intro v5 w5 happ
            have HC5 := Lib.hid (HCB.out.append (s := (st, sv)) (by rw [List.length_append, List.length_singleton]; exact happ))
            obtain ⟨r5, c5, rfl⟩ := HC5.out.row.slice
            clear happ
            go_wp2_with fail
            go_roundw
            case rel =>
              refine ⟨k + 1, by omega, by go_num, rfl, gh, d4, (st, sv), L ++ [has], rfl, HC5.out, HI4.out, fun e he => ?_, by rw [List.length_append, List.length_singleton]; omega⟩
              rcases List.mem_append.1 he with he | he
              · exact follows_trans HF4.out (HALL.out e he)
              · rw [List.mem_singleton.1 he]
                exact follows_self HF4.out
            case measure => simp [intOf]; omega
          · have HI4 := Lib.hid hi
            have HCB : Hid (CS w0 gd gh d4 has (L ++ [has]) (.slice ra (L.length + 1) rc) w4) := HC4
            clear HC4 hi
            go_wp2_with fail
            go_roundw
            case rel => exact ⟨k + 1, by omega, by go_num, rfl, gh, d4, has, L, rfl, HCB.out, HI4.out, HALL.out, by omega⟩
            case measure => simp [intOf]; omega
          · have HCR := Lib.hid hcr
            have HF4 := Lib.hid hf
            have HCB : Hid (CS w0 gd gh d4 has (L ++ [has]) (.slice ra (L.length + 1) rc) w4) := HC4
            clear HC4 hcr hf
            obtain ⟨⟨X4, h4, hx4⟩, hr4⟩ := HCB.out
            have H4 := Lib.hid h4
            have HX4 : Hid (∀ g, (Value.slice ra (L.length + 1) rc).ownBlock = some g → ¬ X4 g ∧ g ≠ gh) := Lib.hid hx4
            have HR4 := Lib.hid hr4
            clear h4 hx4 hr4
            go_wp2_with (at_builtin; refine wpList_append_any _ rfl (.tmp 88) (.tmp 93) 28 rfl w4.heap.size 23 ib (.agg #[.int .i64 0, .int .i64 0]) 2 16 Tryd.underlying28 hib hib0 hib1 hib2 rfl (by decide) (.slice none 0 0) 0 [] rfl (World.ownsRow_nil _ _ _ _) _ rfl 1 [.int .i64 st, .int .i64 sv] (yields_one (s := (st, sv)) rfl) (by unfold maxLen; omega) (by omega) (by simp) ?_)
            intro v5 w5 happ
            obtain ⟨ho5, hg5, -⟩ := happ
            have hb5 : Below (w4.alloc (.cells #[.int .i64 st, .int .i64 sv] 23)).heap.size (w4.alloc (.cells #[.int .i64 st, .int .i64 sv] 23)) w5 := ⟨hg5.os, hg5.tape, hg5.output, hg5.size, fun j hj => hg5.block j hj (by simp [Value.ownBlock])⟩
            have HB45 : Hid (Below w4.heap.size w4 w5) := Lib.hid ((below_alloc _ _).trans (hb5.mono (by simp)))
            have HO5 : Hid (OwnSt w4.heap.size [(st, sv)] v5 w5) := Lib.hid ho5
            obtain ⟨ta, tc, hta⟩ := HO5.out.slice
            rw [List.length_singleton] at hta
            subst hta
            have H5 := Lib.hid (H4.out.next HB45.out)
            have HR5 := Lib.hid (HR4.out.same fun g hg => HB45.out.block g (HR4.out.lt hg).2)
            clear ho5 hg5 hb5 e0 e1 ebz
            go_wp2_with fail
            have hbw5 : Below w.heap.size w w5 := HB0.out.trans (H5.out.ds.below.mono HB0.out.size)
            refine (H5.out.crash keep F _ (HV2.out.same (fun _ h => h) fun j hj => hbw5.block j (HF.out j hj)) (fun j hj => ⟨Nat.lt_of_lt_of_le (HF.out j hj) hbw5.size, fun hx => by
              have a1 := H5.out.ds.own j hx
              have a2 := HF.out j hj
              have a3 := HB0.out.size
              omega⟩)).mono ?_
            rintro e w6 ⟨rfl, X6, hX6, h6, ho6⟩
            have HC6 := Lib.hid (CS.call H5.out HX4.out HR5.out (ho6.mono fun j hj => .inl hj) hX6 h6)
            have HO6 : Hid (OwnSt w4.heap.size [(st, sv)] (.slice ta 1 tc) w6) := Lib.hid (HO5.out.same fun g hg => ho6.block g (HO5.out.lt hg).2 fun hx => by
              have a1 := H4.out.ds.lt g hx
              have a2 := (HO5.out.lt hg).1
              omega)
            obtain ⟨d6, hd6⟩ : ∃ d6, d6 = (D.crash d4 keep).2 := ⟨_, rfl⟩
            obtain ⟨on, hon, hor⟩ : ∃ on, Inv d6 (k + 1) on ∧ (on = has ∨ on = (st, sv)) := by
              rw [hd6]
              rcases HCR.out keep with h | h
              · exact ⟨_, h, .inl rfl⟩
              · exact ⟨_, h, .inr rfl⟩
            rw [← hd6] at HC6
            have HON := Lib.hid hon
            have HOR := Lib.hid hor
            have HFON : Hid (∀ e ∈ L ++ [has], follows on e = true) := Lib.hid fun e he => by
              rcases HOR.out with h | h
              · rw [h]; exact HALL.out e he
              · rw [h]; exact follows_trans HF4.out (HALL.out e he)
            clear hbw5 hX6 h6 ho6 hon hor hd6
            go_wp2_with fail
            obtain ⟨⟨X7, h7, hx7⟩, hr7⟩ := HC6.out
            refine (On_any d6 X7 gd w6 h7.ds.dsk h7.ds.well.1.2.1 (Nat.le_trans HON.out.used (by decide)) (h7.ds.tab HT0)).mono ?_
            rintro e w7 ⟨rfl, hb7⟩
            rw [HON.out.on]
            obtain ⟨ot, ov⟩ := on
            have HC7 := Lib.hid (HC6.out.next hb7)
            have HO7 := Lib.hid (HO6.out.same fun g hg => hb7.block g (HO6.out.lt hg).2)
            clear h7 hx7 hr7 hb7
            go_wp2_with fail
            obtain ⟨W8, hW8⟩ : ∃ W8, W8 = w7.alloc (.cells #[.int .i64 ot, .int .i64 ov] 23) := ⟨_, rfl⟩
            have hb8 : Below w7.heap.size w7 W8 := by rw [hW8]; exact below_alloc _ _
            have hbx8 : W8.heap[w7.heap.size]? = some (.cells #[.int .i64 ot, .int .i64 ov] 23) := by rw [hW8]; exact heap_new _ _ _ rfl
            have HC8 := Lib.hid (HC7.out.next hb8)
            have HO8 := Lib.hid (HO7.out.same fun g hg => hb8.block g (HO7.out.lt hg).2)
            have HX8 := Lib.hid hbx8
            obtain ⟨sb, so, hra, hsF, s0, s1⟩ := HC8.out.row.rep.elem L.length (by simp)
            simp only [List.getElem_append_right (Nat.le_refl _), Nat.sub_self, List.getElem_cons_zero] at s0 s1
            subst hra
            have hsz8 := hsF.2
            obtain ⟨tb, to, hta2, htF, t0, t1⟩ := HO8.out.rep.elem 0 (by simp)
            simp only [List.getElem_cons_zero, Nat.zero_mul, Nat.add_zero] at t0 t1
            subst hta2
            have htz8 := htF.2
            obtain ⟨ht, hv⟩ := has
            obtain ⟨b0, b1, -, -, bz⟩ := block2 hbx8
            obtain ⟨n, hn⟩ : ∃ n, n = L.length := ⟨_, rfl⟩
            rw [← hn] at s0 s1 ⊢
            rw [← hW8]
            have q0 : ∀ w', Below W8.heap.size W8 w' → w'.cell? ⟨w7.heap.size, 0, none⟩ = some (.int .i64 ot) := fun w' hw' => (hw'.cell bz).trans b0
            have q1 : ∀ w', Below W8.heap.size W8 w' → w'.cell? ⟨w7.heap.size, 1, none⟩ = some (.int .i64 ov) := fun w' hw' => (hw'.cell bz).trans b1
            have p0 : ∀ w', Below W8.heap.size W8 w' → w'.cell? ⟨sb, so + n * 2, none⟩ = some (.int .i64 ht) := fun w' hw' => (hw'.cell (p := ⟨sb, so + n * 2, none⟩) hsz8).trans s0
            have p1 : ∀ w', Below W8.heap.size W8 w' → w'.cell? ⟨sb, so + n * 2 + 1, none⟩ = some (.int .i64 hv) := fun w' hw' => (hw'.cell (p := ⟨sb, so + n * 2 + 1, none⟩) hsz8).trans s1
            have u0 : ∀ w', Below W8.heap.size W8 w' → w'.cell? ⟨tb, to, none⟩ = some (.int .i64 st) := fun w' hw' => (hw'.cell (p := ⟨tb, to, none⟩) htz8).trans t0
            have u1 : ∀ w', Below W8.heap.size W8 w' → w'.cell? ⟨tb, to + 1, none⟩ = some (.int .i64 sv) := fun w' hw' => (hw'.cell (p := ⟨tb, to + 1, none⟩) htz8).trans t1
            have HN := Lib.hid hn
            have hwn : IntKind.i64.wrap (n : Int) = (n : Int) := IntWalk.i64_in _ (by omega)
            have hn1 : (n : Int) < (n : Int) + 1 := by omega
            obtain ⟨e8, he8⟩ : ∃ e8, e8 = decide ((ot, ov) = (ht, hv)) := ⟨_, rfl⟩
            have heq0 : ∀ w' : World, (Op.equalIn 10000 23 (.agg #[.int .i64 ot, .int .i64 ov]) (.agg #[.int .i64 ht, .int .i64 hv])).run Tryd.prog w' = .ok e8 w' := fun w' => by rw [he8]; exact eqState_any _ _ _ _ w'
            have HE8 := Lib.hid he8
            clear he8
            clear hW8 hb8 hbx8 hn s0 s1 t0 t1 b0 b1 hsF htF
            have hS : Below W8.heap.size W8 W8.drew := (Below.refl _ _).drew
            refine wp_region_held (S := fun w' => Below W8.heap.size W8 w') (by kernel_rfl) ?_
            refine H_take (i := 0) (v := ?_) rfl (by as_aux_lemma => kernel_rfl) (by as_aux_lemma => kernel_rfl) (by as_aux_lemma => kernel_rfl) (fun _ _ _ h => h) (by rfl) hS ?_ ?_
            rotate_left
            · intro w' hw'; go_simp; with_reducible rfl
            go_simp
            refine H_take (i := 1) (v := ?_) rfl (by as_aux_lemma => kernel_rfl) (by as_aux_lemma => kernel_rfl) (by as_aux_lemma => kernel_rfl) (fun _ _ _ h => h) (by rfl) hS ?_ ?_
            rotate_left
            · intro w' hw'; go_simp; with_reducible rfl
            go_simp
            refine H_take (i := 2) (v := ?_) rfl (by as_aux_lemma => kernel_rfl) (by as_aux_lemma => kernel_rfl) (by as_aux_lemma => kernel_rfl) (fun _ _ _ h => h) (by rfl) hS ?_ ?_
            rotate_left
            · intro w' hw'; go_simp; with_reducible rfl
            go_simp
            refine H_take (i := 3) (v := ?_) rfl (by as_aux_lemma => kernel_rfl) (by as_aux_lemma => kernel_rfl) (by as_aux_lemma => kernel_rfl) (fun _ _ _ h => h) (by rfl) hS ?_ ?_
            rotate_left
            · intro w' hw'; go_simp; with_reducible rfl
            go_simp
            refine H_take (i := 4) (v := ?_) rfl (by as_aux_lemma => kernel_rfl) (by as_aux_lemma => kernel_rfl) (by as_aux_lemma => kernel_rfl) (fun _ _ _ h => h) (by rfl) hS ?_ ?_
            rotate_left
            · intro w' hw'; go_simp; with_reducible rfl
            go_simp
            refine H_take (i := 5) (v := ?_) rfl (by as_aux_lemma => kernel_rfl) (by as_aux_lemma => kernel_rfl) (by as_aux_lemma => kernel_rfl) (fun _ _ _ h => h) (by rfl) hS ?_ ?_
            rotate_left
            · intro w' hw'; go_simp; with_reducible rfl
            go_simp
            refine H_take (i := 6) (v := ?_) rfl (by as_aux_lemma => kernel_rfl) (by as_aux_lemma => kernel_rfl) (by as_aux_lemma => kernel_rfl) (fun _ _ _ h => h) (by rfl) hS ?_ ?_
            rotate_left
            · intro w' hw'; go_simp; with_reducible rfl
            go_simp
            refine H_take (i := 7) (v := ?_) rfl (by as_aux_lemma => kernel_rfl) (by as_aux_lemma => kernel_rfl) (by as_aux_lemma => kernel_rfl) (fun _ _ _ h => h) (by rfl) hS ?_ ?_
            rotate_left
            · intro w' hw'; go_simp; with_reducible rfl
            go_simp
            refine H_take (i := 8) (v := ?_) rfl (by as_aux_lemma => kernel_rfl) (by as_aux_lemma => kernel_rfl) (by as_aux_lemma => kernel_rfl) (fun _ _ _ h => h) (by rfl) hS ?_ ?_
            rotate_left
            · intro w' hw'; go_simp; with_reducible rfl
            go_simp
            refine wpAnyH_done (by as_aux_lemma => kernel_rfl) ?_ _
            obtain ⟨W9, hW9⟩ : ∃ W9, W9 = W8.drew := ⟨_, rfl⟩
            rw [← hW9]
            have hb9 : Below W8.heap.size W8 W9 := by rw [hW9]; exact hS
            have HBX : Hid (W9.heap[w7.heap.size]? = some (.cells #[.int .i64 ot, .int .i64 ov] 23)) := Lib.hid (old_below HX8.out hb9)
            have HC9 : Hid (CS w0 gd gh d6 (ht, hv) (L ++ [(ht, hv)]) (.slice (some ⟨sb, so, none⟩) (n + 1) rc) W9) := Lib.hid (by rw [HN.out]; exact HC8.out.next hb9)
            have HO9 : Hid (OwnSt w4.heap.size [(st, sv)] (.slice (some ⟨tb, to, none⟩) 1 tc) W9) := Lib.hid (HO8.out.same fun g hg => hb9.block g (HO8.out.lt hg).2)
            clear p0 p1 q0 q1 u0 u1 heq0 hS hb9 hW9 bz hsz8 htz8 HX8 HC8 HO8
            go_wp2_with fail
            refine wp_loop_rounds 2 ?_
            rw [rounds_succ]
            obtain ⟨b0, b1, -, -, bz2⟩ := block2 HBX.out
            obtain ⟨tb', to', hta3, htF3, t0, t1⟩ := HO9.out.rep.elem 0 (by simp)
            cases hta3
            simp only [List.getElem_cons_zero, Nat.zero_mul, Nat.add_zero] at t0 t1
            have htz9 := htF3.2
            have q0 : ∀ w', Below W9.heap.size W9 w' → w'.cell? ⟨w7.heap.size, 0, none⟩ = some (.int .i64 ot) := fun w' hw' => (hw'.cell bz2).trans b0
            have q1 : ∀ w', Below W9.heap.size W9 w' → w'.cell? ⟨w7.heap.size, 1, none⟩ = some (.int .i64 ov) := fun w' hw' => (hw'.cell bz2).trans b1
            have u0 : ∀ w', Below W9.heap.size W9 w' → w'.cell? ⟨tb, to, none⟩ = some (.int .i64 st) := fun w' hw' => (hw'.cell (p := ⟨tb, to, none⟩) htz9).trans t0
            have u1 : ∀ w', Below W9.heap.size W9 w' → w'.cell? ⟨tb, to + 1, none⟩ = some (.int .i64 sv) := fun w' hw' => (hw'.cell (p := ⟨tb, to + 1, none⟩) htz9).trans t1
            clear t0 t1 htF3
            go_wp2_with fail
            have heq1 : e8 = false → ∀ w' : World, (Op.equalIn 10000 23 (.agg #[.int .i64 ot, .int .i64 ov]) (.agg #[.int .i64 st, .int .i64 sv])).run Tryd.prog w' = .ok true w' := fun h w' => by
              rw [eqState_any]
              have h1 := HE8.out
              rw [h] at h1
              have h2 := of_decide_eq_false h1.symm
              rcases HOR.out with h3 | h3
              · exact absurd h3 h2
              · rw [decide_eq_true h3]
            have hS9 : Below W9.heap.size W9 W9.drew := (Below.refl _ _).drew
            cases e8 with
            | true =>
              refine wp_region_held (S := fun w' => Below W9.heap.size W9 w') (by kernel_rfl) ?_
              refine H_take (i := 0) (v := ?_) rfl (by as_aux_lemma => kernel_rfl) (by as_aux_lemma => kernel_rfl) (by as_aux_lemma => kernel_rfl) (fun _ _ _ h => h) (by rfl) hS9 ?_ ?_
              rotate_left
              · intro w' hw'; go_simp; with_reducible rfl
              go_simp
              refine H_take (i := 1) (v := ?_) rfl (by as_aux_lemma => kernel_rfl) (by as_aux_lemma => kernel_rfl) (by as_aux_lemma => kernel_rfl) (fun _ _ _ h => h) (by rfl) hS9 ?_ ?_
              rotate_left
              · intro w' hw'; go_simp; with_reducible rfl
              go_simp
              refine H_skip (i := 2) rfl (by as_aux_lemma => kernel_rfl) (by as_aux_lemma => kernel_rfl) (by as_aux_lemma => kernel_rfl) (fun _ _ _ h => h) (by rfl) hS9 ?_
              go_simp
              refine H_skip (i := 3) rfl (by as_aux_lemma => kernel_rfl) (by as_aux_lemma => kernel_rfl) (by as_aux_lemma => kernel_rfl) (fun _ _ _ h => h) (by rfl) hS9 ?_
              go_simp
              refine H_skip (i := 4) rfl (by as_aux_lemma => kernel_rfl) (by as_aux_lemma => kernel_rfl) (by as_aux_lemma => kernel_rfl) (fun _ _ _ h => h) (by rfl) hS9 ?_
              go_simp
              refine H_skip (i := 5) rfl (by as_aux_lemma => kernel_rfl) (by as_aux_lemma => kernel_rfl) (by as_aux_lemma => kernel_rfl) (fun _ _ _ h => h) (by rfl) hS9 ?_
              go_simp
              refine H_skip (i := 6) rfl (by as_aux_lemma => kernel_rfl) (by as_aux_lemma => kernel_rfl) (by as_aux_lemma => kernel_rfl) (fun _ _ _ h => h) (by rfl) hS9 ?_
              go_simp
              refine H_skip (i := 7) rfl (by as_aux_lemma => kernel_rfl) (by as_aux_lemma => kernel_rfl) (by as_aux_lemma => kernel_rfl) (fun _ _ _ h => h) (by rfl) hS9 ?_
              go_simp
              refine H_take (i := 8) (v := ?_) rfl (by as_aux_lemma => kernel_rfl) (by as_aux_lemma => kernel_rfl) (by as_aux_lemma => kernel_rfl) (fun _ _ _ h => h) (by rfl) hS9 ?_ ?_
              rotate_left
              · intro w' hw'; go_simp; with_reducible rfl
              go_simp
              refine H_take (i := 9) (v := ?_) rfl (by as_aux_lemma => kernel_rfl) (by as_aux_lemma => kernel_rfl) (by as_aux_lemma => kernel_rfl) (fun _ _ _ h => h) (by rfl) hS9 ?_ ?_
              rotate_left
              · intro w' hw'; go_simp; with_reducible rfl
              go_simp
              refine wpAnyH_done (by as_aux_lemma => kernel_rfl) ?_ _
              clear q0 q1 u0 u1 heq1 hS9
              go_wp2_with fail
              rw [rounds_succ]
              go_wp2_with fail
              have HCA : Hid (CS w0 gd gh d6 (ht, hv) (L ++ [(ht, hv)]) (.slice (some ⟨sb, so, none⟩) (n + 1) rc) W9.drew) := Lib.hid (HC9.out.next (Below.refl _ _).drew)
              refine (Follows_any (ot, ov) (L ++ [(ht, hv)]) _ _ W9.drew HCA.out.row.rep (fun j hj => hj.2)).mono ?_
              rintro e w10 ⟨rfl, hb10⟩
              rw [all_follow HFON.out (by simp)]
              have HC10 := Lib.hid (HCA.out.next hb10)
              have HBX10 := Lib.hid (old_below HBX.out ((Below.refl _ _).drew.trans hb10))
              clear hb10 b0 b1 bz2 htz9
              go_wp2_with fail
              obtain ⟨⟨X10, h10, hx10⟩, hr10⟩ := HC10.out
              refine (Open_any d6 X10 gd w10 h10.ds.dsk h10.ds.well.1.2.1 (Nat.le_trans HON.out.used (by decide)) (h10.ds.tab HT0)).mono ?_
              rintro e w11 ⟨g2, rfl, hb11, hg11, hk11⟩
              rw [HON.out.on] at hk11
              have HC11 := Lib.hid (HC10.out.open (has' := (ot, ov)) hb11 hg11 hk11)
              have HBX11 := Lib.hid (old_below HBX10.out hb11)
              obtain ⟨b0, b1, -, -, bz2⟩ := block2 HBX11.out
              obtain ⟨k0, k1, -, -, -, -, kz⟩ := block3 hk11
              have q0 : ∀ w', Below w11.heap.size w11 w' → w'.cell? ⟨w7.heap.size, 0, none⟩ = some (.int .i64 ot) := fun w' hw' => (hw'.cell bz2).trans b0
              have q1 : ∀ w', Below w11.heap.size w11 w' → w'.cell? ⟨w7.heap.size, 1, none⟩ = some (.int .i64 ov) := fun w' hw' => (hw'.cell bz2).trans b1
              have r0 : ∀ w', Below w11.heap.size w11 w' → w'.cell? ⟨g2, 0, none⟩ = some (.int .i64 ot) := fun w' hw' => (hw'.cell kz).trans k0
              have r1 : ∀ w', Below w11.heap.size w11 w' → w'.cell? ⟨g2, 1, none⟩ = some (.int .i64 ov) := fun w' hw' => (hw'.cell kz).trans k1
              have heq3 : ∀ w' : World, (Op.equalIn 10000 23 (.agg #[.int .i64 ot, .int .i64 ov]) (.agg #[.int .i64 ot, .int .i64 ov])).run Tryd.prog w' = .ok true w' := fun w' => by
                rw [eqState_any, decide_eq_true rfl]
              clear h10 hx10 hr10 hb11 hg11 hk11 b0 b1 k0 k1
              go_wp2_with fail
              have hS11 : Below w11.heap.size w11 w11.drew := (Below.refl _ _).drew
              refine wp_region_held (S := fun w' => Below w11.heap.size w11 w') (by kernel_rfl) ?_
              refine H_take (i := 0) (v := ?_) rfl (by as_aux_lemma => kernel_rfl) (by as_aux_lemma => kernel_rfl) (by as_aux_lemma => kernel_rfl) (fun _ _ _ h => h) (by rfl) hS11 ?_ ?_
              rotate_left
              · intro w' hw'; go_simp; with_reducible rfl
              go_simp
              refine H_take (i := 1) (v := ?_) rfl (by as_aux_lemma => kernel_rfl) (by as_aux_lemma => kernel_rfl) (by as_aux_lemma => kernel_rfl) (fun _ _ _ h => h) (by rfl) hS11 ?_ ?_
              rotate_left
              · intro w' hw'; go_simp; with_reducible rfl
              go_simp
              refine H_take (i := 2) (v := ?_) rfl (by as_aux_lemma => kernel_rfl) (by as_aux_lemma => kernel_rfl) (by as_aux_lemma => kernel_rfl) (fun _ _ _ h => h) (by rfl) hS11 ?_ ?_
              rotate_left
              · intro w' hw'; go_simp; with_reducible rfl
              go_simp
              refine H_take (i := 3) (v := ?_) rfl (by as_aux_lemma => kernel_rfl) (by as_aux_lemma => kernel_rfl) (by as_aux_lemma => kernel_rfl) (fun _ _ _ h => h) (by rfl) hS11 ?_ ?_
              rotate_left
              · intro w' hw'; go_simp; with_reducible rfl
              go_simp
              refine H_take (i := 4) (v := ?_) rfl (by as_aux_lemma => kernel_rfl) (by as_aux_lemma => kernel_rfl) (by as_aux_lemma => kernel_rfl) (fun _ _ _ h => h) (by rfl) hS11 ?_ ?_
              rotate_left
              · intro w' hw'; go_simp; with_reducible rfl
              go_simp
              refine H_take (i := 5) (v := ?_) rfl (by as_aux_lemma => kernel_rfl) (by as_aux_lemma => kernel_rfl) (by as_aux_lemma => kernel_rfl) (fun _ _ _ h => h) (by rfl) hS11 ?_ ?_
              rotate_left
              · intro w' hw'; go_simp; with_reducible rfl
              go_simp
              refine H_take (i := 6) (v := ?_) rfl (by as_aux_lemma => kernel_rfl) (by as_aux_lemma => kernel_rfl) (by as_aux_lemma => kernel_rfl) (fun _ _ _ h => h) (by rfl) hS11 ?_ ?_
              rotate_left
              · intro w' hw'; go_simp; with_reducible rfl
              go_simp
              refine H_take (i := 7) (v := ?_) rfl (by as_aux_lemma => kernel_rfl) (by as_aux_lemma => kernel_rfl) (by as_aux_lemma => kernel_rfl) (fun _ _ _ h => h) (by rfl) hS11 ?_ ?_
              rotate_left
              · intro w' hw'; go_simp; with_reducible rfl
              go_simp
              refine H_take (i := 8) (v := ?_) rfl (by as_aux_lemma => kernel_rfl) (by as_aux_lemma => kernel_rfl) (by as_aux_lemma => kernel_rfl) (fun _ _ _ h => h) (by rfl) hS11 ?_ ?_
              rotate_left
              · intro w' hw'; go_simp; with_reducible rfl
              go_simp
              refine H_take (i := 9) (v := ?_) rfl (by as_aux_lemma => kernel_rfl) (by as_aux_lemma => kernel_rfl) (by as_aux_lemma => kernel_rfl) (fun _ _ _ h => h) (by rfl) hS11 ?_ ?_
              rotate_left
              · intro w' hw'; go_simp; with_reducible rfl
              go_simp
              refine wpAnyH_done (by as_aux_lemma => kernel_rfl) ?_ _
              obtain ⟨W12, hW12⟩ : ∃ W12, W12 = w11.drew := ⟨_, rfl⟩
              rw [← hW12]
              have hb12 : Below w11.heap.size w11 W12 := by rw [hW12]; exact hS11
              have HBX12 := Lib.hid (old_below HBX11.out hb12)
              have HC12 := Lib.hid (HC11.out.next hb12)
              have HCB : Hid (CS w0 gd g2 d6 (ot, ov) (L ++ [(ht, hv)]) (.slice (some ⟨sb, so, none⟩) (n + 1) rc) (W12.alloc (.cells #[.int .i64 ot, .int .i64 ov] 23))) := Lib.hid (HC12.out.next (below_alloc _ _))
              obtain ⟨b0, b1, -, -, bz2⟩ := block2 HBX12.out
              clear q0 q1 r0 r1 heq3 hS11 hb12 hW12 kz
              go_wp2_with (at_builtin; refine wpList_append_any _ rfl (.tmp 146) (.tmp 148) 28 rfl w0.heap.size 23 ib (.agg #[.int .i64 0, .int .i64 0]) 2 16 Tryd.underlying28 hib hib0 hib1 hib2 rfl (by decide) _ (L ++ [(ht, hv)]).length (cells2 (L ++ [(ht, hv)])) rfl HCB.out.row _ rfl 1 [.int .i64 ot, .int .i64 ov] (yields_one (s := (ot, ov)) rfl) (by rw [List.length_append, List.length_singleton]; unfold maxLen; omega) (by rw [List.length_append, List.length_singleton]; omega) HCB.out.below.size ?_)
              intro v13 w13 happ
              have HC13 := Lib.hid (HCB.out.append (s := (ot, ov)) (by rw [List.length_append, List.length_singleton]; exact happ))
              obtain ⟨r13, c13, hv13⟩ := HC13.out.row.slice
              subst hv13
              clear happ
              go_wp2_with fail
              go_roundw
              case rel =>
                refine ⟨k + 1, by omega, by go_num, rfl, g2, d6, (ot, ov), L ++ [(ht, hv)], rfl, HC13.out, HON.out, fun e he => ?_, by rw [List.length_append, List.length_singleton]; omega⟩
                rcases List.mem_append.1 he with he | he
                · exact HFON.out e he
                · rw [List.mem_singleton.1 he]
                  exact follows_self (HFON.out (ht, hv) (by simp))
              case measure => simp [intOf]; omega
            | false =>
              have heq2 := heq1 rfl
              clear heq1
              refine wp_region_held (S := fun w' => Below W9.heap.size W9 w') (by kernel_rfl) ?_
              refine H_take (i := 0) (v := ?_) rfl (by as_aux_lemma => kernel_rfl) (by as_aux_lemma => kernel_rfl) (by as_aux_lemma => kernel_rfl) (fun _ _ _ h => h) (by rfl) hS9 ?_ ?_
              rotate_left
              · intro w' hw'; go_simp; with_reducible rfl
              go_simp
              refine H_take (i := 1) (v := ?_) rfl (by as_aux_lemma => kernel_rfl) (by as_aux_lemma => kernel_rfl) (by as_aux_lemma => kernel_rfl) (fun _ _ _ h => h) (by rfl) hS9 ?_ ?_
              rotate_left
              · intro w' hw'; go_simp; with_reducible rfl
              go_simp
              refine H_take (i := 2) (v := ?_) rfl (by as_aux_lemma => kernel_rfl) (by as_aux_lemma => kernel_rfl) (by as_aux_lemma => kernel_rfl) (fun _ _ _ h => h) (by rfl) hS9 ?_ ?_
              rotate_left
              · intro w' hw'; go_simp; with_reducible rfl
              go_simp
              refine H_take (i := 3) (v := ?_) rfl (by as_aux_lemma => kernel_rfl) (by as_aux_lemma => kernel_rfl) (by as_aux_lemma => kernel_rfl) (fun _ _ _ h => h) (by rfl) hS9 ?_ ?_
              rotate_left
              · intro w' hw'; go_simp; with_reducible rfl
              go_simp
              refine H_take (i := 4) (v := ?_) rfl (by as_aux_lemma => kernel_rfl) (by as_aux_lemma => kernel_rfl) (by as_aux_lemma => kernel_rfl) (fun _ _ _ h => h) (by rfl) hS9 ?_ ?_
              rotate_left
              · intro w' hw'; go_simp; with_reducible rfl
              go_simp
              refine H_take (i := 5) (v := ?_) rfl (by as_aux_lemma => kernel_rfl) (by as_aux_lemma => kernel_rfl) (by as_aux_lemma => kernel_rfl) (fun _ _ _ h => h) (by rfl) hS9 ?_ ?_
              rotate_left
              · intro w' hw'; go_simp; with_reducible rfl
              go_simp
              refine H_take (i := 6) (v := ?_) rfl (by as_aux_lemma => kernel_rfl) (by as_aux_lemma => kernel_rfl) (by as_aux_lemma => kernel_rfl) (fun _ _ _ h => h) (by rfl) hS9 ?_ ?_
              rotate_left
              · intro w' hw'; go_simp; with_reducible rfl
              go_simp
              refine H_take (i := 7) (v := ?_) rfl (by as_aux_lemma => kernel_rfl) (by as_aux_lemma => kernel_rfl) (by as_aux_lemma => kernel_rfl) (fun _ _ _ h => h) (by rfl) hS9 ?_ ?_
              rotate_left
              · intro w' hw'; go_simp; with_reducible rfl
              go_simp
              refine H_take (i := 8) (v := ?_) rfl (by as_aux_lemma => kernel_rfl) (by as_aux_lemma => kernel_rfl) (by as_aux_lemma => kernel_rfl) (fun _ _ _ h => h) (by rfl) hS9 ?_ ?_
              rotate_left
              · intro w' hw'; go_simp; with_reducible rfl
              go_simp
              refine H_take (i := 9) (v := ?_) rfl (by as_aux_lemma => kernel_rfl) (by as_aux_lemma => kernel_rfl) (by as_aux_lemma => kernel_rfl) (fun _ _ _ h => h) (by rfl) hS9 ?_ ?_
              rotate_left
              · intro w' hw'; go_simp; with_reducible rfl
              go_simp
              refine wpAnyH_done (by as_aux_lemma => kernel_rfl) ?_ _
              clear q0 q1 u0 u1 heq2 hS9
              go_wp2_with fail
              rw [rounds_succ]
              go_wp2_with fail
              have HCA : Hid (CS w0 gd gh d6 (ht, hv) (L ++ [(ht, hv)]) (.slice (some ⟨sb, so, none⟩) (n + 1) rc) W9.drew) := Lib.hid (HC9.out.next (Below.refl _ _).drew)
              refine (Follows_any (ot, ov) (L ++ [(ht, hv)]) _ _ W9.drew HCA.out.row.rep (fun j hj => hj.2)).mono ?_
              rintro e w10 ⟨rfl, hb10⟩
              rw [all_follow HFON.out (by simp)]
              have HC10 := Lib.hid (HCA.out.next hb10)
              have HBX10 := Lib.hid (old_below HBX.out ((Below.refl _ _).drew.trans hb10))
              clear hb10 b0 b1 bz2 htz9
              go_wp2_with fail
              obtain ⟨⟨X10, h10, hx10⟩, hr10⟩ := HC10.out
              refine (Open_any d6 X10 gd w10 h10.ds.dsk h10.ds.well.1.2.1 (Nat.le_trans HON.out.used (by decide)) (h10.ds.tab HT0)).mono ?_
              rintro e w11 ⟨g2, rfl, hb11, hg11, hk11⟩
              rw [HON.out.on] at hk11
              have HC11 := Lib.hid (HC10.out.open (has' := (ot, ov)) hb11 hg11 hk11)
              have HBX11 := Lib.hid (old_below HBX10.out hb11)
              obtain ⟨b0, b1, -, -, bz2⟩ := block2 HBX11.out
              obtain ⟨k0, k1, -, -, -, -, kz⟩ := block3 hk11
              have q0 : ∀ w', Below w11.heap.size w11 w' → w'.cell? ⟨w7.heap.size, 0, none⟩ = some (.int .i64 ot) := fun w' hw' => (hw'.cell bz2).trans b0
              have q1 : ∀ w', Below w11.heap.size w11 w' → w'.cell? ⟨w7.heap.size, 1, none⟩ = some (.int .i64 ov) := fun w' hw' => (hw'.cell bz2).trans b1
              have r0 : ∀ w', Below w11.heap.size w11 w' → w'.cell? ⟨g2, 0, none⟩ = some (.int .i64 ot) := fun w' hw' => (hw'.cell kz).trans k0
              have r1 : ∀ w', Below w11.heap.size w11 w' → w'.cell? ⟨g2, 1, none⟩ = some (.int .i64 ov) := fun w' hw' => (hw'.cell kz).trans k1
              have heq3 : ∀ w' : World, (Op.equalIn 10000 23 (.agg #[.int .i64 ot, .int .i64 ov]) (.agg #[.int .i64 ot, .int .i64 ov])).run Tryd.prog w' = .ok true w' := fun w' => by
                rw [eqState_any, decide_eq_true rfl]
              clear h10 hx10 hr10 hb11 hg11 hk11 b0 b1 k0 k1
              go_wp2_with fail
              have hS11 : Below w11.heap.size w11 w11.drew := (Below.refl _ _).drew
              refine wp_region_held (S := fun w' => Below w11.heap.size w11 w') (by kernel_rfl) ?_
              refine H_take (i := 0) (v := ?_) rfl (by as_aux_lemma => kernel_rfl) (by as_aux_lemma => kernel_rfl) (by as_aux_lemma => kernel_rfl) (fun _ _ _ h => h) (by rfl) hS11 ?_ ?_
              rotate_left
              · intro w' hw'; go_simp; with_reducible rfl
              go_simp
              refine H_take (i := 1) (v := ?_) rfl (by as_aux_lemma => kernel_rfl) (by as_aux_lemma => kernel_rfl) (by as_aux_lemma => kernel_rfl) (fun _ _ _ h => h) (by rfl) hS11 ?_ ?_
              rotate_left
              · intro w' hw'; go_simp; with_reducible rfl
              go_simp
              refine H_take (i := 2) (v := ?_) rfl (by as_aux_lemma => kernel_rfl) (by as_aux_lemma => kernel_rfl) (by as_aux_lemma => kernel_rfl) (fun _ _ _ h => h) (by rfl) hS11 ?_ ?_
              rotate_left
              · intro w' hw'; go_simp; with_reducible rfl
              go_simp
              refine H_take (i := 3) (v := ?_) rfl (by as_aux_lemma => kernel_rfl) (by as_aux_lemma => kernel_rfl) (by as_aux_lemma => kernel_rfl) (fun _ _ _ h => h) (by rfl) hS11 ?_ ?_
              rotate_left
              · intro w' hw'; go_simp; with_reducible rfl
              go_simp
              refine H_take (i := 4) (v := ?_) rfl (by as_aux_lemma => kernel_rfl) (by as_aux_lemma => kernel_rfl) (by as_aux_lemma => kernel_rfl) (fun _ _ _ h => h) (by rfl) hS11 ?_ ?_
              rotate_left
              · intro w' hw'; go_simp; with_reducible rfl
              go_simp
              refine H_take (i := 5) (v := ?_) rfl (by as_aux_lemma => kernel_rfl) (by as_aux_lemma => kernel_rfl) (by as_aux_lemma => kernel_rfl) (fun _ _ _ h => h) (by rfl) hS11 ?_ ?_
              rotate_left
              · intro w' hw'; go_simp; with_reducible rfl
              go_simp
              refine H_take (i := 6) (v := ?_) rfl (by as_aux_lemma => kernel_rfl) (by as_aux_lemma => kernel_rfl) (by as_aux_lemma => kernel_rfl) (fun _ _ _ h => h) (by rfl) hS11 ?_ ?_
              rotate_left
              · intro w' hw'; go_simp; with_reducible rfl
              go_simp
              refine H_take (i := 7) (v := ?_) rfl (by as_aux_lemma => kernel_rfl) (by as_aux_lemma => kernel_rfl) (by as_aux_lemma => kernel_rfl) (fun _ _ _ h => h) (by rfl) hS11 ?_ ?_
              rotate_left
              · intro w' hw'; go_simp; with_reducible rfl
              go_simp
              refine H_take (i := 8) (v := ?_) rfl (by as_aux_lemma => kernel_rfl) (by as_aux_lemma => kernel_rfl) (by as_aux_lemma => kernel_rfl) (fun _ _ _ h => h) (by rfl) hS11 ?_ ?_
              rotate_left
              · intro w' hw'; go_simp; with_reducible rfl
              go_simp
              refine H_take (i := 9) (v := ?_) rfl (by as_aux_lemma => kernel_rfl) (by as_aux_lemma => kernel_rfl) (by as_aux_lemma => kernel_rfl) (fun _ _ _ h => h) (by rfl) hS11 ?_ ?_
              rotate_left
              · intro w' hw'; go_simp; with_reducible rfl
              go_simp
              refine wpAnyH_done (by as_aux_lemma => kernel_rfl) ?_ _
              obtain ⟨W12, hW12⟩ : ∃ W12, W12 = w11.drew := ⟨_, rfl⟩
              rw [← hW12]
              have hb12 : Below w11.heap.size w11 W12 := by rw [hW12]; exact hS11
              have HBX12 := Lib.hid (old_below HBX11.out hb12)
              have HC12 := Lib.hid (HC11.out.next hb12)
              have HCB : Hid (CS w0 gd g2 d6 (ot, ov) (L ++ [(ht, hv)]) (.slice (some ⟨sb, so, none⟩) (n + 1) rc) (W12.alloc (.cells #[.int .i64 ot, .int .i64 ov] 23))) := Lib.hid (HC12.out.next (below_alloc _ _))
              obtain ⟨b0, b1, -, -, bz2⟩ := block2 HBX12.out
              clear q0 q1 r0 r1 heq3 hS11 hb12 hW12 kz
              go_wp2_with (at_builtin; refine wpList_append_any _ rfl (.tmp 146) (.tmp 148) 28 rfl w0.heap.size 23 ib (.agg #[.int .i64 0, .int .i64 0]) 2 16 Tryd.underlying28 hib hib0 hib1 hib2 rfl (by decide) _ (L ++ [(ht, hv)]).length (cells2 (L ++ [(ht, hv)])) rfl HCB.out.row _ rfl 1 [.int .i64 ot, .int .i64 ov] (yields_one (s := (ot, ov)) rfl) (by rw [List.length_append, List.length_singleton]; unfold maxLen; omega) (by rw [List.length_append, List.length_singleton]; omega) HCB.out.below.size ?_)
              intro v13 w13 happ
              have HC13 := Lib.hid (HCB.out.append (s := (ot, ov)) (by rw [List.length_append, List.length_singleton]; exact happ))
              obtain ⟨r13, c13, hv13⟩ := HC13.out.row.slice
              subst hv13
              clear happ
              go_wp2_with fail
              go_roundw
              case rel =>
                refine ⟨k + 1, by omega, by go_num, rfl, g2, d6, (ot, ov), L ++ [(ht, hv)], rfl, HC13.out, HON.out, fun e he => ?_, by rw [List.length_append, List.length_singleton]; omega⟩
                rcases List.mem_append.1 he with he | he
                · exact HFON.out e he
                · rw [List.mem_singleton.1 he]
                  exact follows_self (HFON.out (ht, hv) (by simp))
              case measure => simp [intOf]; omega
        · have hpz2 := Nat.lt_of_lt_of_le hpz HBW.out.size
          have hx2 : decide (0 ≤ x) = false := by simp; omega
          clear hx
          go_wp2_with fail
          obtain ⟨r, d4, hcall, hout⟩ := HSTEP.out wr d HCS.out HI.out
          refine hcall.mono ?_
          rintro e w4 ⟨rfl, h4⟩
          have HC4 := Lib.hid h4
          have hbw4 : Below w.heap.size w w4 := HB0.out.trans (h4.below.mono HB0.out.size)
          obtain ⟨e0, e1⟩ := HLOAD.out w4 hbw4
          have ebz : b < w4.heap.size := Nat.lt_of_lt_of_le hbz0 hbw4.size
          obtain ⟨ib, hib, hib0, hib1, hib2⟩ := info_parts infoState
          have hLL := HLL.out
          clear hcall h4 hbw4
          rcases hout with ⟨rfl, hf, hi⟩ | ⟨rfl, hi⟩ | ⟨rfl, hf, hcr⟩
          · have HI4 := Lib.hid hi
            have HF4 := Lib.hid hf
            have HCB : Hid (CS w0 gd gh d4 (st, sv) (L ++ [has]) (.slice ra (L.length + 1) rc) (w4.alloc (.cells #[.int .i64 st, .int .i64 sv] 23))) := Lib.hid (HC4.out.next (below_alloc _ _))
            clear HC4 hi hf
            go_wp2_with (at_builtin; refine wpList_append_any _ rfl (.tmp 79) (.tmp 84) 28 rfl w0.heap.size 23 ib (.agg #[.int .i64 0, .int .i64 0]) 2 16 Tryd.underlying28 hib hib0 hib1 hib2 rfl (by decide) _ (L ++ [has]).length (cells2 (L ++ [has])) rfl HCB.out.row _ rfl 1 [.int .i64 st, .int .i64 sv] (yields_one (s := (st, sv)) rfl) (by rw [List.length_append, List.length_singleton]; unfold maxLen; omega) (by rw [List.length_append, List.length_singleton]; omega) HCB.out.below.size ?_)
            intro v5 w5 happ
            have HC5 := Lib.hid (HCB.out.append (s := (st, sv)) (by rw [List.length_append, List.length_singleton]; exact happ))
            obtain ⟨r5, c5, rfl⟩ := HC5.out.row.slice
            clear happ
            go_wp2_with fail
            go_roundw
            case rel =>
              refine ⟨k + 1, by omega, by go_num, rfl, gh, d4, (st, sv), L ++ [has], rfl, HC5.out, HI4.out, fun e he => ?_, by rw [List.length_append, List.length_singleton]; omega⟩
              rcases List.mem_append.1 he with he | he
              · exact follows_trans HF4.out (HALL.out e he)
              · rw [List.mem_singleton.1 he]
                exact follows_self HF4.out
            case measure => simp [intOf]; omega
          · have HI4 := Lib.hid hi
            have HCB : Hid (CS w0 gd gh d4 has (L ++ [has]) (.slice ra (L.length + 1) rc) w4) := HC4
            clear HC4 hi
            go_wp2_with fail
            go_roundw
            case rel => exact ⟨k + 1, by omega, by go_num, rfl, gh, d4, has, L, rfl, HCB.out, HI4.out, HALL.out, by omega⟩
            case measure => simp [intOf]; omega
          · have HCR := Lib.hid hcr
            have HF4 := Lib.hid hf
            have HCB : Hid (CS w0 gd gh d4 has (L ++ [has]) (.slice ra (L.length + 1) rc) w4) := HC4
            clear HC4 hcr hf
            obtain ⟨⟨X4, h4, hx4⟩, hr4⟩ := HCB.out
            have H4 := Lib.hid h4
            have HX4 : Hid (∀ g, (Value.slice ra (L.length + 1) rc).ownBlock = some g → ¬ X4 g ∧ g ≠ gh) := Lib.hid hx4
            have HR4 := Lib.hid hr4
            clear h4 hx4 hr4
            go_wp2_with (at_builtin; refine wpList_append_any _ rfl (.tmp 88) (.tmp 93) 28 rfl w4.heap.size 23 ib (.agg #[.int .i64 0, .int .i64 0]) 2 16 Tryd.underlying28 hib hib0 hib1 hib2 rfl (by decide) (.slice none 0 0) 0 [] rfl (World.ownsRow_nil _ _ _ _) _ rfl 1 [.int .i64 st, .int .i64 sv] (yields_one (s := (st, sv)) rfl) (by unfold maxLen; omega) (by omega) (by simp) ?_)
            intro v5 w5 happ
            obtain ⟨ho5, hg5, -⟩ := happ
            have hb5 : Below (w4.alloc (.cells #[.int .i64 st, .int .i64 sv] 23)).heap.size (w4.alloc (.cells #[.int .i64 st, .int .i64 sv] 23)) w5 := ⟨hg5.os, hg5.tape, hg5.output, hg5.size, fun j hj => hg5.block j hj (by simp [Value.ownBlock])⟩
            have HB45 : Hid (Below w4.heap.size w4 w5) := Lib.hid ((below_alloc _ _).trans (hb5.mono (by simp)))
            have HO5 : Hid (OwnSt w4.heap.size [(st, sv)] v5 w5) := Lib.hid ho5
            obtain ⟨ta, tc, hta⟩ := HO5.out.slice
            rw [List.length_singleton] at hta
            subst hta
            have H5 := Lib.hid (H4.out.next HB45.out)
            have HR5 := Lib.hid (HR4.out.same fun g hg => HB45.out.block g (HR4.out.lt hg).2)
            clear ho5 hg5 hb5 e0 e1 ebz
            go_wp2_with fail
            have hbw5 : Below w.heap.size w w5 := HB0.out.trans (H5.out.ds.below.mono HB0.out.size)
            refine (H5.out.crash keep F _ (HV2.out.same (fun _ h => h) fun j hj => hbw5.block j (HF.out j hj)) (fun j hj => ⟨Nat.lt_of_lt_of_le (HF.out j hj) hbw5.size, fun hx => by
              have a1 := H5.out.ds.own j hx
              have a2 := HF.out j hj
              have a3 := HB0.out.size
              omega⟩)).mono ?_
            rintro e w6 ⟨rfl, X6, hX6, h6, ho6⟩
            have HC6 := Lib.hid (CS.call H5.out HX4.out HR5.out (ho6.mono fun j hj => .inl hj) hX6 h6)
            have HO6 : Hid (OwnSt w4.heap.size [(st, sv)] (.slice ta 1 tc) w6) := Lib.hid (HO5.out.same fun g hg => ho6.block g (HO5.out.lt hg).2 fun hx => by
              have a1 := H4.out.ds.lt g hx
              have a2 := (HO5.out.lt hg).1
              omega)
            obtain ⟨d6, hd6⟩ : ∃ d6, d6 = (D.crash d4 keep).2 := ⟨_, rfl⟩
            obtain ⟨on, hon, hor⟩ : ∃ on, Inv d6 (k + 1) on ∧ (on = has ∨ on = (st, sv)) := by
              rw [hd6]
              rcases HCR.out keep with h | h
              · exact ⟨_, h, .inl rfl⟩
              · exact ⟨_, h, .inr rfl⟩
            rw [← hd6] at HC6
            have HON := Lib.hid hon
            have HOR := Lib.hid hor
            have HFON : Hid (∀ e ∈ L ++ [has], follows on e = true) := Lib.hid fun e he => by
              rcases HOR.out with h | h
              · rw [h]; exact HALL.out e he
              · rw [h]; exact follows_trans HF4.out (HALL.out e he)
            clear hbw5 hX6 h6 ho6 hon hor hd6
            go_wp2_with fail
            obtain ⟨⟨X7, h7, hx7⟩, hr7⟩ := HC6.out
            refine (On_any d6 X7 gd w6 h7.ds.dsk h7.ds.well.1.2.1 (Nat.le_trans HON.out.used (by decide)) (h7.ds.tab HT0)).mono ?_
            rintro e w7 ⟨rfl, hb7⟩
            rw [HON.out.on]
            obtain ⟨ot, ov⟩ := on
            have HC7 := Lib.hid (HC6.out.next hb7)
            have HO7 := Lib.hid (HO6.out.same fun g hg => hb7.block g (HO6.out.lt hg).2)
            clear h7 hx7 hr7 hb7
            go_wp2_with fail
            obtain ⟨W8, hW8⟩ : ∃ W8, W8 = w7.alloc (.cells #[.int .i64 ot, .int .i64 ov] 23) := ⟨_, rfl⟩
            have hb8 : Below w7.heap.size w7 W8 := by rw [hW8]; exact below_alloc _ _
            have hbx8 : W8.heap[w7.heap.size]? = some (.cells #[.int .i64 ot, .int .i64 ov] 23) := by rw [hW8]; exact heap_new _ _ _ rfl
            have HC8 := Lib.hid (HC7.out.next hb8)
            have HO8 := Lib.hid (HO7.out.same fun g hg => hb8.block g (HO7.out.lt hg).2)
            have HX8 := Lib.hid hbx8
            obtain ⟨sb, so, hra, hsF, s0, s1⟩ := HC8.out.row.rep.elem L.length (by simp)
            simp only [List.getElem_append_right (Nat.le_refl _), Nat.sub_self, List.getElem_cons_zero] at s0 s1
            subst hra
            have hsz8 := hsF.2
            obtain ⟨tb, to, hta2, htF, t0, t1⟩ := HO8.out.rep.elem 0 (by simp)
            simp only [List.getElem_cons_zero, Nat.zero_mul, Nat.add_zero] at t0 t1
            subst hta2
            have htz8 := htF.2
            obtain ⟨ht, hv⟩ := has
            obtain ⟨b0, b1, -, -, bz⟩ := block2 hbx8
            obtain ⟨n, hn⟩ : ∃ n, n = L.length := ⟨_, rfl⟩
            rw [← hn] at s0 s1 ⊢
            rw [← hW8]
            have q0 : ∀ w', Below W8.heap.size W8 w' → w'.cell? ⟨w7.heap.size, 0, none⟩ = some (.int .i64 ot) := fun w' hw' => (hw'.cell bz).trans b0
            have q1 : ∀ w', Below W8.heap.size W8 w' → w'.cell? ⟨w7.heap.size, 1, none⟩ = some (.int .i64 ov) := fun w' hw' => (hw'.cell bz).trans b1
            have p0 : ∀ w', Below W8.heap.size W8 w' → w'.cell? ⟨sb, so + n * 2, none⟩ = some (.int .i64 ht) := fun w' hw' => (hw'.cell (p := ⟨sb, so + n * 2, none⟩) hsz8).trans s0
            have p1 : ∀ w', Below W8.heap.size W8 w' → w'.cell? ⟨sb, so + n * 2 + 1, none⟩ = some (.int .i64 hv) := fun w' hw' => (hw'.cell (p := ⟨sb, so + n * 2 + 1, none⟩) hsz8).trans s1
            have u0 : ∀ w', Below W8.heap.size W8 w' → w'.cell? ⟨tb, to, none⟩ = some (.int .i64 st) := fun w' hw' => (hw'.cell (p := ⟨tb, to, none⟩) htz8).trans t0
            have u1 : ∀ w', Below W8.heap.size W8 w' → w'.cell? ⟨tb, to + 1, none⟩ = some (.int .i64 sv) := fun w' hw' => (hw'.cell (p := ⟨tb, to + 1, none⟩) htz8).trans t1
            have HN := Lib.hid hn
            have hwn : IntKind.i64.wrap (n : Int) = (n : Int) := IntWalk.i64_in _ (by omega)
            have hn1 : (n : Int) < (n : Int) + 1 := by omega
            obtain ⟨e8, he8⟩ : ∃ e8, e8 = decide ((ot, ov) = (ht, hv)) := ⟨_, rfl⟩
            have heq0 : ∀ w' : World, (Op.equalIn 10000 23 (.agg #[.int .i64 ot, .int .i64 ov]) (.agg #[.int .i64 ht, .int .i64 hv])).run Tryd.prog w' = .ok e8 w' := fun w' => by rw [he8]; exact eqState_any _ _ _ _ w'
            have HE8 := Lib.hid he8
            clear he8
            clear hW8 hb8 hbx8 hn s0 s1 t0 t1 b0 b1 hsF htF
            have hS : Below W8.heap.size W8 W8.drew := (Below.refl _ _).drew
            refine wp_region_held (S := fun w' => Below W8.heap.size W8 w') (by kernel_rfl) ?_
            refine H_take (i := 0) (v := ?_) rfl (by as_aux_lemma => kernel_rfl) (by as_aux_lemma => kernel_rfl) (by as_aux_lemma => kernel_rfl) (fun _ _ _ h => h) (by rfl) hS ?_ ?_
            rotate_left
            · intro w' hw'; go_simp; with_reducible rfl
            go_simp
            refine H_take (i := 1) (v := ?_) rfl (by as_aux_lemma => kernel_rfl) (by as_aux_lemma => kernel_rfl) (by as_aux_lemma => kernel_rfl) (fun _ _ _ h => h) (by rfl) hS ?_ ?_
            rotate_left
            · intro w' hw'; go_simp; with_reducible rfl
            go_simp
            refine H_take (i := 2) (v := ?_) rfl (by as_aux_lemma => kernel_rfl) (by as_aux_lemma => kernel_rfl) (by as_aux_lemma => kernel_rfl) (fun _ _ _ h => h) (by rfl) hS ?_ ?_
            rotate_left
            · intro w' hw'; go_simp; with_reducible rfl
            go_simp
            refine H_take (i := 3) (v := ?_) rfl (by as_aux_lemma => kernel_rfl) (by as_aux_lemma => kernel_rfl) (by as_aux_lemma => kernel_rfl) (fun _ _ _ h => h) (by rfl) hS ?_ ?_
            rotate_left
            · intro w' hw'; go_simp; with_reducible rfl
            go_simp
            refine H_take (i := 4) (v := ?_) rfl (by as_aux_lemma => kernel_rfl) (by as_aux_lemma => kernel_rfl) (by as_aux_lemma => kernel_rfl) (fun _ _ _ h => h) (by rfl) hS ?_ ?_
            rotate_left
            · intro w' hw'; go_simp; with_reducible rfl
            go_simp
            refine H_take (i := 5) (v := ?_) rfl (by as_aux_lemma => kernel_rfl) (by as_aux_lemma => kernel_rfl) (by as_aux_lemma => kernel_rfl) (fun _ _ _ h => h) (by rfl) hS ?_ ?_
            rotate_left
            · intro w' hw'; go_simp; with_reducible rfl
            go_simp
            refine H_take (i := 6) (v := ?_) rfl (by as_aux_lemma => kernel_rfl) (by as_aux_lemma => kernel_rfl) (by as_aux_lemma => kernel_rfl) (fun _ _ _ h => h) (by rfl) hS ?_ ?_
            rotate_left
            · intro w' hw'; go_simp; with_reducible rfl
            go_simp
            refine H_take (i := 7) (v := ?_) rfl (by as_aux_lemma => kernel_rfl) (by as_aux_lemma => kernel_rfl) (by as_aux_lemma => kernel_rfl) (fun _ _ _ h => h) (by rfl) hS ?_ ?_
            rotate_left
            · intro w' hw'; go_simp; with_reducible rfl
            go_simp
            refine H_take (i := 8) (v := ?_) rfl (by as_aux_lemma => kernel_rfl) (by as_aux_lemma => kernel_rfl) (by as_aux_lemma => kernel_rfl) (fun _ _ _ h => h) (by rfl) hS ?_ ?_
            rotate_left
            · intro w' hw'; go_simp; with_reducible rfl
            go_simp
            refine wpAnyH_done (by as_aux_lemma => kernel_rfl) ?_ _
            obtain ⟨W9, hW9⟩ : ∃ W9, W9 = W8.drew := ⟨_, rfl⟩
            rw [← hW9]
            have hb9 : Below W8.heap.size W8 W9 := by rw [hW9]; exact hS
            have HBX : Hid (W9.heap[w7.heap.size]? = some (.cells #[.int .i64 ot, .int .i64 ov] 23)) := Lib.hid (old_below HX8.out hb9)
            have HC9 : Hid (CS w0 gd gh d6 (ht, hv) (L ++ [(ht, hv)]) (.slice (some ⟨sb, so, none⟩) (n + 1) rc) W9) := Lib.hid (by rw [HN.out]; exact HC8.out.next hb9)
            have HO9 : Hid (OwnSt w4.heap.size [(st, sv)] (.slice (some ⟨tb, to, none⟩) 1 tc) W9) := Lib.hid (HO8.out.same fun g hg => hb9.block g (HO8.out.lt hg).2)
            clear p0 p1 q0 q1 u0 u1 heq0 hS hb9 hW9 bz hsz8 htz8 HX8 HC8 HO8
            go_wp2_with fail
            refine wp_loop_rounds 2 ?_
            rw [rounds_succ]
            obtain ⟨b0, b1, -, -, bz2⟩ := block2 HBX.out
            obtain ⟨tb', to', hta3, htF3, t0, t1⟩ := HO9.out.rep.elem 0 (by simp)
            cases hta3
            simp only [List.getElem_cons_zero, Nat.zero_mul, Nat.add_zero] at t0 t1
            have htz9 := htF3.2
            have q0 : ∀ w', Below W9.heap.size W9 w' → w'.cell? ⟨w7.heap.size, 0, none⟩ = some (.int .i64 ot) := fun w' hw' => (hw'.cell bz2).trans b0
            have q1 : ∀ w', Below W9.heap.size W9 w' → w'.cell? ⟨w7.heap.size, 1, none⟩ = some (.int .i64 ov) := fun w' hw' => (hw'.cell bz2).trans b1
            have u0 : ∀ w', Below W9.heap.size W9 w' → w'.cell? ⟨tb, to, none⟩ = some (.int .i64 st) := fun w' hw' => (hw'.cell (p := ⟨tb, to, none⟩) htz9).trans t0
            have u1 : ∀ w', Below W9.heap.size W9 w' → w'.cell? ⟨tb, to + 1, none⟩ = some (.int .i64 sv) := fun w' hw' => (hw'.cell (p := ⟨tb, to + 1, none⟩) htz9).trans t1
            clear t0 t1 htF3
            go_wp2_with fail
            have heq1 : e8 = false → ∀ w' : World, (Op.equalIn 10000 23 (.agg #[.int .i64 ot, .int .i64 ov]) (.agg #[.int .i64 st, .int .i64 sv])).run Tryd.prog w' = .ok true w' := fun h w' => by
              rw [eqState_any]
              have h1 := HE8.out
              rw [h] at h1
              have h2 := of_decide_eq_false h1.symm
              rcases HOR.out with h3 | h3
              · exact absurd h3 h2
              · rw [decide_eq_true h3]
            have hS9 : Below W9.heap.size W9 W9.drew := (Below.refl _ _).drew
            cases e8 with
            | true =>
              refine wp_region_held (S := fun w' => Below W9.heap.size W9 w') (by kernel_rfl) ?_
              refine H_take (i := 0) (v := ?_) rfl (by as_aux_lemma => kernel_rfl) (by as_aux_lemma => kernel_rfl) (by as_aux_lemma => kernel_rfl) (fun _ _ _ h => h) (by rfl) hS9 ?_ ?_
              rotate_left
              · intro w' hw'; go_simp; with_reducible rfl
              go_simp
              refine H_take (i := 1) (v := ?_) rfl (by as_aux_lemma => kernel_rfl) (by as_aux_lemma => kernel_rfl) (by as_aux_lemma => kernel_rfl) (fun _ _ _ h => h) (by rfl) hS9 ?_ ?_
              rotate_left
              · intro w' hw'; go_simp; with_reducible rfl
              go_simp
              refine H_skip (i := 2) rfl (by as_aux_lemma => kernel_rfl) (by as_aux_lemma => kernel_rfl) (by as_aux_lemma => kernel_rfl) (fun _ _ _ h => h) (by rfl) hS9 ?_
              go_simp
              refine H_skip (i := 3) rfl (by as_aux_lemma => kernel_rfl) (by as_aux_lemma => kernel_rfl) (by as_aux_lemma => kernel_rfl) (fun _ _ _ h => h) (by rfl) hS9 ?_
              go_simp
              refine H_skip (i := 4) rfl (by as_aux_lemma => kernel_rfl) (by as_aux_lemma => kernel_rfl) (by as_aux_lemma => kernel_rfl) (fun _ _ _ h => h) (by rfl) hS9 ?_
              go_simp
              refine H_skip (i := 5) rfl (by as_aux_lemma => kernel_rfl) (by as_aux_lemma => kernel_rfl) (by as_aux_lemma => kernel_rfl) (fun _ _ _ h => h) (by rfl) hS9 ?_
              go_simp
              refine H_skip (i := 6) rfl (by as_aux_lemma => kernel_rfl) (by as_aux_lemma => kernel_rfl) (by as_aux_lemma => kernel_rfl) (fun _ _ _ h => h) (by rfl) hS9 ?_
              go_simp
              refine H_skip (i := 7) rfl (by as_aux_lemma => kernel_rfl) (by as_aux_lemma => kernel_rfl) (by as_aux_lemma => kernel_rfl) (fun _ _ _ h => h) (by rfl) hS9 ?_
              go_simp
              refine H_take (i := 8) (v := ?_) rfl (by as_aux_lemma => kernel_rfl) (by as_aux_lemma => kernel_rfl) (by as_aux_lemma => kernel_rfl) (fun _ _ _ h => h) (by rfl) hS9 ?_ ?_
              rotate_left
              · intro w' hw'; go_simp; with_reducible rfl
              go_simp
              refine H_take (i := 9) (v := ?_) rfl (by as_aux_lemma => kernel_rfl) (by as_aux_lemma => kernel_rfl) (by as_aux_lemma => kernel_rfl) (fun _ _ _ h => h) (by rfl) hS9 ?_ ?_
              rotate_left
              · intro w' hw'; go_simp; with_reducible rfl
              go_simp
              refine wpAnyH_done (by as_aux_lemma => kernel_rfl) ?_ _
              clear q0 q1 u0 u1 heq1 hS9
              go_wp2_with fail
              rw [rounds_succ]
              go_wp2_with fail
              have HCA : Hid (CS w0 gd gh d6 (ht, hv) (L ++ [(ht, hv)]) (.slice (some ⟨sb, so, none⟩) (n + 1) rc) W9.drew) := Lib.hid (HC9.out.next (Below.refl _ _).drew)
              refine (Follows_any (ot, ov) (L ++ [(ht, hv)]) _ _ W9.drew HCA.out.row.rep (fun j hj => hj.2)).mono ?_
              rintro e w10 ⟨rfl, hb10⟩
              rw [all_follow HFON.out (by simp)]
              have HC10 := Lib.hid (HCA.out.next hb10)
              have HBX10 := Lib.hid (old_below HBX.out ((Below.refl _ _).drew.trans hb10))
              clear hb10 b0 b1 bz2 htz9
              go_wp2_with fail
              obtain ⟨⟨X10, h10, hx10⟩, hr10⟩ := HC10.out
              refine (Open_any d6 X10 gd w10 h10.ds.dsk h10.ds.well.1.2.1 (Nat.le_trans HON.out.used (by decide)) (h10.ds.tab HT0)).mono ?_
              rintro e w11 ⟨g2, rfl, hb11, hg11, hk11⟩
              rw [HON.out.on] at hk11
              have HC11 := Lib.hid (HC10.out.open (has' := (ot, ov)) hb11 hg11 hk11)
              have HBX11 := Lib.hid (old_below HBX10.out hb11)
              obtain ⟨b0, b1, -, -, bz2⟩ := block2 HBX11.out
              obtain ⟨k0, k1, -, -, -, -, kz⟩ := block3 hk11
              have q0 : ∀ w', Below w11.heap.size w11 w' → w'.cell? ⟨w7.heap.size, 0, none⟩ = some (.int .i64 ot) := fun w' hw' => (hw'.cell bz2).trans b0
              have q1 : ∀ w', Below w11.heap.size w11 w' → w'.cell? ⟨w7.heap.size, 1, none⟩ = some (.int .i64 ov) := fun w' hw' => (hw'.cell bz2).trans b1
              have r0 : ∀ w', Below w11.heap.size w11 w' → w'.cell? ⟨g2, 0, none⟩ = some (.int .i64 ot) := fun w' hw' => (hw'.cell kz).trans k0
              have r1 : ∀ w', Below w11.heap.size w11 w' → w'.cell? ⟨g2, 1, none⟩ = some (.int .i64 ov) := fun w' hw' => (hw'.cell kz).trans k1
              have heq3 : ∀ w' : World, (Op.equalIn 10000 23 (.agg #[.int .i64 ot, .int .i64 ov]) (.agg #[.int .i64 ot, .int .i64 ov])).run Tryd.prog w' = .ok true w' := fun w' => by
                rw [eqState_any, decide_eq_true rfl]
              clear h10 hx10 hr10 hb11 hg11 hk11 b0 b1 k0 k1
              go_wp2_with fail
              have hS11 : Below w11.heap.size w11 w11.drew := (Below.refl _ _).drew
              refine wp_region_held (S := fun w' => Below w11.heap.size w11 w') (by kernel_rfl) ?_
              refine H_take (i := 0) (v := ?_) rfl (by as_aux_lemma => kernel_rfl) (by as_aux_lemma => kernel_rfl) (by as_aux_lemma => kernel_rfl) (fun _ _ _ h => h) (by rfl) hS11 ?_ ?_
              rotate_left
              · intro w' hw'; go_simp; with_reducible rfl
              go_simp
              refine H_take (i := 1) (v := ?_) rfl (by as_aux_lemma => kernel_rfl) (by as_aux_lemma => kernel_rfl) (by as_aux_lemma => kernel_rfl) (fun _ _ _ h => h) (by rfl) hS11 ?_ ?_
              rotate_left
              · intro w' hw'; go_simp; with_reducible rfl
              go_simp
              refine H_take (i := 2) (v := ?_) rfl (by as_aux_lemma => kernel_rfl) (by as_aux_lemma => kernel_rfl) (by as_aux_lemma => kernel_rfl) (fun _ _ _ h => h) (by rfl) hS11 ?_ ?_
              rotate_left
              · intro w' hw'; go_simp; with_reducible rfl
              go_simp
              refine H_take (i := 3) (v := ?_) rfl (by as_aux_lemma => kernel_rfl) (by as_aux_lemma => kernel_rfl) (by as_aux_lemma => kernel_rfl) (fun _ _ _ h => h) (by rfl) hS11 ?_ ?_
              rotate_left
              · intro w' hw'; go_simp; with_reducible rfl
              go_simp
              refine H_take (i := 4) (v := ?_) rfl (by as_aux_lemma => kernel_rfl) (by as_aux_lemma => kernel_rfl) (by as_aux_lemma => kernel_rfl) (fun _ _ _ h => h) (by rfl) hS11 ?_ ?_
              rotate_left
              · intro w' hw'; go_simp; with_reducible rfl
              go_simp
              refine H_take (i := 5) (v := ?_) rfl (by as_aux_lemma => kernel_rfl) (by as_aux_lemma => kernel_rfl) (by as_aux_lemma => kernel_rfl) (fun _ _ _ h => h) (by rfl) hS11 ?_ ?_
              rotate_left
              · intro w' hw'; go_simp; with_reducible rfl
              go_simp
              refine H_take (i := 6) (v := ?_) rfl (by as_aux_lemma => kernel_rfl) (by as_aux_lemma => kernel_rfl) (by as_aux_lemma => kernel_rfl) (fun _ _ _ h => h) (by rfl) hS11 ?_ ?_
              rotate_left
              · intro w' hw'; go_simp; with_reducible rfl
              go_simp
              refine H_take (i := 7) (v := ?_) rfl (by as_aux_lemma => kernel_rfl) (by as_aux_lemma => kernel_rfl) (by as_aux_lemma => kernel_rfl) (fun _ _ _ h => h) (by rfl) hS11 ?_ ?_
              rotate_left
              · intro w' hw'; go_simp; with_reducible rfl
              go_simp
              refine H_take (i := 8) (v := ?_) rfl (by as_aux_lemma => kernel_rfl) (by as_aux_lemma => kernel_rfl) (by as_aux_lemma => kernel_rfl) (fun _ _ _ h => h) (by rfl) hS11 ?_ ?_
              rotate_left
              · intro w' hw'; go_simp; with_reducible rfl
              go_simp
              refine H_take (i := 9) (v := ?_) rfl (by as_aux_lemma => kernel_rfl) (by as_aux_lemma => kernel_rfl) (by as_aux_lemma => kernel_rfl) (fun _ _ _ h => h) (by rfl) hS11 ?_ ?_
              rotate_left
              · intro w' hw'; go_simp; with_reducible rfl
              go_simp
              refine wpAnyH_done (by as_aux_lemma => kernel_rfl) ?_ _
              obtain ⟨W12, hW12⟩ : ∃ W12, W12 = w11.drew := ⟨_, rfl⟩
              rw [← hW12]
              have hb12 : Below w11.heap.size w11 W12 := by rw [hW12]; exact hS11
              have HBX12 := Lib.hid (old_below HBX11.out hb12)
              have HC12 := Lib.hid (HC11.out.next hb12)
              have HCB : Hid (CS w0 gd g2 d6 (ot, ov) (L ++ [(ht, hv)]) (.slice (some ⟨sb, so, none⟩) (n + 1) rc) (W12.alloc (.cells #[.int .i64 ot, .int .i64 ov] 23))) := Lib.hid (HC12.out.next (below_alloc _ _))
              obtain ⟨b0, b1, -, -, bz2⟩ := block2 HBX12.out
              clear q0 q1 r0 r1 heq3 hS11 hb12 hW12 kz
              go_wp2_with (at_builtin; refine wpList_append_any _ rfl (.tmp 146) (.tmp 148) 28 rfl w0.heap.size 23 ib (.agg #[.int .i64 0, .int .i64 0]) 2 16 Tryd.underlying28 hib hib0 hib1 hib2 rfl (by decide) _ (L ++ [(ht, hv)]).length (cells2 (L ++ [(ht, hv)])) rfl HCB.out.row _ rfl 1 [.int .i64 ot, .int .i64 ov] (yields_one (s := (ot, ov)) rfl) (by rw [List.length_append, List.length_singleton]; unfold maxLen; omega) (by rw [List.length_append, List.length_singleton]; omega) HCB.out.below.size ?_)
              intro v13 w13 happ
              have HC13 := Lib.hid (HCB.out.append (s := (ot, ov)) (by rw [List.length_append, List.length_singleton]; exact happ))
              obtain ⟨r13, c13, hv13⟩ := HC13.out.row.slice
              subst hv13
              clear happ
              go_wp2_with fail
              go_roundw
              case rel =>
                refine ⟨k + 1, by omega, by go_num, rfl, g2, d6, (ot, ov), L ++ [(ht, hv)], rfl, HC13.out, HON.out, fun e he => ?_, by rw [List.length_append, List.length_singleton]; omega⟩
                rcases List.mem_append.1 he with he | he
                · exact HFON.out e he
                · rw [List.mem_singleton.1 he]
                  exact follows_self (HFON.out (ht, hv) (by simp))
              case measure => simp [intOf]; omega
            | false =>
              have heq2 := heq1 rfl
              clear heq1
              refine wp_region_held (S := fun w' => Below W9.heap.size W9 w') (by kernel_rfl) ?_
              refine H_take (i := 0) (v := ?_) rfl (by as_aux_lemma => kernel_rfl) (by as_aux_lemma => kernel_rfl) (by as_aux_lemma => kernel_rfl) (fun _ _ _ h => h) (by rfl) hS9 ?_ ?_
              rotate_left
              · intro w' hw'; go_simp; with_reducible rfl
              go_simp
              refine H_take (i := 1) (v := ?_) rfl (by as_aux_lemma => kernel_rfl) (by as_aux_lemma => kernel_rfl) (by as_aux_lemma => kernel_rfl) (fun _ _ _ h => h) (by rfl) hS9 ?_ ?_
              rotate_left
              · intro w' hw'; go_simp; with_reducible rfl
              go_simp
              refine H_take (i := 2) (v := ?_) rfl (by as_aux_lemma => kernel_rfl) (by as_aux_lemma => kernel_rfl) (by as_aux_lemma => kernel_rfl) (fun _ _ _ h => h) (by rfl) hS9 ?_ ?_
              rotate_left
              · intro w' hw'; go_simp; with_reducible rfl
              go_simp
              refine H_take (i := 3) (v := ?_) rfl (by as_aux_lemma => kernel_rfl) (by as_aux_lemma => kernel_rfl) (by as_aux_lemma => kernel_rfl) (fun _ _ _ h => h) (by rfl) hS9 ?_ ?_
              rotate_left
              · intro w' hw'; go_simp; with_reducible rfl
              go_simp
              refine H_take (i := 4) (v := ?_) rfl (by as_aux_lemma => kernel_rfl) (by as_aux_lemma => kernel_rfl) (by as_aux_lemma => kernel_rfl) (fun _ _ _ h => h) (by rfl) hS9 ?_ ?_
              rotate_left
              · intro w' hw'; go_simp; with_reducible rfl
              go_simp
              refine H_take (i := 5) (v := ?_) rfl (by as_aux_lemma => kernel_rfl) (by as_aux_lemma => kernel_rfl) (by as_aux_lemma => kernel_rfl) (fun _ _ _ h => h) (by rfl) hS9 ?_ ?_
              rotate_left
              · intro w' hw'; go_simp; with_reducible rfl
              go_simp
              refine H_take (i := 6) (v := ?_) rfl (by as_aux_lemma => kernel_rfl) (by as_aux_lemma => kernel_rfl) (by as_aux_lemma => kernel_rfl) (fun _ _ _ h => h) (by rfl) hS9 ?_ ?_
              rotate_left
              · intro w' hw'; go_simp; with_reducible rfl
              go_simp
              refine H_take (i := 7) (v := ?_) rfl (by as_aux_lemma => kernel_rfl) (by as_aux_lemma => kernel_rfl) (by as_aux_lemma => kernel_rfl) (fun _ _ _ h => h) (by rfl) hS9 ?_ ?_
              rotate_left
              · intro w' hw'; go_simp; with_reducible rfl
              go_simp
              refine H_take (i := 8) (v := ?_) rfl (by as_aux_lemma => kernel_rfl) (by as_aux_lemma => kernel_rfl) (by as_aux_lemma => kernel_rfl) (fun _ _ _ h => h) (by rfl) hS9 ?_ ?_
              rotate_left
              · intro w' hw'; go_simp; with_reducible rfl
              go_simp
              refine H_take (i := 9) (v := ?_) rfl (by as_aux_lemma => kernel_rfl) (by as_aux_lemma => kernel_rfl) (by as_aux_lemma => kernel_rfl) (fun _ _ _ h => h) (by rfl) hS9 ?_ ?_
              rotate_left
              · intro w' hw'; go_simp; with_reducible rfl
              go_simp
              refine wpAnyH_done (by as_aux_lemma => kernel_rfl) ?_ _
              clear q0 q1 u0 u1 heq2 hS9
              go_wp2_with fail
              rw [rounds_succ]
              go_wp2_with fail
              have HCA : Hid (CS w0 gd gh d6 (ht, hv) (L ++ [(ht, hv)]) (.slice (some ⟨sb, so, none⟩) (n + 1) rc) W9.drew) := Lib.hid (HC9.out.next (Below.refl _ _).drew)
              refine (Follows_any (ot, ov) (L ++ [(ht, hv)]) _ _ W9.drew HCA.out.row.rep (fun j hj => hj.2)).mono ?_
              rintro e w10 ⟨rfl, hb10⟩
              rw [all_follow HFON.out (by simp)]
              have HC10 := Lib.hid (HCA.out.next hb10)
              have HBX10 := Lib.hid (old_below HBX.out ((Below.refl _ _).drew.trans hb10))
              clear hb10 b0 b1 bz2 htz9
              go_wp2_with fail
              obtain ⟨⟨X10, h10, hx10⟩, hr10⟩ := HC10.out
              refine (Open_any d6 X10 gd w10 h10.ds.dsk h10.ds.well.1.2.1 (Nat.le_trans HON.out.used (by decide)) (h10.ds.tab HT0)).mono ?_
              rintro e w11 ⟨g2, rfl, hb11, hg11, hk11⟩
              rw [HON.out.on] at hk11
              have HC11 := Lib.hid (HC10.out.open (has' := (ot, ov)) hb11 hg11 hk11)
              have HBX11 := Lib.hid (old_below HBX10.out hb11)
              obtain ⟨b0, b1, -, -, bz2⟩ := block2 HBX11.out
              obtain ⟨k0, k1, -, -, -, -, kz⟩ := block3 hk11
              have q0 : ∀ w', Below w11.heap.size w11 w' → w'.cell? ⟨w7.heap.size, 0, none⟩ = some (.int .i64 ot) := fun w' hw' => (hw'.cell bz2).trans b0
              have q1 : ∀ w', Below w11.heap.size w11 w' → w'.cell? ⟨w7.heap.size, 1, none⟩ = some (.int .i64 ov) := fun w' hw' => (hw'.cell bz2).trans b1
              have r0 : ∀ w', Below w11.heap.size w11 w' → w'.cell? ⟨g2, 0, none⟩ = some (.int .i64 ot) := fun w' hw' => (hw'.cell kz).trans k0
              have r1 : ∀ w', Below w11.heap.size w11 w' → w'.cell? ⟨g2, 1, none⟩ = some (.int .i64 ov) := fun w' hw' => (hw'.cell kz).trans k1
              have heq3 : ∀ w' : World, (Op.equalIn 10000 23 (.agg #[.int .i64 ot, .int .i64 ov]) (.agg #[.int .i64 ot, .int .i64 ov])).run Tryd.prog w' = .ok true w' := fun w' => by
                rw [eqState_any, decide_eq_true rfl]
              clear h10 hx10 hr10 hb11 hg11 hk11 b0 b1 k0 k1
              go_wp2_with fail
              have hS11 : Below w11.heap.size w11 w11.drew := (Below.refl _ _).drew
              refine wp_region_held (S := fun w' => Below w11.heap.size w11 w') (by kernel_rfl) ?_
              refine H_take (i := 0) (v := ?_) rfl (by as_aux_lemma => kernel_rfl) (by as_aux_lemma => kernel_rfl) (by as_aux_lemma => kernel_rfl) (fun _ _ _ h => h) (by rfl) hS11 ?_ ?_
              rotate_left
              · intro w' hw'; go_simp; with_reducible rfl
              go_simp
              refine H_take (i := 1) (v := ?_) rfl (by as_aux_lemma => kernel_rfl) (by as_aux_lemma => kernel_rfl) (by as_aux_lemma => kernel_rfl) (fun _ _ _ h => h) (by rfl) hS11 ?_ ?_
              rotate_left
              · intro w' hw'; go_simp; with_reducible rfl
              go_simp
              refine H_take (i := 2) (v := ?_) rfl (by as_aux_lemma => kernel_rfl) (by as_aux_lemma => kernel_rfl) (by as_aux_lemma => kernel_rfl) (fun _ _ _ h => h) (by rfl) hS11 ?_ ?_
              rotate_left
              · intro w' hw'; go_simp; with_reducible rfl
              go_simp
              refine H_take (i := 3) (v := ?_) rfl (by as_aux_lemma => kernel_rfl) (by as_aux_lemma => kernel_rfl) (by as_aux_lemma => kernel_rfl) (fun _ _ _ h => h) (by rfl) hS11 ?_ ?_
              rotate_left
              · intro w' hw'; go_simp; with_reducible rfl
              go_simp
              refine H_take (i := 4) (v := ?_) rfl (by as_aux_lemma => kernel_rfl) (by as_aux_lemma => kernel_rfl) (by as_aux_lemma => kernel_rfl) (fun _ _ _ h => h) (by rfl) hS11 ?_ ?_
              rotate_left
              · intro w' hw'; go_simp; with_reducible rfl
              go_simp
              refine H_take (i := 5) (v := ?_) rfl (by as_aux_lemma => kernel_rfl) (by as_aux_lemma => kernel_rfl) (by as_aux_lemma => kernel_rfl) (fun _ _ _ h => h) (by rfl) hS11 ?_ ?_
              rotate_left
              · intro w' hw'; go_simp; with_reducible rfl
              go_simp
              refine H_take (i := 6) (v := ?_) rfl (by as_aux_lemma => kernel_rfl) (by as_aux_lemma => kernel_rfl) (by as_aux_lemma => kernel_rfl) (fun _ _ _ h => h) (by rfl) hS11 ?_ ?_
              rotate_left
              · intro w' hw'; go_simp; with_reducible rfl
              go_simp
              refine H_take (i := 7) (v := ?_) rfl (by as_aux_lemma => kernel_rfl) (by as_aux_lemma => kernel_rfl) (by as_aux_lemma => kernel_rfl) (fun _ _ _ h => h) (by rfl) hS11 ?_ ?_
              rotate_left
              · intro w' hw'; go_simp; with_reducible rfl
              go_simp
              refine H_take (i := 8) (v := ?_) rfl (by as_aux_lemma => kernel_rfl) (by as_aux_lemma => kernel_rfl) (by as_aux_lemma => kernel_rfl) (fun _ _ _ h => h) (by rfl) hS11 ?_ ?_
              rotate_left
              · intro w' hw'; go_simp; with_reducible rfl
              go_simp
              refine H_take (i := 9) (v := ?_) rfl (by as_aux_lemma => kernel_rfl) (by as_aux_lemma => kernel_rfl) (by as_aux_lemma => kernel_rfl) (fun _ _ _ h => h) (by rfl) hS11 ?_ ?_
              rotate_left
              · intro w' hw'; go_simp; with_reducible rfl
              go_simp
              refine wpAnyH_done (by as_aux_lemma => kernel_rfl) ?_ _
              obtain ⟨W12, hW12⟩ : ∃ W12, W12 = w11.drew := ⟨_, rfl⟩
              rw [← hW12]
              have hb12 : Below w11.heap.size w11 W12 := by rw [hW12]; exact hS11
              have HBX12 := Lib.hid (old_below HBX11.out hb12)
              have HC12 := Lib.hid (HC11.out.next hb12)
              have HCB : Hid (CS w0 gd g2 d6 (ot, ov) (L ++ [(ht, hv)]) (.slice (some ⟨sb, so, none⟩) (n + 1) rc) (W12.alloc (.cells #[.int .i64 ot, .int .i64 ov] 23))) := Lib.hid (HC12.out.next (below_alloc _ _))
              obtain ⟨b0, b1, -, -, bz2⟩ := block2 HBX12.out
              clear q0 q1 r0 r1 heq3 hS11 hb12 hW12 kz
              go_wp2_with (at_builtin; refine wpList_append_any _ rfl (.tmp 146) (.tmp 148) 28 rfl w0.heap.size 23 ib (.agg #[.int .i64 0, .int .i64 0]) 2 16 Tryd.underlying28 hib hib0 hib1 hib2 rfl (by decide) _ (L ++ [(ht, hv)]).length (cells2 (L ++ [(ht, hv)])) rfl HCB.out.row _ rfl 1 [.int .i64 ot, .int .i64 ov] (yields_one (s := (ot, ov)) rfl) (by rw [List.length_append, List.length_singleton]; unfold maxLen; omega) (by rw [List.length_append, List.length_singleton]; omega) HCB.out.below.size ?_)
              intro v13 w13 happ
              have HC13 := Lib.hid (HCB.out.append (s := (ot, ov)) (by rw [List.length_append, List.length_singleton]; exact happ))
              obtain ⟨r13, c13, hv13⟩ := HC13.out.row.slice
              subst hv13
              clear happ
              go_wp2_with fail
              go_roundw
              case rel =>
                refine ⟨k + 1, by omega, by go_num, rfl, g2, d6, (ot, ov), L ++ [(ht, hv)], rfl, HC13.out, HON.out, fun e he => ?_, by rw [List.length_append, List.length_singleton]; omega⟩
                rcases List.mem_append.1 he with he | he
                · exact HFON.out e he
                · rw [List.mem_singleton.1 he]
                  exact follows_self (HFON.out (ht, hv) (by simp))
              case measure => simp [intOf]; omega
        · have hpz2 := Nat.lt_of_lt_of_le hpz HBW.out.size
          obtain ⟨y, hy⟩ : ∃ y : Nat, x.tmod 4 = (y : Int) := ⟨(x.tmod 4).toNat, (Int.toNat_of_nonneg (Int.tmod_nonneg 4 hx)).symm⟩
          have hy4 : y < 4 := by have := Int.tmod_lt_of_pos x (show (0 : Int) < 4 by omega); omega
          go_wp2_with fail
          obtain ⟨⟨X2, h2, hx2⟩, hr2⟩ := HCS.out
          refine (h2.stop (y : Int) (by omega)).mono ?_
          rintro e w3 ⟨rfl, h3, ho3, hz3⟩
          have HC3 : Hid (CS w0 gd gh (D.stop d (y : Int)) has (L ++ [has]) (.slice ra (L.length + 1) rc) w3) := Lib.hid (CS.call h2 hx2 hr2 (ho3.mono fun k hk => .inl hk) (fun k hk => .inl hk) h3)
          have HI3 : Hid (Inv (D.stop d (y : Int)) k has) := Lib.hid (HI.out.stop _)
          clear e0 e1 ebz h2 hx2 hr2 h3 ho3 hz3 X2 hx hc
          have hbw3 : Below w.heap.size w w3 := HB0.out.trans (HC3.out.below.mono HB0.out.size)
          obtain ⟨e0, e1⟩ := HLOAD.out w3 hbw3
          have ebz : b < w3.heap.size := Nat.lt_of_lt_of_le hbz0 hbw3.size
          clear hbw3
          go_wp2_with fail
          obtain ⟨r, d4, hcall, hout⟩ := HSTEP.out w3 _ HC3.out HI3.out
          refine hcall.mono ?_
          rintro e w4 ⟨rfl, h4⟩
          have HC4 := Lib.hid h4
          have hbw4 : Below w.heap.size w w4 := HB0.out.trans (h4.below.mono HB0.out.size)
          obtain ⟨e0, e1⟩ := HLOAD.out w4 hbw4
          have ebz : b < w4.heap.size := Nat.lt_of_lt_of_le hbz0 hbw4.size
          obtain ⟨ib, hib, hib0, hib1, hib2⟩ := info_parts infoState
          have hLL := HLL.out
          clear hcall h4 hbw4
          rcases hout with ⟨rfl, hf, hi⟩ | ⟨rfl, hi⟩ | ⟨rfl, hf, hcr⟩
          · have HI4 := Lib.hid hi
            have HF4 := Lib.hid hf
            have HCB : Hid (CS w0 gd gh d4 (st, sv) (L ++ [has]) (.slice ra (L.length + 1) rc) (w4.alloc (.cells #[.int .i64 st, .int .i64 sv] 23))) := Lib.hid (HC4.out.next (below_alloc _ _))
            clear HC4 hi hf
            go_wp2_with (at_builtin; refine wpList_append_any _ rfl (.tmp 79) (.tmp 84) 28 rfl w0.heap.size 23 ib (.agg #[.int .i64 0, .int .i64 0]) 2 16 Tryd.underlying28 hib hib0 hib1 hib2 rfl (by decide) _ (L ++ [has]).length (cells2 (L ++ [has])) rfl HCB.out.row _ rfl 1 [.int .i64 st, .int .i64 sv] (yields_one (s := (st, sv)) rfl) (by rw [List.length_append, List.length_singleton]; unfold maxLen; omega) (by rw [List.length_append, List.length_singleton]; omega) HCB.out.below.size ?_)
            intro v5 w5 happ
            have HC5 := Lib.hid (HCB.out.append (s := (st, sv)) (by rw [List.length_append, List.length_singleton]; exact happ))
            obtain ⟨r5, c5, rfl⟩ := HC5.out.row.slice
            clear happ
            go_wp2_with fail
            go_roundw
            case rel =>
              refine ⟨k + 1, by omega, by go_num, rfl, gh, d4, (st, sv), L ++ [has], rfl, HC5.out, HI4.out, fun e he => ?_, by rw [List.length_append, List.length_singleton]; omega⟩
              rcases List.mem_append.1 he with he | he
              · exact follows_trans HF4.out (HALL.out e he)
              · rw [List.mem_singleton.1 he]
                exact follows_self HF4.out
            case measure => simp [intOf]; omega
          · have HI4 := Lib.hid hi
            have HCB : Hid (CS w0 gd gh d4 has (L ++ [has]) (.slice ra (L.length + 1) rc) w4) := HC4
            clear HC4 hi
            go_wp2_with fail
            go_roundw
            case rel => exact ⟨k + 1, by omega, by go_num, rfl, gh, d4, has, L, rfl, HCB.out, HI4.out, HALL.out, by omega⟩
            case measure => simp [intOf]; omega
          · have HCR := Lib.hid hcr
            have HF4 := Lib.hid hf
            have HCB : Hid (CS w0 gd gh d4 has (L ++ [has]) (.slice ra (L.length + 1) rc) w4) := HC4
            clear HC4 hcr hf
            obtain ⟨⟨X4, h4, hx4⟩, hr4⟩ := HCB.out
            have H4 := Lib.hid h4
            have HX4 : Hid (∀ g, (Value.slice ra (L.length + 1) rc).ownBlock = some g → ¬ X4 g ∧ g ≠ gh) := Lib.hid hx4
            have HR4 := Lib.hid hr4
            clear h4 hx4 hr4
            go_wp2_with (at_builtin; refine wpList_append_any _ rfl (.tmp 88) (.tmp 93) 28 rfl w4.heap.size 23 ib (.agg #[.int .i64 0, .int .i64 0]) 2 16 Tryd.underlying28 hib hib0 hib1 hib2 rfl (by decide) (.slice none 0 0) 0 [] rfl (World.ownsRow_nil _ _ _ _) _ rfl 1 [.int .i64 st, .int .i64 sv] (yields_one (s := (st, sv)) rfl) (by unfold maxLen; omega) (by omega) (by simp) ?_)
            intro v5 w5 happ
            obtain ⟨ho5, hg5, -⟩ := happ
            have hb5 : Below (w4.alloc (.cells #[.int .i64 st, .int .i64 sv] 23)).heap.size (w4.alloc (.cells #[.int .i64 st, .int .i64 sv] 23)) w5 := ⟨hg5.os, hg5.tape, hg5.output, hg5.size, fun j hj => hg5.block j hj (by simp [Value.ownBlock])⟩
            have HB45 : Hid (Below w4.heap.size w4 w5) := Lib.hid ((below_alloc _ _).trans (hb5.mono (by simp)))
            have HO5 : Hid (OwnSt w4.heap.size [(st, sv)] v5 w5) := Lib.hid ho5
            obtain ⟨ta, tc, hta⟩ := HO5.out.slice
            rw [List.length_singleton] at hta
            subst hta
            have H5 := Lib.hid (H4.out.next HB45.out)
            have HR5 := Lib.hid (HR4.out.same fun g hg => HB45.out.block g (HR4.out.lt hg).2)
            clear ho5 hg5 hb5 e0 e1 ebz
            go_wp2_with fail
            have hbw5 : Below w.heap.size w w5 := HB0.out.trans (H5.out.ds.below.mono HB0.out.size)
            refine (H5.out.crash keep F _ (HV2.out.same (fun _ h => h) fun j hj => hbw5.block j (HF.out j hj)) (fun j hj => ⟨Nat.lt_of_lt_of_le (HF.out j hj) hbw5.size, fun hx => by
              have a1 := H5.out.ds.own j hx
              have a2 := HF.out j hj
              have a3 := HB0.out.size
              omega⟩)).mono ?_
            rintro e w6 ⟨rfl, X6, hX6, h6, ho6⟩
            have HC6 := Lib.hid (CS.call H5.out HX4.out HR5.out (ho6.mono fun j hj => .inl hj) hX6 h6)
            have HO6 : Hid (OwnSt w4.heap.size [(st, sv)] (.slice ta 1 tc) w6) := Lib.hid (HO5.out.same fun g hg => ho6.block g (HO5.out.lt hg).2 fun hx => by
              have a1 := H4.out.ds.lt g hx
              have a2 := (HO5.out.lt hg).1
              omega)
            obtain ⟨d6, hd6⟩ : ∃ d6, d6 = (D.crash d4 keep).2 := ⟨_, rfl⟩
            obtain ⟨on, hon, hor⟩ : ∃ on, Inv d6 (k + 1) on ∧ (on = has ∨ on = (st, sv)) := by
              rw [hd6]
              rcases HCR.out keep with h | h
              · exact ⟨_, h, .inl rfl⟩
              · exact ⟨_, h, .inr rfl⟩
            rw [← hd6] at HC6
            have HON := Lib.hid hon
            have HOR := Lib.hid hor
            have HFON : Hid (∀ e ∈ L ++ [has], follows on e = true) := Lib.hid fun e he => by
              rcases HOR.out with h | h
              · rw [h]; exact HALL.out e he
              · rw [h]; exact follows_trans HF4.out (HALL.out e he)
            clear hbw5 hX6 h6 ho6 hon hor hd6
            go_wp2_with fail
            obtain ⟨⟨X7, h7, hx7⟩, hr7⟩ := HC6.out
            refine (On_any d6 X7 gd w6 h7.ds.dsk h7.ds.well.1.2.1 (Nat.le_trans HON.out.used (by decide)) (h7.ds.tab HT0)).mono ?_
            rintro e w7 ⟨rfl, hb7⟩
            rw [HON.out.on]
            obtain ⟨ot, ov⟩ := on
            have HC7 := Lib.hid (HC6.out.next hb7)
            have HO7 := Lib.hid (HO6.out.same fun g hg => hb7.block g (HO6.out.lt hg).2)
            clear h7 hx7 hr7 hb7
            go_wp2_with fail
            obtain ⟨W8, hW8⟩ : ∃ W8, W8 = w7.alloc (.cells #[.int .i64 ot, .int .i64 ov] 23) := ⟨_, rfl⟩
            have hb8 : Below w7.heap.size w7 W8 := by rw [hW8]; exact below_alloc _ _
            have hbx8 : W8.heap[w7.heap.size]? = some (.cells #[.int .i64 ot, .int .i64 ov] 23) := by rw [hW8]; exact heap_new _ _ _ rfl
            have HC8 := Lib.hid (HC7.out.next hb8)
            have HO8 := Lib.hid (HO7.out.same fun g hg => hb8.block g (HO7.out.lt hg).2)
            have HX8 := Lib.hid hbx8
            obtain ⟨sb, so, hra, hsF, s0, s1⟩ := HC8.out.row.rep.elem L.length (by simp)
            simp only [List.getElem_append_right (Nat.le_refl _), Nat.sub_self, List.getElem_cons_zero] at s0 s1
            subst hra
            have hsz8 := hsF.2
            obtain ⟨tb, to, hta2, htF, t0, t1⟩ := HO8.out.rep.elem 0 (by simp)
            simp only [List.getElem_cons_zero, Nat.zero_mul, Nat.add_zero] at t0 t1
            subst hta2
            have htz8 := htF.2
            obtain ⟨ht, hv⟩ := has
            obtain ⟨b0, b1, -, -, bz⟩ := block2 hbx8
            obtain ⟨n, hn⟩ : ∃ n, n = L.length := ⟨_, rfl⟩
            rw [← hn] at s0 s1 ⊢
            rw [← hW8]
            have q0 : ∀ w', Below W8.heap.size W8 w' → w'.cell? ⟨w7.heap.size, 0, none⟩ = some (.int .i64 ot) := fun w' hw' => (hw'.cell bz).trans b0
            have q1 : ∀ w', Below W8.heap.size W8 w' → w'.cell? ⟨w7.heap.size, 1, none⟩ = some (.int .i64 ov) := fun w' hw' => (hw'.cell bz).trans b1
            have p0 : ∀ w', Below W8.heap.size W8 w' → w'.cell? ⟨sb, so + n * 2, none⟩ = some (.int .i64 ht) := fun w' hw' => (hw'.cell (p := ⟨sb, so + n * 2, none⟩) hsz8).trans s0
            have p1 : ∀ w', Below W8.heap.size W8 w' → w'.cell? ⟨sb, so + n * 2 + 1, none⟩ = some (.int .i64 hv) := fun w' hw' => (hw'.cell (p := ⟨sb, so + n * 2 + 1, none⟩) hsz8).trans s1
            have u0 : ∀ w', Below W8.heap.size W8 w' → w'.cell? ⟨tb, to, none⟩ = some (.int .i64 st) := fun w' hw' => (hw'.cell (p := ⟨tb, to, none⟩) htz8).trans t0
            have u1 : ∀ w', Below W8.heap.size W8 w' → w'.cell? ⟨tb, to + 1, none⟩ = some (.int .i64 sv) := fun w' hw' => (hw'.cell (p := ⟨tb, to + 1, none⟩) htz8).trans t1
            have HN := Lib.hid hn
            have hwn : IntKind.i64.wrap (n : Int) = (n : Int) := IntWalk.i64_in _ (by omega)
            have hn1 : (n : Int) < (n : Int) + 1 := by omega
            obtain ⟨e8, he8⟩ : ∃ e8, e8 = decide ((ot, ov) = (ht, hv)) := ⟨_, rfl⟩
            have heq0 : ∀ w' : World, (Op.equalIn 10000 23 (.agg #[.int .i64 ot, .int .i64 ov]) (.agg #[.int .i64 ht, .int .i64 hv])).run Tryd.prog w' = .ok e8 w' := fun w' => by rw [he8]; exact eqState_any _ _ _ _ w'
            have HE8 := Lib.hid he8
            clear he8
            clear hW8 hb8 hbx8 hn s0 s1 t0 t1 b0 b1 hsF htF
            have hS : Below W8.heap.size W8 W8.drew := (Below.refl _ _).drew
            refine wp_region_held (S := fun w' => Below W8.heap.size W8 w') (by kernel_rfl) ?_
            refine H_take (i := 0) (v := ?_) rfl (by as_aux_lemma => kernel_rfl) (by as_aux_lemma => kernel_rfl) (by as_aux_lemma => kernel_rfl) (fun _ _ _ h => h) (by rfl) hS ?_ ?_
            rotate_left
            · intro w' hw'; go_simp; with_reducible rfl
            go_simp
            refine H_take (i := 1) (v := ?_) rfl (by as_aux_lemma => kernel_rfl) (by as_aux_lemma => kernel_rfl) (by as_aux_lemma => kernel_rfl) (fun _ _ _ h => h) (by rfl) hS ?_ ?_
            rotate_left
            · intro w' hw'; go_simp; with_reducible rfl
            go_simp
            refine H_take (i := 2) (v := ?_) rfl (by as_aux_lemma => kernel_rfl) (by as_aux_lemma => kernel_rfl) (by as_aux_lemma => kernel_rfl) (fun _ _ _ h => h) (by rfl) hS ?_ ?_
            rotate_left
            · intro w' hw'; go_simp; with_reducible rfl
            go_simp
            refine H_take (i := 3) (v := ?_) rfl (by as_aux_lemma => kernel_rfl) (by as_aux_lemma => kernel_rfl) (by as_aux_lemma => kernel_rfl) (fun _ _ _ h => h) (by rfl) hS ?_ ?_
            rotate_left
            · intro w' hw'; go_simp; with_reducible rfl
            go_simp
            refine H_take (i := 4) (v := ?_) rfl (by as_aux_lemma => kernel_rfl) (by as_aux_lemma => kernel_rfl) (by as_aux_lemma => kernel_rfl) (fun _ _ _ h => h) (by rfl) hS ?_ ?_
            rotate_left
            · intro w' hw'; go_simp; with_reducible rfl
            go_simp
            refine H_take (i := 5) (v := ?_) rfl (by as_aux_lemma => kernel_rfl) (by as_aux_lemma => kernel_rfl) (by as_aux_lemma => kernel_rfl) (fun _ _ _ h => h) (by rfl) hS ?_ ?_
            rotate_left
            · intro w' hw'; go_simp; with_reducible rfl
            go_simp
            refine H_take (i := 6) (v := ?_) rfl (by as_aux_lemma => kernel_rfl) (by as_aux_lemma => kernel_rfl) (by as_aux_lemma => kernel_rfl) (fun _ _ _ h => h) (by rfl) hS ?_ ?_
            rotate_left
            · intro w' hw'; go_simp; with_reducible rfl
            go_simp
            refine H_take (i := 7) (v := ?_) rfl (by as_aux_lemma => kernel_rfl) (by as_aux_lemma => kernel_rfl) (by as_aux_lemma => kernel_rfl) (fun _ _ _ h => h) (by rfl) hS ?_ ?_
            rotate_left
            · intro w' hw'; go_simp; with_reducible rfl
            go_simp
            refine H_take (i := 8) (v := ?_) rfl (by as_aux_lemma => kernel_rfl) (by as_aux_lemma => kernel_rfl) (by as_aux_lemma => kernel_rfl) (fun _ _ _ h => h) (by rfl) hS ?_ ?_
            rotate_left
            · intro w' hw'; go_simp; with_reducible rfl
            go_simp
            refine wpAnyH_done (by as_aux_lemma => kernel_rfl) ?_ _
            obtain ⟨W9, hW9⟩ : ∃ W9, W9 = W8.drew := ⟨_, rfl⟩
            rw [← hW9]
            have hb9 : Below W8.heap.size W8 W9 := by rw [hW9]; exact hS
            have HBX : Hid (W9.heap[w7.heap.size]? = some (.cells #[.int .i64 ot, .int .i64 ov] 23)) := Lib.hid (old_below HX8.out hb9)
            have HC9 : Hid (CS w0 gd gh d6 (ht, hv) (L ++ [(ht, hv)]) (.slice (some ⟨sb, so, none⟩) (n + 1) rc) W9) := Lib.hid (by rw [HN.out]; exact HC8.out.next hb9)
            have HO9 : Hid (OwnSt w4.heap.size [(st, sv)] (.slice (some ⟨tb, to, none⟩) 1 tc) W9) := Lib.hid (HO8.out.same fun g hg => hb9.block g (HO8.out.lt hg).2)
            clear p0 p1 q0 q1 u0 u1 heq0 hS hb9 hW9 bz hsz8 htz8 HX8 HC8 HO8
            go_wp2_with fail
            refine wp_loop_rounds 2 ?_
            rw [rounds_succ]
            obtain ⟨b0, b1, -, -, bz2⟩ := block2 HBX.out
            obtain ⟨tb', to', hta3, htF3, t0, t1⟩ := HO9.out.rep.elem 0 (by simp)
            cases hta3
            simp only [List.getElem_cons_zero, Nat.zero_mul, Nat.add_zero] at t0 t1
            have htz9 := htF3.2
            have q0 : ∀ w', Below W9.heap.size W9 w' → w'.cell? ⟨w7.heap.size, 0, none⟩ = some (.int .i64 ot) := fun w' hw' => (hw'.cell bz2).trans b0
            have q1 : ∀ w', Below W9.heap.size W9 w' → w'.cell? ⟨w7.heap.size, 1, none⟩ = some (.int .i64 ov) := fun w' hw' => (hw'.cell bz2).trans b1
            have u0 : ∀ w', Below W9.heap.size W9 w' → w'.cell? ⟨tb, to, none⟩ = some (.int .i64 st) := fun w' hw' => (hw'.cell (p := ⟨tb, to, none⟩) htz9).trans t0
            have u1 : ∀ w', Below W9.heap.size W9 w' → w'.cell? ⟨tb, to + 1, none⟩ = some (.int .i64 sv) := fun w' hw' => (hw'.cell (p := ⟨tb, to + 1, none⟩) htz9).trans t1
            clear t0 t1 htF3
            go_wp2_with fail
            have heq1 : e8 = false → ∀ w' : World, (Op.equalIn 10000 23 (.agg #[.int .i64 ot, .int .i64 ov]) (.agg #[.int .i64 st, .int .i64 sv])).run Tryd.prog w' = .ok true w' := fun h w' => by
              rw [eqState_any]
              have h1 := HE8.out
              rw [h] at h1
              have h2 := of_decide_eq_false h1.symm
              rcases HOR.out with h3 | h3
              · exact absurd h3 h2
              · rw [decide_eq_true h3]
            have hS9 : Below W9.heap.size W9 W9.drew := (Below.refl _ _).drew
            cases e8 with
            | true =>
              refine wp_region_held (S := fun w' => Below W9.heap.size W9 w') (by kernel_rfl) ?_
              refine H_take (i := 0) (v := ?_) rfl (by as_aux_lemma => kernel_rfl) (by as_aux_lemma => kernel_rfl) (by as_aux_lemma => kernel_rfl) (fun _ _ _ h => h) (by rfl) hS9 ?_ ?_
              rotate_left
              · intro w' hw'; go_simp; with_reducible rfl
              go_simp
              refine H_take (i := 1) (v := ?_) rfl (by as_aux_lemma => kernel_rfl) (by as_aux_lemma => kernel_rfl) (by as_aux_lemma => kernel_rfl) (fun _ _ _ h => h) (by rfl) hS9 ?_ ?_
              rotate_left
              · intro w' hw'; go_simp; with_reducible rfl
              go_simp
              refine H_skip (i := 2) rfl (by as_aux_lemma => kernel_rfl) (by as_aux_lemma => kernel_rfl) (by as_aux_lemma => kernel_rfl) (fun _ _ _ h => h) (by rfl) hS9 ?_
              go_simp
              refine H_skip (i := 3) rfl (by as_aux_lemma => kernel_rfl) (by as_aux_lemma => kernel_rfl) (by as_aux_lemma => kernel_rfl) (fun _ _ _ h => h) (by rfl) hS9 ?_
              go_simp
              refine H_skip (i := 4) rfl (by as_aux_lemma => kernel_rfl) (by as_aux_lemma => kernel_rfl) (by as_aux_lemma => kernel_rfl) (fun _ _ _ h => h) (by rfl) hS9 ?_
              go_simp
              refine H_skip (i := 5) rfl (by as_aux_lemma => kernel_rfl) (by as_aux_lemma => kernel_rfl) (by as_aux_lemma => kernel_rfl) (fun _ _ _ h => h) (by rfl) hS9 ?_
              go_simp
              refine H_skip (i := 6) rfl (by as_aux_lemma => kernel_rfl) (by as_aux_lemma => kernel_rfl) (by as_aux_lemma => kernel_rfl) (fun _ _ _ h => h) (by rfl) hS9 ?_
              go_simp
              refine H_skip (i := 7) rfl (by as_aux_lemma => kernel_rfl) (by as_aux_lemma => kernel_rfl) (by as_aux_lemma => kernel_rfl) (fun _ _ _ h => h) (by rfl) hS9 ?_
              go_simp
              refine H_take (i := 8) (v := ?_) rfl (by as_aux_lemma => kernel_rfl) (by as_aux_lemma => kernel_rfl) (by as_aux_lemma => kernel_rfl) (fun _ _ _ h => h) (by rfl) hS9 ?_ ?_
              rotate_left
              · intro w' hw'; go_simp; with_reducible rfl
              go_simp
              refine H_take (i := 9) (v := ?_) rfl (by as_aux_lemma => kernel_rfl) (by as_aux_lemma => kernel_rfl) (by as_aux_lemma => kernel_rfl) (fun _ _ _ h => h) (by rfl) hS9 ?_ ?_
              rotate_left
              · intro w' hw'; go_simp; with_reducible rfl
              go_simp
              refine wpAnyH_done (by as_aux_lemma => kernel_rfl) ?_ _
              clear q0 q1 u0 u1 heq1 hS9
              go_wp2_with fail
              rw [rounds_succ]
              go_wp2_with fail
              have HCA : Hid (CS w0 gd gh d6 (ht, hv) (L ++ [(ht, hv)]) (.slice (some ⟨sb, so, none⟩) (n + 1) rc) W9.drew) := Lib.hid (HC9.out.next (Below.refl _ _).drew)
              refine (Follows_any (ot, ov) (L ++ [(ht, hv)]) _ _ W9.drew HCA.out.row.rep (fun j hj => hj.2)).mono ?_
              rintro e w10 ⟨rfl, hb10⟩
              rw [all_follow HFON.out (by simp)]
              have HC10 := Lib.hid (HCA.out.next hb10)
              have HBX10 := Lib.hid (old_below HBX.out ((Below.refl _ _).drew.trans hb10))
              clear hb10 b0 b1 bz2 htz9
              go_wp2_with fail
              obtain ⟨⟨X10, h10, hx10⟩, hr10⟩ := HC10.out
              refine (Open_any d6 X10 gd w10 h10.ds.dsk h10.ds.well.1.2.1 (Nat.le_trans HON.out.used (by decide)) (h10.ds.tab HT0)).mono ?_
              rintro e w11 ⟨g2, rfl, hb11, hg11, hk11⟩
              rw [HON.out.on] at hk11
              have HC11 := Lib.hid (HC10.out.open (has' := (ot, ov)) hb11 hg11 hk11)
              have HBX11 := Lib.hid (old_below HBX10.out hb11)
              obtain ⟨b0, b1, -, -, bz2⟩ := block2 HBX11.out
              obtain ⟨k0, k1, -, -, -, -, kz⟩ := block3 hk11
              have q0 : ∀ w', Below w11.heap.size w11 w' → w'.cell? ⟨w7.heap.size, 0, none⟩ = some (.int .i64 ot) := fun w' hw' => (hw'.cell bz2).trans b0
              have q1 : ∀ w', Below w11.heap.size w11 w' → w'.cell? ⟨w7.heap.size, 1, none⟩ = some (.int .i64 ov) := fun w' hw' => (hw'.cell bz2).trans b1
              have r0 : ∀ w', Below w11.heap.size w11 w' → w'.cell? ⟨g2, 0, none⟩ = some (.int .i64 ot) := fun w' hw' => (hw'.cell kz).trans k0
              have r1 : ∀ w', Below w11.heap.size w11 w' → w'.cell? ⟨g2, 1, none⟩ = some (.int .i64 ov) := fun w' hw' => (hw'.cell kz).trans k1
              have heq3 : ∀ w' : World, (Op.equalIn 10000 23 (.agg #[.int .i64 ot, .int .i64 ov]) (.agg #[.int .i64 ot, .int .i64 ov])).run Tryd.prog w' = .ok true w' := fun w' => by
                rw [eqState_any, decide_eq_true rfl]
              clear h10 hx10 hr10 hb11 hg11 hk11 b0 b1 k0 k1
              go_wp2_with fail
              have hS11 : Below w11.heap.size w11 w11.drew := (Below.refl _ _).drew
              refine wp_region_held (S := fun w' => Below w11.heap.size w11 w') (by kernel_rfl) ?_
              refine H_take (i := 0) (v := ?_) rfl (by as_aux_lemma => kernel_rfl) (by as_aux_lemma => kernel_rfl) (by as_aux_lemma => kernel_rfl) (fun _ _ _ h => h) (by rfl) hS11 ?_ ?_
              rotate_left
              · intro w' hw'; go_simp; with_reducible rfl
              go_simp
              refine H_take (i := 1) (v := ?_) rfl (by as_aux_lemma => kernel_rfl) (by as_aux_lemma => kernel_rfl) (by as_aux_lemma => kernel_rfl) (fun _ _ _ h => h) (by rfl) hS11 ?_ ?_
              rotate_left
              · intro w' hw'; go_simp; with_reducible rfl
              go_simp
              refine H_take (i := 2) (v := ?_) rfl (by as_aux_lemma => kernel_rfl) (by as_aux_lemma => kernel_rfl) (by as_aux_lemma => kernel_rfl) (fun _ _ _ h => h) (by rfl) hS11 ?_ ?_
              rotate_left
              · intro w' hw'; go_simp; with_reducible rfl
              go_simp
              refine H_take (i := 3) (v := ?_) rfl (by as_aux_lemma => kernel_rfl) (by as_aux_lemma => kernel_rfl) (by as_aux_lemma => kernel_rfl) (fun _ _ _ h => h) (by rfl) hS11 ?_ ?_
              rotate_left
              · intro w' hw'; go_simp; with_reducible rfl
              go_simp
              refine H_take (i := 4) (v := ?_) rfl (by as_aux_lemma => kernel_rfl) (by as_aux_lemma => kernel_rfl) (by as_aux_lemma => kernel_rfl) (fun _ _ _ h => h) (by rfl) hS11 ?_ ?_
              rotate_left
              · intro w' hw'; go_simp; with_reducible rfl
              go_simp
              refine H_take (i := 5) (v := ?_) rfl (by as_aux_lemma => kernel_rfl) (by as_aux_lemma => kernel_rfl) (by as_aux_lemma => kernel_rfl) (fun _ _ _ h => h) (by rfl) hS11 ?_ ?_
              rotate_left
              · intro w' hw'; go_simp; with_reducible rfl
              go_simp
              refine H_take (i := 6) (v := ?_) rfl (by as_aux_lemma => kernel_rfl) (by as_aux_lemma => kernel_rfl) (by as_aux_lemma => kernel_rfl) (fun _ _ _ h => h) (by rfl) hS11 ?_ ?_
              rotate_left
              · intro w' hw'; go_simp; with_reducible rfl
              go_simp
              refine H_take (i := 7) (v := ?_) rfl (by as_aux_lemma => kernel_rfl) (by as_aux_lemma => kernel_rfl) (by as_aux_lemma => kernel_rfl) (fun _ _ _ h => h) (by rfl) hS11 ?_ ?_
              rotate_left
              · intro w' hw'; go_simp; with_reducible rfl
              go_simp
              refine H_take (i := 8) (v := ?_) rfl (by as_aux_lemma => kernel_rfl) (by as_aux_lemma => kernel_rfl) (by as_aux_lemma => kernel_rfl) (fun _ _ _ h => h) (by rfl) hS11 ?_ ?_
              rotate_left
              · intro w' hw'; go_simp; with_reducible rfl
              go_simp
              refine H_take (i := 9) (v := ?_) rfl (by as_aux_lemma => kernel_rfl) (by as_aux_lemma => kernel_rfl) (by as_aux_lemma => kernel_rfl) (fun _ _ _ h => h) (by rfl) hS11 ?_ ?_
              rotate_left
              · intro w' hw'; go_simp; with_reducible rfl
              go_simp
              refine wpAnyH_done (by as_aux_lemma => kernel_rfl) ?_ _
              obtain ⟨W12, hW12⟩ : ∃ W12, W12 = w11.drew := ⟨_, rfl⟩
              rw [← hW12]
              have hb12 : Below w11.heap.size w11 W12 := by rw [hW12]; exact hS11
              have HBX12 := Lib.hid (old_below HBX11.out hb12)
              have HC12 := Lib.hid (HC11.out.next hb12)
              have HCB : Hid (CS w0 gd g2 d6 (ot, ov) (L ++ [(ht, hv)]) (.slice (some ⟨sb, so, none⟩) (n + 1) rc) (W12.alloc (.cells #[.int .i64 ot, .int .i64 ov] 23))) := Lib.hid (HC12.out.next (below_alloc _ _))
              obtain ⟨b0, b1, -, -, bz2⟩ := block2 HBX12.out
              clear q0 q1 r0 r1 heq3 hS11 hb12 hW12 kz
              go_wp2_with (at_builtin; refine wpList_append_any _ rfl (.tmp 146) (.tmp 148) 28 rfl w0.heap.size 23 ib (.agg #[.int .i64 0, .int .i64 0]) 2 16 Tryd.underlying28 hib hib0 hib1 hib2 rfl (by decide) _ (L ++ [(ht, hv)]).length (cells2 (L ++ [(ht, hv)])) rfl HCB.out.row _ rfl 1 [.int .i64 ot, .int .i64 ov] (yields_one (s := (ot, ov)) rfl) (by rw [List.length_append, List.length_singleton]; unfold maxLen; omega) (by rw [List.length_append, List.length_singleton]; omega) HCB.out.below.size ?_)
              intro v13 w13 happ
              have HC13 := Lib.hid (HCB.out.append (s := (ot, ov)) (by rw [List.length_append, List.length_singleton]; exact happ))
              obtain ⟨r13, c13, hv13⟩ := HC13.out.row.slice
              subst hv13
              clear happ
              go_wp2_with fail
              go_roundw
              case rel =>
                refine ⟨k + 1, by omega, by go_num, rfl, g2, d6, (ot, ov), L ++ [(ht, hv)], rfl, HC13.out, HON.out, fun e he => ?_, by rw [List.length_append, List.length_singleton]; omega⟩
                rcases List.mem_append.1 he with he | he
                · exact HFON.out e he
                · rw [List.mem_singleton.1 he]
                  exact follows_self (HFON.out (ht, hv) (by simp))
              case measure => simp [intOf]; omega
            | false =>
              have heq2 := heq1 rfl
              clear heq1
              refine wp_region_held (S := fun w' => Below W9.heap.size W9 w') (by kernel_rfl) ?_
              refine H_take (i := 0) (v := ?_) rfl (by as_aux_lemma => kernel_rfl) (by as_aux_lemma => kernel_rfl) (by as_aux_lemma => kernel_rfl) (fun _ _ _ h => h) (by rfl) hS9 ?_ ?_
              rotate_left
              · intro w' hw'; go_simp; with_reducible rfl
              go_simp
              refine H_take (i := 1) (v := ?_) rfl (by as_aux_lemma => kernel_rfl) (by as_aux_lemma => kernel_rfl) (by as_aux_lemma => kernel_rfl) (fun _ _ _ h => h) (by rfl) hS9 ?_ ?_
              rotate_left
              · intro w' hw'; go_simp; with_reducible rfl
              go_simp
              refine H_take (i := 2) (v := ?_) rfl (by as_aux_lemma => kernel_rfl) (by as_aux_lemma => kernel_rfl) (by as_aux_lemma => kernel_rfl) (fun _ _ _ h => h) (by rfl) hS9 ?_ ?_
              rotate_left
              · intro w' hw'; go_simp; with_reducible rfl
              go_simp
              refine H_take (i := 3) (v := ?_) rfl (by as_aux_lemma => kernel_rfl) (by as_aux_lemma => kernel_rfl) (by as_aux_lemma => kernel_rfl) (fun _ _ _ h => h) (by rfl) hS9 ?_ ?_
              rotate_left
              · intro w' hw'; go_simp; with_reducible rfl
              go_simp
              refine H_take (i := 4) (v := ?_) rfl (by as_aux_lemma => kernel_rfl) (by as_aux_lemma => kernel_rfl) (by as_aux_lemma => kernel_rfl) (fun _ _ _ h => h) (by rfl) hS9 ?_ ?_
              rotate_left
              · intro w' hw'; go_simp; with_reducible rfl
              go_simp
              refine H_take (i := 5) (v := ?_) rfl (by as_aux_lemma => kernel_rfl) (by as_aux_lemma => kernel_rfl) (by as_aux_lemma => kernel_rfl) (fun _ _ _ h => h) (by rfl) hS9 ?_ ?_
              rotate_left
              · intro w' hw'; go_simp; with_reducible rfl
              go_simp
              refine H_take (i := 6) (v := ?_) rfl (by as_aux_lemma => kernel_rfl) (by as_aux_lemma => kernel_rfl) (by as_aux_lemma => kernel_rfl) (fun _ _ _ h => h) (by rfl) hS9 ?_ ?_
              rotate_left
              · intro w' hw'; go_simp; with_reducible rfl
              go_simp
              refine H_take (i := 7) (v := ?_) rfl (by as_aux_lemma => kernel_rfl) (by as_aux_lemma => kernel_rfl) (by as_aux_lemma => kernel_rfl) (fun _ _ _ h => h) (by rfl) hS9 ?_ ?_
              rotate_left
              · intro w' hw'; go_simp; with_reducible rfl
              go_simp
              refine H_take (i := 8) (v := ?_) rfl (by as_aux_lemma => kernel_rfl) (by as_aux_lemma => kernel_rfl) (by as_aux_lemma => kernel_rfl) (fun _ _ _ h => h) (by rfl) hS9 ?_ ?_
              rotate_left
              · intro w' hw'; go_simp; with_reducible rfl
              go_simp
              refine H_take (i := 9) (v := ?_) rfl (by as_aux_lemma => kernel_rfl) (by as_aux_lemma => kernel_rfl) (by as_aux_lemma => kernel_rfl) (fun _ _ _ h => h) (by rfl) hS9 ?_ ?_
              rotate_left
              · intro w' hw'; go_simp; with_reducible rfl
              go_simp
              refine wpAnyH_done (by as_aux_lemma => kernel_rfl) ?_ _
              clear q0 q1 u0 u1 heq2 hS9
              go_wp2_with fail
              rw [rounds_succ]
              go_wp2_with fail
              have HCA : Hid (CS w0 gd gh d6 (ht, hv) (L ++ [(ht, hv)]) (.slice (some ⟨sb, so, none⟩) (n + 1) rc) W9.drew) := Lib.hid (HC9.out.next (Below.refl _ _).drew)
              refine (Follows_any (ot, ov) (L ++ [(ht, hv)]) _ _ W9.drew HCA.out.row.rep (fun j hj => hj.2)).mono ?_
              rintro e w10 ⟨rfl, hb10⟩
              rw [all_follow HFON.out (by simp)]
              have HC10 := Lib.hid (HCA.out.next hb10)
              have HBX10 := Lib.hid (old_below HBX.out ((Below.refl _ _).drew.trans hb10))
              clear hb10 b0 b1 bz2 htz9
              go_wp2_with fail
              obtain ⟨⟨X10, h10, hx10⟩, hr10⟩ := HC10.out
              refine (Open_any d6 X10 gd w10 h10.ds.dsk h10.ds.well.1.2.1 (Nat.le_trans HON.out.used (by decide)) (h10.ds.tab HT0)).mono ?_
              rintro e w11 ⟨g2, rfl, hb11, hg11, hk11⟩
              rw [HON.out.on] at hk11
              have HC11 := Lib.hid (HC10.out.open (has' := (ot, ov)) hb11 hg11 hk11)
              have HBX11 := Lib.hid (old_below HBX10.out hb11)
              obtain ⟨b0, b1, -, -, bz2⟩ := block2 HBX11.out
              obtain ⟨k0, k1, -, -, -, -, kz⟩ := block3 hk11
              have q0 : ∀ w', Below w11.heap.size w11 w' → w'.cell? ⟨w7.heap.size, 0, none⟩ = some (.int .i64 ot) := fun w' hw' => (hw'.cell bz2).trans b0
              have q1 : ∀ w', Below w11.heap.size w11 w' → w'.cell? ⟨w7.heap.size, 1, none⟩ = some (.int .i64 ov) := fun w' hw' => (hw'.cell bz2).trans b1
              have r0 : ∀ w', Below w11.heap.size w11 w' → w'.cell? ⟨g2, 0, none⟩ = some (.int .i64 ot) := fun w' hw' => (hw'.cell kz).trans k0
              have r1 : ∀ w', Below w11.heap.size w11 w' → w'.cell? ⟨g2, 1, none⟩ = some (.int .i64 ov) := fun w' hw' => (hw'.cell kz).trans k1
              have heq3 : ∀ w' : World, (Op.equalIn 10000 23 (.agg #[.int .i64 ot, .int .i64 ov]) (.agg #[.int .i64 ot, .int .i64 ov])).run Tryd.prog w' = .ok true w' := fun w' => by
                rw [eqState_any, decide_eq_true rfl]
              clear h10 hx10 hr10 hb11 hg11 hk11 b0 b1 k0 k1
              go_wp2_with fail
              have hS11 : Below w11.heap.size w11 w11.drew := (Below.refl _ _).drew
              refine wp_region_held (S := fun w' => Below w11.heap.size w11 w') (by kernel_rfl) ?_
              refine H_take (i := 0) (v := ?_) rfl (by as_aux_lemma => kernel_rfl) (by as_aux_lemma => kernel_rfl) (by as_aux_lemma => kernel_rfl) (fun _ _ _ h => h) (by rfl) hS11 ?_ ?_
              rotate_left
              · intro w' hw'; go_simp; with_reducible rfl
              go_simp
              refine H_take (i := 1) (v := ?_) rfl (by as_aux_lemma => kernel_rfl) (by as_aux_lemma => kernel_rfl) (by as_aux_lemma => kernel_rfl) (fun _ _ _ h => h) (by rfl) hS11 ?_ ?_
              rotate_left
              · intro w' hw'; go_simp; with_reducible rfl
              go_simp
              refine H_take (i := 2) (v := ?_) rfl (by as_aux_lemma => kernel_rfl) (by as_aux_lemma => kernel_rfl) (by as_aux_lemma => kernel_rfl) (fun _ _ _ h => h) (by rfl) hS11 ?_ ?_
              rotate_left
              · intro w' hw'; go_simp; with_reducible rfl
              go_simp
              refine H_take (i := 3) (v := ?_) rfl (by as_aux_lemma => kernel_rfl) (by as_aux_lemma => kernel_rfl) (by as_aux_lemma => kernel_rfl) (fun _ _ _ h => h) (by rfl) hS11 ?_ ?_
              rotate_left
              · intro w' hw'; go_simp; with_reducible rfl
              go_simp
              refine H_take (i := 4) (v := ?_) rfl (by as_aux_lemma => kernel_rfl) (by as_aux_lemma => kernel_rfl) (by as_aux_lemma => kernel_rfl) (fun _ _ _ h => h) (by rfl) hS11 ?_ ?_
              rotate_left
              · intro w' hw'; go_simp; with_reducible rfl
              go_simp
              refine H_take (i := 5) (v := ?_) rfl (by as_aux_lemma => kernel_rfl) (by as_aux_lemma => kernel_rfl) (by as_aux_lemma => kernel_rfl) (fun _ _ _ h => h) (by rfl) hS11 ?_ ?_
              rotate_left
              · intro w' hw'; go_simp; with_reducible rfl
              go_simp
              refine H_take (i := 6) (v := ?_) rfl (by as_aux_lemma => kernel_rfl) (by as_aux_lemma => kernel_rfl) (by as_aux_lemma => kernel_rfl) (fun _ _ _ h => h) (by rfl) hS11 ?_ ?_
              rotate_left
              · intro w' hw'; go_simp; with_reducible rfl
              go_simp
              refine H_take (i := 7) (v := ?_) rfl (by as_aux_lemma => kernel_rfl) (by as_aux_lemma => kernel_rfl) (by as_aux_lemma => kernel_rfl) (fun _ _ _ h => h) (by rfl) hS11 ?_ ?_
              rotate_left
              · intro w' hw'; go_simp; with_reducible rfl
              go_simp
              refine H_take (i := 8) (v := ?_) rfl (by as_aux_lemma => kernel_rfl) (by as_aux_lemma => kernel_rfl) (by as_aux_lemma => kernel_rfl) (fun _ _ _ h => h) (by rfl) hS11 ?_ ?_
              rotate_left
              · intro w' hw'; go_simp; with_reducible rfl
              go_simp
              refine H_take (i := 9) (v := ?_) rfl (by as_aux_lemma => kernel_rfl) (by as_aux_lemma => kernel_rfl) (by as_aux_lemma => kernel_rfl) (fun _ _ _ h => h) (by rfl) hS11 ?_ ?_
              rotate_left
              · intro w' hw'; go_simp; with_reducible rfl
              go_simp
              refine wpAnyH_done (by as_aux_lemma => kernel_rfl) ?_ _
              obtain ⟨W12, hW12⟩ : ∃ W12, W12 = w11.drew := ⟨_, rfl⟩
              rw [← hW12]
              have hb12 : Below w11.heap.size w11 W12 := by rw [hW12]; exact hS11
              have HBX12 := Lib.hid (old_below HBX11.out hb12)
              have HC12 := Lib.hid (HC11.out.next hb12)
              have HCB : Hid (CS w0 gd g2 d6 (ot, ov) (L ++ [(ht, hv)]) (.slice (some ⟨sb, so, none⟩) (n + 1) rc) (W12.alloc (.cells #[.int .i64 ot, .int .i64 ov] 23))) := Lib.hid (HC12.out.next (below_alloc _ _))
              obtain ⟨b0, b1, -, -, bz2⟩ := block2 HBX12.out
              clear q0 q1 r0 r1 heq3 hS11 hb12 hW12 kz
              go_wp2_with (at_builtin; refine wpList_append_any _ rfl (.tmp 146) (.tmp 148) 28 rfl w0.heap.size 23 ib (.agg #[.int .i64 0, .int .i64 0]) 2 16 Tryd.underlying28 hib hib0 hib1 hib2 rfl (by decide) _ (L ++ [(ht, hv)]).length (cells2 (L ++ [(ht, hv)])) rfl HCB.out.row _ rfl 1 [.int .i64 ot, .int .i64 ov] (yields_one (s := (ot, ov)) rfl) (by rw [List.length_append, List.length_singleton]; unfold maxLen; omega) (by rw [List.length_append, List.length_singleton]; omega) HCB.out.below.size ?_)
              intro v13 w13 happ
              have HC13 := Lib.hid (HCB.out.append (s := (ot, ov)) (by rw [List.length_append, List.length_singleton]; exact happ))
              obtain ⟨r13, c13, hv13⟩ := HC13.out.row.slice
              subst hv13
              clear happ
              go_wp2_with fail
              go_roundw
              case rel =>
                refine ⟨k + 1, by omega, by go_num, rfl, g2, d6, (ot, ov), L ++ [(ht, hv)], rfl, HC13.out, HON.out, fun e he => ?_, by rw [List.length_append, List.length_singleton]; omega⟩
                rcases List.mem_append.1 he with he | he
                · exact HFON.out e he
                · rw [List.mem_singleton.1 he]
                  exact follows_self (HFON.out (ht, hv) (by simp))
              case measure => simp [intOf]; omega
      · have hkk : ¬ (k : Int) < (sts.length : Int) := by omega
        obtain ⟨⟨X4, h4, hx4⟩, hr4⟩ := HCS.out
        have H4 := Lib.hid h4
        have HX4 : Hid (∀ g, (Value.slice ra (L.length + 1) rc).ownBlock = some g → ¬ X4 g ∧ g ≠ gh) := Lib.hid hx4
        have HR4 := Lib.hid hr4
        have hn60 : L.length ≤ 60 := Nat.le_trans HLL.out hk60
        clear h4 hx4 hr4
        go_wp2_with fail
        refine (H4.out.crash keep F _ (HV2.out.same (fun _ h => h) fun j hj => HBW.out.block j (HF.out j hj)) (fun j hj => ⟨Nat.lt_of_lt_of_le (HF.out j hj) HBW.out.size, fun hx => by
          have a1 := H4.out.ds.own j hx
          have a2 := HF.out j hj
          have a3 := HB0.out.size
          omega⟩)).mono ?_
        rintro e w6 ⟨rfl, X6, hX6, h6, ho6⟩
        have HC6 := Lib.hid (CS.call H4.out HX4.out HR4.out (ho6.mono fun j hj => .inl hj) hX6 h6)
        have H6 := Lib.hid h6
        have HON : Hid (Inv (D.crash d keep).2 k has) := Lib.hid (HI.out.crash keep)
        obtain ⟨d6, hd6⟩ : ∃ d6, d6 = (D.crash d keep).2 := ⟨_, rfl⟩
        rw [← hd6] at HC6 H6 HON
        clear hX6 h6 ho6 hd6
        obtain ⟨sb, so, hra, hsF, s0, s1⟩ := HC6.out.row.rep.elem L.length (by simp)
        simp only [List.getElem_append_right (Nat.le_refl _), Nat.sub_self, List.getElem_cons_zero] at s0 s1
        subst hra
        have hsz6 := hsF.2
        obtain ⟨ht, hv⟩ := has
        obtain ⟨n, hn⟩ : ∃ n, n = L.length := ⟨_, rfl⟩
        rw [← hn] at s0 s1 hn60 ⊢
        have p0 : ∀ w', Below w6.heap.size w6 w' → w'.cell? ⟨sb, so + n * 2, none⟩ = some (.int .i64 ht) := fun w' hw' => (hw'.cell (p := ⟨sb, so + n * 2, none⟩) hsz6).trans s0
        have p1 : ∀ w', Below w6.heap.size w6 w' → w'.cell? ⟨sb, so + n * 2 + 1, none⟩ = some (.int .i64 hv) := fun w' hw' => (hw'.cell (p := ⟨sb, so + n * 2 + 1, none⟩) hsz6).trans s1
        have hwn : IntKind.i64.wrap (n : Int) = (n : Int) := IntWalk.i64_in _ (by omega)
        have hn1 : (n : Int) < (n : Int) + 1 := by omega
        have heq3 : ∀ w' : World, (Op.equalIn 10000 23 (.agg #[.int .i64 ht, .int .i64 hv]) (.agg #[.int .i64 ht, .int .i64 hv])).run Tryd.prog w' = .ok true w' := fun w' => by
          rw [eqState_any, decide_eq_true rfl]
        clear s0 s1 hsF hn
        go_wp2_with fail
        have hS : Below w6.heap.size w6 w6.drew := (Below.refl _ _).drew
        refine wp_region_held (S := fun w' => Below w6.heap.size w6 w') (by kernel_rfl) ?_
        refine H_take (i := 0) (v := ?_) rfl (by as_aux_lemma => kernel_rfl) (by as_aux_lemma => kernel_rfl) (by as_aux_lemma => kernel_rfl) (fun _ _ _ h => h) (by rfl) hS ?_ ?_
        rotate_left
        · intro w' hw'; go_simp; with_reducible rfl
        go_simp
        refine H_take (i := 2) (v := ?_) rfl (by as_aux_lemma => kernel_rfl) (by as_aux_lemma => kernel_rfl) (by as_aux_lemma => kernel_rfl) (fun _ _ _ h => h) (by rfl) hS ?_ ?_
        rotate_left
        · intro w' hw'; go_simp; with_reducible rfl
        go_simp
        refine H_take (i := 3) (v := ?_) rfl (by as_aux_lemma => kernel_rfl) (by as_aux_lemma => kernel_rfl) (by as_aux_lemma => kernel_rfl) (fun _ _ _ h => h) (by rfl) hS ?_ ?_
        rotate_left
        · intro w' hw'; go_simp; with_reducible rfl
        go_simp
        refine H_take (i := 4) (v := ?_) rfl (by as_aux_lemma => kernel_rfl) (by as_aux_lemma => kernel_rfl) (by as_aux_lemma => kernel_rfl) (fun _ _ _ h => h) (by rfl) hS ?_ ?_
        rotate_left
        · intro w' hw'; go_simp; with_reducible rfl
        go_simp
        refine H_take (i := 5) (v := ?_) rfl (by as_aux_lemma => kernel_rfl) (by as_aux_lemma => kernel_rfl) (by as_aux_lemma => kernel_rfl) (fun _ _ _ h => h) (by rfl) hS ?_ ?_
        rotate_left
        · intro w' hw'; go_simp; with_reducible rfl
        go_simp
        refine H_take (i := 6) (v := ?_) rfl (by as_aux_lemma => kernel_rfl) (by as_aux_lemma => kernel_rfl) (by as_aux_lemma => kernel_rfl) (fun _ _ _ h => h) (by rfl) hS ?_ ?_
        rotate_left
        · intro w' hw'; go_simp; with_reducible rfl
        go_simp
        refine H_take (i := 7) (v := ?_) rfl (by as_aux_lemma => kernel_rfl) (by as_aux_lemma => kernel_rfl) (by as_aux_lemma => kernel_rfl) (fun _ _ _ h => h) (by rfl) hS ?_ ?_
        rotate_left
        · intro w' hw'; go_simp; with_reducible rfl
        go_simp
        refine H_one (i := 1) (by as_aux_lemma => kernel_rfl) rfl (by rfl) ?_
        go_simp
        have hon := On_any d6 X6 gd w6.drew (H6.out.ds.next hS).dsk H6.out.ds.well.1.2.1 (Nat.le_trans HON.out.used (by decide)) ((H6.out.ds.next hS).tab HT0)
        rw [HON.out.on] at hon
        refine hon.mono ?_
        rintro e w7 ⟨rfl, hb7⟩
        have hS7 : Below w6.heap.size w6 w7 := hS.trans (hb7.mono hS.size)
        have HFIN : Hid (Below w.heap.size w w7) := Lib.hid (HB0.out.trans ((HC6.out.below.trans (hS7.mono HC6.out.below.size)).mono HB0.out.size))
        refine ⟨hS7, ?_⟩
        go_simp
        refine H_take (i := 8) (v := ?_) rfl (by as_aux_lemma => kernel_rfl) (by as_aux_lemma => kernel_rfl) (by as_aux_lemma => kernel_rfl) (fun _ _ _ h => h) (by rfl) hS7 ?_ ?_
        rotate_left
        · intro w' hw'; go_simp; with_reducible rfl
        go_simp
        refine H_take (i := 9) (v := ?_) rfl (by as_aux_lemma => kernel_rfl) (by as_aux_lemma => kernel_rfl) (by as_aux_lemma => kernel_rfl) (fun _ _ _ h => h) (by rfl) hS7 ?_ ?_
        rotate_left
        · intro w' hw'; go_simp; with_reducible rfl
        go_simp
        refine wpAnyH_done (by as_aux_lemma => kernel_rfl) ?_ _
        clear p0 p1 heq3 hS hS7 hon hb7
        go_wp2_with fail
        go_ret
        exact ⟨rfl, HFIN.out⟩
end Go.Proofs.YtikcdchmggdmdaaDoor.M
