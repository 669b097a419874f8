/- The law TimerDue. -/
import Derived.Test.YtckankoaiapcoaaTM13
import Derived.Test.YtckankoaiapcoaaTM14
import Derived.Deep.LoopGhost
namespace Go.Proofs.Ytckankoaiapcoaa.M
open Go.RowKit Go.Maps
open Tm (Al at' alt swL Pl HpF UpI DnI Sm srt setS clrS Uq)


/-- What the list is behind one more. -/
theorem due_more {l : List Al} {y m mo mx : Nat} (hl : l.length = y) (hx : ∀ x ∈ l, x.1 ≤ (mo : Int) ∧ 0 ≤ x.2 ∧ x.2 < (y : Int)) (hm : mo ≤ mx) (hm2 : m ≤ mx) :
    (setsS l (m : Int) [(y : Int)]).length = y + 1 ∧ ∀ x ∈ setsS l (m : Int) [(y : Int)], x.1 ≤ (mx : Int) ∧ 0 ≤ x.2 ∧ x.2 < ((y + 1 : Nat) : Int) := by
  have hc : clrS l (y : Int) = l := Tm.clr_none fun x h e => by have := (hx x h).2.2; omega
  refine ⟨?_, fun x h => ?_⟩
  · show (setS l (m : Int) (y : Int)).length = _
    unfold Tm.setS
    rw [hc, Tm.ins_length, hl]
  · have h' : x ∈ setS l (m : Int) (y : Int) := h
    rcases Tm.set_mem.1 h' with rfl | ⟨h1, _⟩
    · simp only; omega
    · have := hx x h1; omega



set_option maxRecDepth 20000 in
set_option maxHeartbeats 6400000 in
theorem TimerDue_any (ats asks : List Int) (av kv : Value) (w : World) (hat : RepI w (fun k => k < w.heap.size) ats av) (hak : RepI w (fun k => k < w.heap.size) asks kv) :
    Calls Try.prog 6 #[av, kv] w fun e w' => e = .returned (.bool true) ∧ Below w.heap.size w w' := by
  obtain ⟨aa, ac, rfl, hal⟩ := hat.slice
  obtain ⟨ka, kc, rfl, hkl⟩ := hak.slice
  obtain ⟨n, hn⟩ : ∃ n, n = ats.length := ⟨_, rfl⟩
  obtain ⟨q, hq⟩ : ∃ q, q = asks.length := ⟨_, rfl⟩
  rw [← hn] at hal ⊢
  rw [← hq] at hkl ⊢
  have HA := Lib.hid hat
  have HK := Lib.hid hak
  have HN := Lib.hid hn
  have HQ := Lib.hid hq
  clear hat hak hn hq
  go_enter Try.func6, Try.ntmps6
  go_wp2_with fail
  refine (awake10_any w).mono ?_
  rintro e w2 ⟨rfl, hb2⟩
  have HB2 := Lib.hid hb2
  clear hb2
  by_cases h1 : n ≤ 60
  · by_cases h2 : q ≤ 60
    · have h1' : ¬ (60 : Int) < (n : Int) := by omega
      have h2' : ¬ (60 : Int) < (q : Int) := by omega
      obtain ⟨ga, hga⟩ : ∃ ga, ga = w2.heap.size := ⟨_, rfl⟩
      obtain ⟨gb, hgb⟩ : ∃ gb, gb = ga + 1 := ⟨_, rfl⟩
      obtain ⟨W, hW⟩ : ∃ W, W = (w2.alloc (.cells #[.slice none 0 0, .map none] 42)).alloc (.cells #[.slice none 0 0, .map none] 42) := ⟨_, rfl⟩
      have htd : TD w (fun q => q = ga) (fun q => q = gb) ga gb [] [] [] [] (.slice none 0 0) (.slice none 0 0) W := by
        have ha := AW.new HB2.out hga
        have hb := AW.new (ga := gb) ha.below (by rw [hgb, hga]; simp)
        rw [← hW] at hb
        refine ⟨?_, hb, fun q h1 h2 => by omega, IR.bare _ _, IR.bare _ _, fun k hk => (by cases hk), fun k hk => (by cases hk), fun k hk => (by cases hk)⟩
        rw [hW]; exact ha.next (below_alloc _ _)
      have HTD := Lib.hid htd
      have HW := Lib.hid hW
      have HGA := Lib.hid hga
      have HGB := Lib.hid hgb
      clear htd hW hga hgb
      go_wp2_with fail
      rw [← HGA.out, ← HGB.out, ← HW.out]
      go_loopg [7, 8, 9] n (fun gk mv iv _ wr => ∃ (y mo : Nat) (l : List Al) (Xa Xb : Nat → Prop), y + gk = n ∧ iv = .int .i64 (y : Int) ∧ mv = .int .i64 (mo : Int) ∧ mo < 100 ∧ Hid (TD w Xa Xb ga gb l l [] [] (.slice none 0 0) (.slice none 0 0) wr ∧ l.length = y ∧ (∀ x ∈ l, x.1 ≤ (mo : Int) ∧ 0 ≤ x.2 ∧ x.2 < (y : Int))))
      case atStart => exact ⟨0, 0, [], _, _, by omega, rfl, rfl, by omega, Lib.hid ⟨HTD.out, rfl, fun x h => by simp at h⟩⟩
      case round =>
        obtain ⟨y, mo, l, Xa, Xb, hy, rfl, rfl, hmo, HT⟩ := hrel
        by_cases hyn : y < n
        · have hyn2 : (y : Int) < (n : Int) := by omega
          obtain ⟨b, off, rfl, -, e0, e1, e2⟩ := (HA.out.same (fun _ h => h) fun k hk => HT.out.1.a.below.block k hk).elem' (m := n) HN.out y hyn
          obtain ⟨x, hx⟩ : ∃ x, x = ats[y]'(by rw [← HN.out]; exact hyn) := ⟨_, rfl⟩
          rw [← hx] at e0 e1 e2
          obtain ⟨r, m, k1, k2, k3, k4, k5⟩ := mod100 x ⟨e1, e2⟩
          have HSET : Hid (∀ (Ya Yb : Nat → Prop) (g1 g2 : Nat) (lb : List Al) (v1 v2 : Value) (wo : World), TD w Ya Yb g1 g2 l lb [] [] v1 v2 wo → Calls Try.prog 16 #[.pointer (some ⟨g1, 0, none⟩), .int .i64 (m : Int), .slice (some ⟨wo.heap.size, 0, none⟩) 1 1] (wo.alloc (.cells #[.int .i64 (y : Int)] 3)) fun e w' => e = .returned (.tuple #[]) ∧ ∃ Ya', TD w Ya' Yb g1 g2 (setsS l (m : Int) [(y : Int)]) lb [] [] v1 v2 w') := by
            refine Lib.hid fun Ya Yb g1 g2 lb v1 v2 wo ht => ?_
            obtain ⟨W8, hW8⟩ : ∃ W8, W8 = wo.alloc (.cells #[.int .i64 (y : Int)] 3) := ⟨_, rfl⟩
            have hb8 : Below wo.heap.size wo W8 := by rw [hW8]; exact below_alloc _ _
            have hr8 : RepI W8 (fun b => b < W8.heap.size ∧ b = wo.heap.size) [(y : Int)] (.slice (some ⟨wo.heap.size, 0, none⟩) 1 1) := by
              have h1 := RepI.lit (w := wo) (l := [(y : Int)]) (g := wo.heap.size) (cs := #[.int .i64 (y : Int)]) rfl rfl (by simp) (by intro z hz; simp at hz; omega) (n := 1) rfl
              rw [← hW8] at h1
              refine ((h1.exact (g' := wo.heap.size) rfl)).same (fun k hk => ⟨?_, hk⟩) fun _ _ => rfl
              rw [hk, hW8]; simp
            rw [← hW8]
            have ht8 := ht.next hb8
            refine (Set_any g1 Ya l (m : Int) (by unfold In1; omega) [(y : Int)] _ _ (by rw [HT.out.2.1]; simp; omega) W8 ht8.a.alm hr8 fun k hk => ⟨hk.1, fun h => by have := (ht.a.lo k h).2; have := hk.2; omega⟩).mono ?_
            rintro e w' ⟨rfl, hm⟩
            exact ⟨rfl, _, ht8.set hm⟩
          have HS1 := Lib.hid (HSET.out Xa Xb ga gb l _ _ wr HT.out.1)
          clear hx
          go_wp2_with fail
          refine HS1.out.mono ?_
          rintro e w5 ⟨rfl, Xa', ht5⟩
          have HS2 := Lib.hid (HSET.out Xb Xa' gb ga _ _ _ w5 ht5.swap)
          clear HS1 ht5 e0
          go_wp2_with fail
          refine HS2.out.mono ?_
          rintro e w6 ⟨rfl, Xb', ht6⟩
          obtain ⟨mx, hmx⟩ : ∃ mx : Nat, mx = max mo m := ⟨_, rfl⟩
          have hmx2 : max (mo : Int) (m : Int) = (mx : Int) := by omega
          have HT6 := Lib.hid ht6.swap
          have HM := Lib.hid (due_more (mx := mx) (m := m) HT.out.2.1 HT.out.2.2 (by omega) (by omega))
          have hmx100 : mx < 100 := by omega
          clear hmx HS2 ht6
          go_wp2_with fail
          go_roundg (n - (y + 1))
          case measure => omega
          case rel => exact ⟨y + 1, mx, _, _, _, by omega, by go_num, by go_num, hmx100, Lib.hid ⟨HT6.out, HM.out.1, HM.out.2⟩⟩
        · have hyn2 : ¬ (y : Int) < (n : Int) := by omega
          obtain rfl : y = n := by omega
          have HLL : Hid (l.length = y ∧ ∀ x ∈ l, x.1 ≤ (mo : Int)) := Lib.hid ⟨HT.out.2.1, fun x hx => (HT.out.2.2 x hx).1⟩
          have HT0 : Hid (TD w Xa Xb ga gb l l [] [] (.slice none 0 0) (.slice none 0 0) wr) := Lib.hid HT.out.1
          clear HT HTD
          go_wp2_with fail
          go_loopg [10, 11, 12, 13, 14] (mo + 1) (fun gk v1 v2 tv _ _ wr => ∃ (t pa pb c1 c2 : Nat) (a1 a2 : Option Addr) (Xa Xb : Nat → Prop), t + gk = mo + 1 ∧ tv = .int .i64 (t : Int) ∧ v1 = .slice a1 pa c1 ∧ v2 = .slice a2 pb c2 ∧ pa ≤ y ∧ pb ≤ y ∧
            Hid (TD w Xa Xb ga gb (l.drop pa) (l.drop pb) (keysTo l pa) (keysTo l pb) (.slice a1 pa c1) (.slice a2 pb c2) wr ∧ (mo < t → pa = y ∧ pb = y)))
          case atStart => exact ⟨0, 0, 0, 0, 0, none, none, Xa, Xb, by omega, rfl, rfl, rfl, by omega, by omega, Lib.hid ⟨HT0.out, fun h => absurd h (by omega)⟩⟩
          case round =>
            obtain ⟨t, pa, pb, c1, c2, a1, a2, Ya, Yb, ht, rfl, rfl, rfl, hpa, hpb, HT⟩ := hrel
            obtain ⟨gO, hgO⟩ : ∃ gO, gO = gk := ⟨_, rfl⟩
            subst hgO
            by_cases htm : t ≤ mo
            · have htm2 : (t : Int) ≤ (mo : Int) := by omega
              have HDA := Lib.hid (Due_any ga Ya (l.drop pa) (t : Int) wr HT.out.1.a.alm (fun q hq => (HT.out.1.a.lo q hq).2) (by rw [List.length_drop, HLL.out.1]; omega))
              go_wp2_with fail
              refine HDA.out.mono ?_
              rintro e w5 ⟨xv, rfl, ho5, ha5, hx5⟩
              have htd5 := HT.out.1.due ho5 ha5
              obtain ⟨da, hda⟩ : ∃ da, da = dueN (l.drop pa) (t : Int) := ⟨_, rfl⟩
              have hkl1 : (keysTo l pa).length = pa := keysTo_length (by rw [HLL.out.1]; omega)
              have hda2 : pa + da ≤ y := by have := dueN_le (l.drop pa) (t : Int); rw [List.length_drop, HLL.out.1] at this; omega
              have hkl2 : (keysTo l (pa + da)).length = pa + da := keysTo_length (by rw [HLL.out.1]; omega)
              have hmore := keysTo_more l pa (t : Int)
              rw [← hda] at hmore ha5 htd5
              have hkl3 : (dueK (l.drop pa) (t : Int)).length = da := by have := congrArg List.length hmore; rw [List.length_append, hkl1, hkl2] at this; omega
              have HAA : Hid (t = mo → pa + da = y) := Lib.hid fun e => by
                rw [hda, e, dueN_all fun x hx => HLL.out.2 x (List.mem_of_mem_drop hx), List.length_drop, HLL.out.1]; omega
              have HMORE := Lib.hid hmore
              have HTD5 := Lib.hid htd5
              have HX5 := Lib.hid hx5
              have HKL := Lib.hid (And.intro hkl1 (And.intro hkl2 hkl3))
              clear HDA ho5 ha5 hx5 htd5 hda hmore hkl1 hkl2 hkl3
              go_wp2_with (at_builtin; refine wpList_ir_append rfl (.tmp 58) (.tmp 60) rfl rfl rfl HTD5.out.r1 HTD5.out.a.below.size rfl HX5.out.rep (by rw [HKL.out.1, HKL.out.2.2]; omega) ?_)
              intro v6 w6 ht6
              rw [← HMORE.out] at ht6
              have htd6 := HTD5.out.app ht6
              rw [List.drop_drop] at htd6
              obtain ⟨a6, c6, hv6⟩ := ht6.1.slice
              rw [HKL.out.2.1] at hv6
              subst hv6
              have HTD6 := Lib.hid htd6
              clear htd6 ht6 HTD5
              obtain ⟨wo, hwo⟩ : ∃ wo, wo = w6 := ⟨_, rfl⟩
              subst hwo
              have HB6 := Lib.hid HTD6.out.a.below
              by_cases hte : t = mo
              · have q0 : ((t : Int) == (mo : Int)) = true := by simp; omega
                have HSD : Hid (t = mo → (true : Bool) = true) := Lib.hid fun _ => rfl
                clear hte
                go_wp2_with fail
                go_loopg [13, 14] q (fun gk sv zv wr => ∃ (z : Nat) (sb : Bool), z + gk = q ∧ zv = .int .i64 (z : Int) ∧ sv = .bool sb ∧ Hid (t = mo → sb = true) ∧ Hid (wr = wo))
                case atStart => first | exact ⟨0, true, by omega, rfl, rfl, Lib.hid fun _ => rfl, Lib.hid rfl⟩ | exact ⟨0, _, by omega, rfl, rfl, HSD, Lib.hid rfl⟩
                case round =>
                  obtain ⟨z, sb, hz, rfl, rfl, HSB, HWR⟩ := hrel
                  have hwr := HWR.out
                  subst hwr
                  by_cases hzq : z < q
                  · have hzq2 : (z : Int) < (q : Int) := by omega
                    cases sb with
                    | true =>
                      go_wp2_with fail
                      go_roundg (q - (z + 1))
                      case measure => omega
                      case rel => exact ⟨z + 1, true, by omega, by go_num, rfl, Lib.hid fun _ => rfl, Lib.hid rfl⟩
                    | false =>
                      obtain ⟨b, off, rfl, -, e0, e1, e2⟩ := (HK.out.same (fun _ h => h) fun k hk => HB6.out.block k hk).elem' (m := q) HQ.out z hzq
                      obtain ⟨x, hx⟩ : ∃ x, x = asks[z]'(by rw [← HQ.out]; exact hzq) := ⟨_, rfl⟩
                      rw [← hx] at e0 e1 e2
                      obtain ⟨r, m, k1, k2, k3, k4, k5⟩ := mod100 x ⟨e1, e2⟩
                      have hnm : ¬ t = mo := fun h => by have := HSB.out h; cases this
                      have HNM := Lib.hid hnm
                      clear hx hnm
                      go_wp2_with fail
                      go_roundg (q - (z + 1))
                      case measure => omega
                      case rel => exact ⟨z + 1, _, by omega, by go_num, rfl, Lib.hid fun h => absurd h HNM.out, Lib.hid rfl⟩
                  · have hzq2 : ¬ (z : Int) < (q : Int) := by omega
                    cases sb with
                    | true =>
                      have HDB := Lib.hid (Due_any gb Yb (l.drop pb) (t : Int) wr HTD6.out.b.alm (fun q hq => (HTD6.out.b.lo q hq).2) (by rw [List.length_drop, HLL.out.1]; omega))
                      go_wp2_with fail
                      refine HDB.out.mono ?_
                      rintro e w7 ⟨xv, rfl, ho7, ha7, hx7⟩
                      have htd7 := HTD6.out.swap.due ho7 ha7
                      obtain ⟨db, hdb⟩ : ∃ db, db = dueN (l.drop pb) (t : Int) := ⟨_, rfl⟩
                      have hkl1 : (keysTo l pb).length = pb := keysTo_length (by rw [HLL.out.1]; omega)
                      have hdb2 : pb + db ≤ y := by have := dueN_le (l.drop pb) (t : Int); rw [List.length_drop, HLL.out.1] at this; omega
                      have hkl2 : (keysTo l (pb + db)).length = pb + db := keysTo_length (by rw [HLL.out.1]; omega)
                      have hmore := keysTo_more l pb (t : Int)
                      rw [← hdb] at hmore ha7 htd7
                      have hkl3 : (dueK (l.drop pb) (t : Int)).length = db := by have := congrArg List.length hmore; rw [List.length_append, hkl1, hkl2] at this; omega
                      have HAB : Hid (t = mo → pb + db = y) := Lib.hid fun e => by
                        rw [hdb, e, dueN_all fun x hx => HLL.out.2 x (List.mem_of_mem_drop hx), List.length_drop, HLL.out.1]; omega
                      have HMORE2 := Lib.hid hmore
                      have HTD7 := Lib.hid htd7
                      have HX7 := Lib.hid hx7
                      have HKL2 := Lib.hid (And.intro hkl1 (And.intro hkl2 hkl3))
                      clear HDB ho7 ha7 hx7 htd7 hdb hmore hkl1 hkl2 hkl3
                      go_wp2_with (at_builtin; refine wpList_ir_append rfl (.tmp 84) (.tmp 86) rfl rfl rfl HTD7.out.r1 HTD7.out.a.below.size rfl HX7.out.rep (by rw [HKL2.out.1, HKL2.out.2.2]; omega) ?_)
                      intro v8 w8 ht8
                      rw [← HMORE2.out] at ht8
                      have htd8 := HTD7.out.app ht8
                      rw [List.drop_drop] at htd8
                      obtain ⟨a29, c29, hv8⟩ := ht8.1.slice
                      rw [HKL2.out.2.1] at hv8
                      subst hv8
                      obtain ⟨pb9, hpb9e⟩ : ∃ pb9, pb9 = pb + db := ⟨_, rfl⟩
                      rw [← hpb9e] at htd8 hdb2
                      have hpb9 : pb9 ≤ y := hdb2
                      have hpe := hpb9e.symm
                      have HR9 : Hid (TD w Ya Yb ga gb (l.drop (pa + da)) (l.drop pb9) (keysTo l (pa + da)) (keysTo l pb9) (.slice a6 (pa + da) c6) (.slice a29 pb9 c29) w8 ∧ (mo < t + 1 → pa + da = y ∧ pb9 = y)) := Lib.hid ⟨htd8.swap, fun h => ⟨HAA.out (by omega), by rw [hpb9e]; exact HAB.out (by omega)⟩⟩
                      clear htd8 ht8 HTD7 hpb9e
                      go_wp2_with fail
                      subst hpe
                      go_roundg (mo + 1 - (t + 1))
                      case measure => omega
                      case rel => exact ⟨t + 1, pa + da, _, c6, _, a6, _, _, _, by omega, by go_num, rfl, rfl, hda2, hpb9, HR9⟩
                    | false =>
                      have hnm : ¬ t = mo := fun h => by have := HSB.out h; cases this
                      obtain ⟨pb9, hpb9e⟩ : ∃ pb9, pb9 = pb := ⟨_, rfl⟩
                      obtain ⟨c29, hc29⟩ : ∃ c29, c29 = c2 := ⟨_, rfl⟩
                      obtain ⟨a29, ha29⟩ : ∃ a29, a29 = a2 := ⟨_, rfl⟩
                      subst hpb9e
                      subst hc29
                      subst ha29
                      have hpb9 := hpb
                      have HR9 : Hid (TD w Ya Yb ga gb (l.drop (pa + da)) (l.drop pb9) (keysTo l (pa + da)) (keysTo l pb9) (.slice a6 (pa + da) c6) (.slice a29 pb9 c29) wr ∧ (mo < t + 1 → pa + da = y ∧ pb9 = y)) := Lib.hid ⟨HTD6.out, fun h => absurd (by omega) hnm⟩
                      clear hnm
                      go_wp2_with fail
                      go_roundg (mo + 1 - (t + 1))
                      case measure => omega
                      case rel => exact ⟨t + 1, pa + da, _, c6, _, a6, _, _, _, by omega, by go_num, rfl, rfl, hda2, hpb9, HR9⟩
              · have q0 : ((t : Int) == (mo : Int)) = false := by simp; omega
                have HSD : Hid (t = mo → (false : Bool) = true) := Lib.hid fun h => absurd h hte
                clear hte
                go_wp2_with fail
                go_loopg [13, 14] q (fun gk sv zv wr => ∃ (z : Nat) (sb : Bool), z + gk = q ∧ zv = .int .i64 (z : Int) ∧ sv = .bool sb ∧ Hid (t = mo → sb = true) ∧ Hid (wr = wo))
                case atStart => first | exact ⟨0, true, by omega, rfl, rfl, Lib.hid fun _ => rfl, Lib.hid rfl⟩ | exact ⟨0, _, by omega, rfl, rfl, HSD, Lib.hid rfl⟩
                case round =>
                  obtain ⟨z, sb, hz, rfl, rfl, HSB, HWR⟩ := hrel
                  have hwr := HWR.out
                  subst hwr
                  by_cases hzq : z < q
                  · have hzq2 : (z : Int) < (q : Int) := by omega
                    cases sb with
                    | true =>
                      go_wp2_with fail
                      go_roundg (q - (z + 1))
                      case measure => omega
                      case rel => exact ⟨z + 1, true, by omega, by go_num, rfl, Lib.hid fun _ => rfl, Lib.hid rfl⟩
                    | false =>
                      obtain ⟨b, off, rfl, -, e0, e1, e2⟩ := (HK.out.same (fun _ h => h) fun k hk => HB6.out.block k hk).elem' (m := q) HQ.out z hzq
                      obtain ⟨x, hx⟩ : ∃ x, x = asks[z]'(by rw [← HQ.out]; exact hzq) := ⟨_, rfl⟩
                      rw [← hx] at e0 e1 e2
                      obtain ⟨r, m, k1, k2, k3, k4, k5⟩ := mod100 x ⟨e1, e2⟩
                      have hnm : ¬ t = mo := fun h => by have := HSB.out h; cases this
                      have HNM := Lib.hid hnm
                      clear hx hnm
                      go_wp2_with fail
                      go_roundg (q - (z + 1))
                      case measure => omega
                      case rel => exact ⟨z + 1, _, by omega, by go_num, rfl, Lib.hid fun h => absurd h HNM.out, Lib.hid rfl⟩
                  · have hzq2 : ¬ (z : Int) < (q : Int) := by omega
                    cases sb with
                    | true =>
                      have HDB := Lib.hid (Due_any gb Yb (l.drop pb) (t : Int) wr HTD6.out.b.alm (fun q hq => (HTD6.out.b.lo q hq).2) (by rw [List.length_drop, HLL.out.1]; omega))
                      go_wp2_with fail
                      refine HDB.out.mono ?_
                      rintro e w7 ⟨xv, rfl, ho7, ha7, hx7⟩
                      have htd7 := HTD6.out.swap.due ho7 ha7
                      obtain ⟨db, hdb⟩ : ∃ db, db = dueN (l.drop pb) (t : Int) := ⟨_, rfl⟩
                      have hkl1 : (keysTo l pb).length = pb := keysTo_length (by rw [HLL.out.1]; omega)
                      have hdb2 : pb + db ≤ y := by have := dueN_le (l.drop pb) (t : Int); rw [List.length_drop, HLL.out.1] at this; omega
                      have hkl2 : (keysTo l (pb + db)).length = pb + db := keysTo_length (by rw [HLL.out.1]; omega)
                      have hmore := keysTo_more l pb (t : Int)
                      rw [← hdb] at hmore ha7 htd7
                      have hkl3 : (dueK (l.drop pb) (t : Int)).length = db := by have := congrArg List.length hmore; rw [List.length_append, hkl1, hkl2] at this; omega
                      have HAB : Hid (t = mo → pb + db = y) := Lib.hid fun e => by
                        rw [hdb, e, dueN_all fun x hx => HLL.out.2 x (List.mem_of_mem_drop hx), List.length_drop, HLL.out.1]; omega
                      have HMORE2 := Lib.hid hmore
                      have HTD7 := Lib.hid htd7
                      have HX7 := Lib.hid hx7
                      have HKL2 := Lib.hid (And.intro hkl1 (And.intro hkl2 hkl3))
                      clear HDB ho7 ha7 hx7 htd7 hdb hmore hkl1 hkl2 hkl3
                      go_wp2_with (at_builtin; refine wpList_ir_append rfl (.tmp 84) (.tmp 86) rfl rfl rfl HTD7.out.r1 HTD7.out.a.below.size rfl HX7.out.rep (by rw [HKL2.out.1, HKL2.out.2.2]; omega) ?_)
                      intro v8 w8 ht8
                      rw [← HMORE2.out] at ht8
                      have htd8 := HTD7.out.app ht8
                      rw [List.drop_drop] at htd8
                      obtain ⟨a29, c29, hv8⟩ := ht8.1.slice
                      rw [HKL2.out.2.1] at hv8
                      subst hv8
                      obtain ⟨pb9, hpb9e⟩ : ∃ pb9, pb9 = pb + db := ⟨_, rfl⟩
                      rw [← hpb9e] at htd8 hdb2
                      have hpb9 : pb9 ≤ y := hdb2
                      have hpe := hpb9e.symm
                      have HR9 : Hid (TD w Ya Yb ga gb (l.drop (pa + da)) (l.drop pb9) (keysTo l (pa + da)) (keysTo l pb9) (.slice a6 (pa + da) c6) (.slice a29 pb9 c29) w8 ∧ (mo < t + 1 → pa + da = y ∧ pb9 = y)) := Lib.hid ⟨htd8.swap, fun h => ⟨HAA.out (by omega), by rw [hpb9e]; exact HAB.out (by omega)⟩⟩
                      clear htd8 ht8 HTD7 hpb9e
                      go_wp2_with fail
                      subst hpe
                      go_roundg (mo + 1 - (t + 1))
                      case measure => omega
                      case rel => exact ⟨t + 1, pa + da, _, c6, _, a6, _, _, _, by omega, by go_num, rfl, rfl, hda2, hpb9, HR9⟩
                    | false =>
                      have hnm : ¬ t = mo := fun h => by have := HSB.out h; cases this
                      obtain ⟨pb9, hpb9e⟩ : ∃ pb9, pb9 = pb := ⟨_, rfl⟩
                      obtain ⟨c29, hc29⟩ : ∃ c29, c29 = c2 := ⟨_, rfl⟩
                      obtain ⟨a29, ha29⟩ : ∃ a29, a29 = a2 := ⟨_, rfl⟩
                      subst hpb9e
                      subst hc29
                      subst ha29
                      have hpb9 := hpb
                      have HR9 : Hid (TD w Ya Yb ga gb (l.drop (pa + da)) (l.drop pb9) (keysTo l (pa + da)) (keysTo l pb9) (.slice a6 (pa + da) c6) (.slice a29 pb9 c29) wr ∧ (mo < t + 1 → pa + da = y ∧ pb9 = y)) := Lib.hid ⟨HTD6.out, fun h => absurd (by omega) hnm⟩
                      clear hnm
                      go_wp2_with fail
                      go_roundg (mo + 1 - (t + 1))
                      case measure => omega
                      case rel => exact ⟨t + 1, pa + da, _, c6, _, a6, _, _, _, by omega, by go_num, rfl, rfl, hda2, hpb9, HR9⟩
            · have htm2 : ¬ (t : Int) ≤ (mo : Int) := by omega
              obtain ⟨ea, eb⟩ : pa = y ∧ pb = y := HT.out.2 (by omega)
              have ea := ea.symm
              have eb := eb.symm
              subst ea
              subst eb
              have hdr : l.drop y = [] := List.drop_of_length_le (by rw [HLL.out.1]; exact Nat.le_refl _)
              have htd := HT.out.1
              rw [hdr] at htd
              have hkl : (keysTo l y).length = y := keysTo_length (by rw [HLL.out.1]; exact Nat.le_refl _)
              have HLA := Lib.hid (Len_any ga Ya [] wr htd.a.alm)
              have HLB := Lib.hid (Len_any gb Yb [] wr htd.b.alm)
              have HTD := Lib.hid htd
              have HKL := Lib.hid hkl
              clear hdr htd hkl HT
              go_wp2_with fail
              refine HLA.out.mono ?_
              rintro e w5 ⟨rfl, rfl⟩
              go_wp2_with fail
              refine HLB.out.mono ?_
              rintro e w6 ⟨rfl, rfl⟩
              go_wp2_with fail
              go_loopg [15] y (fun gk zv wr => ∃ z : Nat, z + gk = y ∧ zv = .int .i64 (z : Int) ∧ Hid (TD w Ya Yb ga gb [] [] (keysTo l y) (keysTo l y) (.slice a1 y c1) (.slice a2 y c2) wr))
              case atStart => exact ⟨0, by omega, rfl, HTD⟩
              case round =>
                obtain ⟨z, hz, rfl, HTZ⟩ := hrel
                by_cases hzy : z < y
                · have hzy2 : (z : Int) < (y : Int) := by omega
                  obtain ⟨b1, o1, rfl, -, f0, -, -⟩ := HTZ.out.r1.rep.elem' (m := y) HKL.out.symm z hzy
                  obtain ⟨b2, o2, rfl, -, g0, -, -⟩ := HTZ.out.r2.rep.elem' (m := y) HKL.out.symm z hzy
                  obtain ⟨x, hx⟩ : ∃ x, x = (keysTo l y)[z]'(by rw [HKL.out]; exact hzy) := ⟨_, rfl⟩
                  rw [← hx] at f0 g0
                  clear hx
                  go_wp2_with fail
                  go_region
                  go_wp2_with fail
                  go_roundg (y - (z + 1))
                  case measure => omega
                  case rel => exact ⟨z + 1, by omega, by go_num, Lib.hid (HTZ.out.next (below_drew1 _))⟩
                · have hzy2 : ¬ (z : Int) < (y : Int) := by omega
                  go_wp2_with fail
                  go_ret
                  exact ⟨rfl, HTZ.out.a.below⟩
    · have h1' : ¬ (60 : Int) < (n : Int) := by omega
      have h2' : (60 : Int) < (q : Int) := by omega
      go_wp2_with fail
      refine (awake10_any _).mono ?_
      rintro e w9 ⟨rfl, hb9⟩
      have HB9 : Hid (Below w.heap.size w w9) := Lib.hid (HB2.out.trans (hb9.mono HB2.out.size))
      clear hb9
      go_wp2_with fail
      go_ret
      exact ⟨rfl, HB9.out⟩
  · have h1' : (60 : Int) < (n : Int) := by omega
    go_wp2_with fail
    refine (awake10_any _).mono ?_
    rintro e w9 ⟨rfl, hb9⟩
    have HB9 : Hid (Below w.heap.size w w9) := Lib.hid (HB2.out.trans (hb9.mono HB2.out.size))
    clear hb9
    go_wp2_with fail
    go_ret
    exact ⟨rfl, HB9.out⟩
end Go.Proofs.Ytckankoaiapcoaa.M
