/- The document's shelf: Clean. -/
import Derived.Test.YtbcpcopapbgcdaaGreatDoorSW47
import Derived.Test.YtbcpcopapbgcdaaGreatDoorSW30
namespace Go.Proofs.YtbcpcopapbgcdaaGreatDoor.M
open Go.RowKit
open D (Fl Dk)

theorem names_next {fs : List Fl} {t : Int} {k : Nat} (h : k < fs.length) : ((fs.take (k + 1)).map (·.nm)).filter (elder t) = ((fs.take k).map (·.nm)).filter (elder t) ++ (if elder t fs[k].nm then [fs[k].nm] else []) := by
  rw [List.take_succ_eq_append_getElem h, List.map_append, List.filter_append]
  congr 1
  simp only [List.map_cons, List.map_nil, List.filter_cons, List.filter_nil]

theorem elder_idx (t : Int) (s : ByteArray) : elder t s = decide (0 ≤ idxN s ∧ idxN s < t) := by
  unfold elder
  cases h : snIdx s with
  | none => rw [idxN_none h]; rfl
  | some n =>
    rw [idxN_some h]
    simp only
    congr 1
    exact propext ⟨fun h => ⟨by omega, h⟩, fun h => h.2⟩

def clean2 (d : Dk) (l : List ByteArray) : Int × Dk := thenDrop (removeEach d l)

theorem clean2_nil (d : Dk) : clean2 d [] = dropNew d := by
  unfold clean2
  show thenDrop (0, d) = _
  unfold thenDrop
  rw [if_neg (by simp)]

theorem clean2_cons (d : Dk) (s : ByteArray) (l : List ByteArray) : clean2 d (s :: l) = if (D.remove d [s]).1 ≠ 0 then D.remove d [s] else clean2 (D.remove d [s]).2 l := by
  unfold clean2
  show thenDrop (if (D.remove d [s]).1 ≠ 0 then D.remove d [s] else removeEach (D.remove d [s]).2 l) = _
  by_cases h0 : (D.remove d [s]).1 ≠ 0
  · rw [if_pos h0, if_pos h0]
    unfold thenDrop
    rw [if_pos h0]
  · rw [if_neg h0, if_neg h0]

set_option maxRecDepth 20000 in
set_option maxHeartbeats 6400000 in
theorem RefClean6_any (d : Dk) (Y : Nat → Prop) (gr : Nat) (top : Sn) (tc tb : Value) (w wr0 : World) (hq : QS w Y gr d wr0) (htc : ∃ a n c, tc = .slice a n c) (htb : ∃ a n c, tb = .slice a n c) (hnm : ∀ f ∈ d.fs, f.nm.size ≤ 9223372036854775807) :
    Calls Tryz.prog 33 #[.pointer (some ⟨gr, 0, none⟩), snAgg top tc tb, .bool (decide (top.idx ≠ 0))] wr0 (QPost w Y gr wr0 (cleanS d top.idx)) := by
  obtain ⟨tca, tcn, tcc, rfl⟩ := htc
  obtain ⟨tba, tbn, tbc, rfl⟩ := htb
  have HQ := Lib.hid hq
  have hfine := hq.well.1.1
  obtain ⟨⟨vl, fv, hat⟩, hXz⟩ := hq.dsk
  obtain ⟨-, ⟨-, c1, -, -⟩, -, hz, -, -⟩ := hat.cells
  obtain ⟨va, vc, rfl⟩ := owned_slice hat.row
  obtain ⟨W, hW⟩ : ∃ W, W = wr0.alloc (.cells #[.int .i64 top.idx, .int .i64 top.term, .slice tca tcn tcc, .slice tba tbn tbc] 53) := ⟨_, rfl⟩
  have HB : Hid (Below wr0.heap.size wr0 W) := Lib.hid (by rw [hW]; exact below_alloc _ _)
  have HX : Hid (W.heap[wr0.heap.size]? = some (.cells #[.int .i64 top.idx, .int .i64 top.term, .slice tca tcn tcc, .slice tba tbn tbc] 53)) := Lib.hid (by rw [hW]; exact heap_new _ _ _ rfl)
  have hfl : (fv.length : Int) ≤ 9223372036854775807 := by have := hat.len.1; omega
  have HLN := Lib.hid hat.len.2
  have HAT := Lib.hid hat
  have HW := Lib.hid hW
  have HNM := Lib.hid hnm
  have HF4 : Hid (fv.length ≤ 4096) := Lib.hid (by have := hfine.1; have := hat.len.2; omega)
  have E1 : Hid (∀ wr : World, Below W.heap.size W wr → wr.cell? ⟨gr, 1, none⟩ = some (.slice va fv.length vc) ∧ gr < wr.heap.size) := Lib.hid fun wr hb => ⟨(World.cell?_of_block (a := ⟨gr, 1, none⟩) ((hb.block gr (Nat.lt_of_lt_of_le hz HB.out.size)).trans (HB.out.block gr hz))).trans c1, Nat.lt_of_lt_of_le hz (Nat.le_trans HB.out.size hb.size)⟩
  obtain ⟨hs, hhs⟩ : ∃ b, b = decide (top.idx ≠ 0) := ⟨_, rfl⟩
  have HHS := Lib.hid hhs
  rw [← hhs]
  unfold snAgg
  obtain ⟨iv, hiv, hiv0, hiv1, hiv2⟩ := info_parts infoStr1
  clear hat hW hnm hXz c1 hz hq hfine hhs
  go_enter Tryz.func33, Tryz.ntmps33
  go_wp2_with fail
  rw [← HW.out]
  go_loopw [7, 8, 9] (fun nv i _ wr => ∃ (k : Nat) (ls : List ByteArray), i = .int .i64 (k : Int) ∧ k ≤ fv.length ∧ ls.length ≤ k ∧ Hid (ls = ((d.fs.take k).map (·.nm)).filter (elder top.idx)) ∧ Below W.heap.size W wr ∧ wr.ownsRow W.heap.size 9 1 nv ls.length (ls.map Value.string)) (fun _ i _ _ => fv.length - (intOf i).toNat)
  case atStart => exact ⟨0, [], rfl, Nat.zero_le _, Nat.le_refl _, Lib.hid rfl, Below.refl _ _, World.ownsRow_nil _ _ _ _⟩
  case round =>
    obtain ⟨k, ls, rfl, hk, hlk, HLS, hbw, hown⟩ := hrel
    obtain ⟨q1, qz⟩ := E1.out wr hbw
    have HBW := Lib.hid hbw
    have HOWN := Lib.hid hown
    obtain ⟨la, lc, rfl⟩ := owned_slice hown
    obtain ⟨x0, x1, x2, x3, -, -, -, -, xz⟩ := sh_four (old_below HX.out hbw)
    clear hbw hown
    by_cases hlt : k < fv.length
    · have hkk : (k : Int) < (fv.length : Int) := by omega
      obtain ⟨ga, gc, hv, -, -, hgz, -, -, e0, -, -, -⟩ := HAT.out.file k hlt
      cases hv
      have hkd : k < d.fs.length := by have := HLN.out; omega
      have hgt := HAT.out.get k hlt hkd
      have HNX := Lib.hid (names_next (t := top.idx) hkd)
      have hnz := HNM.out d.fs[k] (List.getElem_mem hkd)
      rw [hgt] at e0
      obtain ⟨nm, hnm⟩ : ∃ nm, nm = d.fs[k].nm := ⟨_, rfl⟩
      rw [← hnm] at e0 hnz HNX
      have e0' := (World.cell?_of_block (a := ⟨ga, k * 3, none⟩) ((HBW.out.block ga (Nat.lt_of_lt_of_le hgz HB.out.size)).trans (HB.out.block ga hgz))).trans e0
      have hgw : ga < wr.heap.size := Nat.lt_of_lt_of_le hgz (Nat.le_trans HB.out.size HBW.out.size)
      have HNZ := Lib.hid hnz
      have HK4 : Hid (k < 4096) := Lib.hid (by have := HF4.out; omega)
      have HED := Lib.hid (elder_idx top.idx nm)
      clear e0 hnm hgt hnz hgz
      go_wp2_with fail
      refine (RefIdx6_any nm wr HNZ.out).mono ?_
      rintro e w0 ⟨rfl, rfl⟩
      obtain ⟨I, hI⟩ : ∃ I, I = idxN nm := ⟨_, rfl⟩
      rw [← hI] at HED ⊢
      clear hI
      have hcase : (elder top.idx nm = false ∧ (hs = false ∨ (hs = true ∧ ¬ 0 ≤ I) ∨ (hs = true ∧ 0 ≤ I ∧ decide (I < top.idx) = false))) ∨ (elder top.idx nm = true ∧ hs = true ∧ 0 ≤ I ∧ I < top.idx) := by
        rw [HED.out]
        by_cases h1 : 0 ≤ I
        · by_cases h2 : I < top.idx
          · exact .inr ⟨decide_eq_true ⟨h1, h2⟩, by rw [HHS.out]; exact decide_eq_true (by omega), h1, h2⟩
          · refine .inl ⟨decide_eq_false fun h => h2 h.2, ?_⟩
            cases hs with
            | false => exact .inl rfl
            | true => exact .inr (.inr ⟨rfl, h1, decide_eq_false h2⟩)
        · refine .inl ⟨decide_eq_false fun h => h1 h.1, ?_⟩
          cases hs with
          | false => exact .inl rfl
          | true => exact .inr (.inl ⟨rfl, h1⟩)
      rcases hcase with ⟨he, hc⟩ | ⟨he, rfl, h1, h2⟩
      · have HL2 : Hid (ls = ((d.fs.take (k + 1)).map (·.nm)).filter (elder top.idx)) := Lib.hid (by rw [HNX.out, ← HLS.out, he]; simp)
        clear he
        rcases hc with rfl | ⟨rfl, h1⟩ | ⟨rfl, h1, h2⟩
        · go_wp2_with fail
          go_roundw
          case rel => exact ⟨k + 1, ls, by go_num, by omega, by omega, HL2, HBW.out, HOWN.out⟩
          case measure => simp [intOf]; omega
        · have p1 : decide ((0 : Int) ≤ I) = false := decide_eq_false h1
          clear h1
          go_wp2_with fail
          go_roundw
          case rel => exact ⟨k + 1, ls, by go_num, by omega, by omega, HL2, HBW.out, HOWN.out⟩
          case measure => simp [intOf]; omega
        · go_wp2_with fail
          go_roundw
          case rel => exact ⟨k + 1, ls, by go_num, by omega, by omega, HL2, HBW.out, HOWN.out⟩
          case measure => simp [intOf]; omega
      · have HL2 : Hid (ls ++ [nm] = ((d.fs.take (k + 1)).map (·.nm)).filter (elder top.idx)) := Lib.hid (by rw [HNX.out, ← HLS.out, he]; simp)
        clear he
        go_wp2_with (at_builtin; refine wpList_append_any _ rfl (.tmp 42) (.tmp 51) 43 rfl W.heap.size 9 iv (.string ByteArray.empty) 1 16 Tryz.underlying43 hiv hiv0 hiv1 hiv2 rfl (by decide) _ ls.length (ls.map Value.string) rfl (HOWN.out.alloc _) _ rfl 1 [.string nm] ?c1 (by unfold maxLen; have := HK4.out; omega) (by have := HK4.out; omega) (by have := HBW.out.size; simp; omega) ?_)
        case c1 => exact ⟨rfl, fun u hu => by simp at hu; subst hu; rfl, .inr ⟨_, _, rfl, cell_one_new _ _ _⟩⟩
        intro lv wd happ
        have HB' := Lib.hid ((HBW.out.alloc HBW.out.size _).grown happ.2.1 (by have := HBW.out.size; simp; omega) fun j hj => (HOWN.out.lt j hj).1)
        have HO' : Hid (wd.ownsRow W.heap.size 9 1 lv (ls ++ [nm]).length ((ls ++ [nm]).map Value.string)) := Lib.hid (by simpa using happ.1)
        clear happ x0 x1 x2 x3 xz q1 qz e0' hgw
        go_wp2_with fail
        go_roundw
        case rel => exact ⟨k + 1, ls ++ [nm], by go_num, by omega, by simp; omega, HL2, HB'.out, HO'.out⟩
        case measure => simp [intOf]; omega
    · have hkk : ¬ (k : Int) < (fv.length : Int) := by omega
      have HL2 : Hid (ls = (d.fs.map (·.nm)).filter (elder top.idx)) := Lib.hid (by rw [HLS.out, List.take_of_length_le (by have := HLN.out; omega)])
      have HK4 : Hid (ls.length ≤ 4096) := Lib.hid (by have := HF4.out; omega)
      obtain ⟨R, hR⟩ : ∃ R, R = cleanS d top.idx := ⟨_, rfl⟩
      have HEQ := Lib.hid hR
      have HR0 : Hid (R = clean2 d ls) := Lib.hid (by rw [hR, HL2.out]; rfl)
      have HOW : Hid (Only Y wr0 wr) := Lib.hid (Only.of_below (HB.out.trans (HBW.out.mono HB.out.size)))
      have HQW := Lib.hid (HQ.out.next (HB.out.trans (HBW.out.mono HB.out.size)))
      have HRS : Hid (RepSl wr (fun q => q < wr.heap.size ∧ ¬ Y q) ls (.slice la ls.length lc)) := Lib.hid (RepSl.of_row HOWN.out rfl fun q h1 h2 => ⟨h2, fun hy => by have := HQ.out.lt q hy; have := HB.out.size; omega⟩)
      have HFIN : Hid (∀ (e : Ending) (w' : World), QPost w Y gr wr0 R e w' → QPost w Y gr wr0 (cleanS d top.idx) e w') := Lib.hid fun e w' h => by rw [← hR]; exact h
      obtain ⟨n, hn⟩ : ∃ n, n = ls.length := ⟨_, rfl⟩
      rw [← hn] at HRS HK4 ⊢
      have HNN := Lib.hid hn
      have hn4 := HK4.out
      clear x0 x1 x2 x3 xz hR hlk hn hk
      go_wp2_with fail
      clear q1 qz hkk hlt
      go_loopw [10, 11] (fun i _ wr' => ∃ (j : Nat) (dk : Dk) (Yk : Nat → Prop), i = .int .i64 (j : Int) ∧ j ≤ n ∧ Hid (R = clean2 dk (ls.drop j)) ∧ Hid (∀ q, Yk q → Y q ∨ wr0.heap.size ≤ q) ∧ Hid (QS w Yk gr dk wr') ∧ Hid (Only Y wr0 wr') ∧ Hid (RepSl wr' (fun q => q < wr'.heap.size ∧ ¬ Yk q) ls (.slice la n lc))) (fun i _ _ => n - (intOf i).toNat)
      case atStart => exact ⟨0, d, Y, rfl, Nat.zero_le _, HR0, Lib.hid fun q hq => .inl hq, HQW, HOW, HRS⟩
      case round =>
        obtain ⟨j, dk, Yk, rfl, hj, HRK, HYK, HQK, HOK, HRSK⟩ := hrel
        by_cases hlt : j < n
        · have hkk : (j : Int) < (n : Int) := by omega
          have hlt2 : j < ls.length := by rw [← HNN.out]; exact hlt
          rcases HRSK.out with ⟨h, -⟩ | ⟨gb, off, c', he, hF, hlc, hcm, hcell⟩
          · rw [h] at hlt2; simp at hlt2
          simp only [Value.slice.injEq] at he
          obtain ⟨rfl, -, rfl⟩ := he
          have HDK : Hid (R = if (D.remove dk [ls[j]]).1 ≠ 0 then D.remove dk [ls[j]] else clean2 (D.remove dk [ls[j]]).2 (ls.drop (j + 1))) := Lib.hid (by
            have hd : ls.drop j = ls[j] :: ls.drop (j + 1) := List.drop_eq_getElem_cons hlt2
            have h := HRK.out
            rw [hd, clean2_cons] at h
            exact h)
          have HSL : Hid (RepSl wr (fun q => q = gb) [ls[j]] (.slice (some ⟨gb, off + j, none⟩) 1 (lc - j))) := Lib.hid (.inr ⟨gb, off + j, lc - j, rfl, rfl, by simp; omega, by omega, fun i hi => by
            obtain rfl : i = 0 := by simpa using hi
            rw [Nat.add_zero]
            exact hcell j hlt2⟩)
          have HGB : Hid (gb < wr.heap.size ∧ ¬ Yk gb) := Lib.hid hF
          have h1 : (j : Int) + 1 ≤ (lc : Int) := by omega
          have h2 : ¬ lc = j := by omega
          have h3 : ((j : Int) + 1).toNat = j + 1 := by omega
          have h4 : j + 1 - j = 1 := by omega
          have h5 : j ≤ j + 1 := by omega
          have h6 : (0 : Int) ≤ (j : Int) + 1 := by omega
          obtain ⟨nm, hnm⟩ : ∃ nm, nm = ls[j] := ⟨_, rfl⟩
          rw [← hnm] at HDK HSL
          clear hnm hlt2 hcell hF hlc hcm HRK
          go_wp2_with fail
          refine (QRemove HQK.out [nm] _ _ HSL.out (fun q hq => by rw [hq]; exact HGB.out)).mono ?_
          rintro e w3 ⟨rfl, ho3, X3, hx3, h3'⟩
          obtain ⟨r, hr⟩ : ∃ r, r = D.remove dk [nm] := ⟨_, rfl⟩
          rw [← hr] at h3' HDK ⊢
          have HQ3 := Lib.hid h3'
          have HX3 : Hid (∀ q, X3 q → Y q ∨ wr0.heap.size ≤ q) := Lib.hid fun q hq => by
            rcases hx3 q hq with h | h
            · exact HYK.out q h
            · have := HOK.out.size; exact .inr (by omega)
          have HO3 : Hid (Only Y wr0 w3) := Lib.hid (HOK.out.thn HYK.out ho3)
          have HRS3 : Hid (RepSl w3 (fun q => q < w3.heap.size ∧ ¬ X3 q) ls (.slice (some ⟨gb, off, none⟩) n lc)) := Lib.hid (HRSK.out.same (fun q hq => ⟨Nat.lt_of_lt_of_le hq.1 ho3.size, fun hx => by
            rcases hx3 q hx with h | h
            · exact hq.2 h
            · omega⟩) fun q hq => ho3.block q hq.1 hq.2)
          clear ho3 hx3 h3' hr h1 h2 h3 h4 h5 h6
          obtain ⟨r1, d3⟩ := r
          simp only at HDK ⊢
          by_cases hr0 : r1 = 0
          · subst hr0
            have HR3 : Hid (R = clean2 d3 (ls.drop (j + 1))) := Lib.hid (by have h := HDK.out; rw [if_neg (by simp)] at h; exact h)
            go_wp2_with fail
            go_roundw
            case rel => exact ⟨j + 1, d3, X3, by go_num, by omega, HR3, HX3, HQ3, HO3, HRS3⟩
            case measure => simp [intOf]; omega
          · have q2 : (r1 != 0) = true := by simpa using hr0
            have HR3 : Hid (R = (r1, d3)) := Lib.hid (by have h := HDK.out; rw [if_pos hr0] at h; exact h)
            clear hr0
            go_wp2_with fail
            go_ret
            refine HFIN.out _ _ ?_
            rw [HR3.out]
            exact ⟨rfl, HO3.out, X3, HX3.out, HQ3.out⟩
        · have hkk : ¬ (j : Int) < (n : Int) := by omega
          have HR3 : Hid (R = dropNew dk) := Lib.hid (by
            have h := HRK.out
            rw [List.drop_of_length_le (by have := HNN.out; omega), clean2_nil] at h
            exact h)
          go_wp2_with fail
          refine (RefThere6_any dk Yk gr nmNew wr HQK.out.dsk.1).mono ?_
          rintro e w2 ⟨rfl, rfl⟩
          cases hth : D.isThere dk.fs nmNew with
          | false =>
            have HE : Hid (R = (0, dk)) := Lib.hid (by rw [HR3.out]; unfold dropNew; rw [hth]; rfl)
            clear hth
            go_wp2_with fail
            go_ret
            refine HFIN.out _ _ ?_
            rw [HE.out]
            exact ⟨rfl, HOK.out, Yk, HYK.out, HQK.out⟩
          | true =>
            have HE : Hid (R = D.remove dk [nmNew]) := Lib.hid (by rw [HR3.out]; unfold dropNew; rw [hth]; rfl)
            clear hth
            go_wp2_with fail
            obtain ⟨t1, t2, t3⟩ := HQK.out.names [nmNew] 1 rfl (by simp) 9 rfl
            refine (QRemove t1 [nmNew] _ _ t2 t3).mono ?_
            intro e w3 hp3
            rw [← HE.out] at hp3
            have HP3 := Lib.hid (QPost.after (HOK.out.next (below_alloc _ _)) (fun k hk => by
              rcases HYK.out k hk with h | h
              · exact .inl h
              · exact .inr h) hp3)
            have he := HP3.out.1
            subst he
            clear hp3 t1 t2 t3
            go_wp2_with fail
            go_ret
            exact HFIN.out _ _ HP3.out
end Go.Proofs.YtbcpcopapbgcdaaGreatDoor.M
