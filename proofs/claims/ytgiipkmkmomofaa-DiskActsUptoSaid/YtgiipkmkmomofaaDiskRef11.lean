/- The document's disk: Append, walked. -/
import Derived.Test.YtgiipkmkmomofaaDiskRef10
import Derived.Test.YtgiipkmkmomofaaOwn
namespace Go.Proofs.Ytgiipkmkmomofaa.M
open Go.RowKit
open D (Fl Dk)

set_option maxRecDepth 20000 in
set_option maxHeartbeats 3200000 in
theorem RefAppend_any (d : Dk) (X : Nat → Prop) (gd : Nat) (s : ByteArray) (bs : List (List UInt8)) (F : Nat → Prop) (vb : Value) (w : World) (hd : DskIn w X gd d) (hf : Hid (Fine d)) (hsz : s.size ≤ 9223372036854775807) (hv : RepBl w F bs vb) (hF : ∀ k, F k → k < w.heap.size ∧ ¬ X k)
    (hu : Hid (D.used d.fs + bs.flatten.length ≤ 1099511627776)) :
    Calls Try.prog 29 #[.pointer (some ⟨gd, 0, none⟩), .string s, vb] w (CallPost w X gd (D.append d s bs)) := by
  obtain ⟨na, nc, rfl, hnl⟩ := hv.slice
  have HX := Lib.hid hd.2
  have HD := Lib.hid hd.1
  have HV := Lib.hid hv
  have HF := Lib.hid hF
  clear hd hv hF
  cases hst : d.stopped with
  | true =>
    have HR : Hid (D.append d s bs = (32, d)) := Lib.hid (append_32 hst)
    have HT := Lib.hid (stopped_tick hst)
    have HST := Lib.hid hst
    clear hst
    go_enter Try.func29, Try.ntmps29
    go_wp2_with fail
    refine (RefStopped_any d X gd _ HD.out (Lib.hid hf.out.2.1)).mono ?_
    rintro e w1 ⟨rfl, ho, hd1, hs1⟩
    rw [HST.out]
    rw [HT.out] at hd1
    have HO := Lib.hid ho
    have HD1 := Lib.hid hd1
    clear ho hd1 hs1
    go_wp2_with fail
    go_ret
    exact ⟨by rw [HR.out]; rfl, HO.out, by rw [HR.out]; exact HD1.out.up⟩
  | false =>
    have HST := Lib.hid hst
    clear hst
    go_enter Try.func29, Try.ntmps29
    go_wp2_with fail
    refine (RefStopped_any d X gd _ HD.out (Lib.hid hf.out.2.1)).mono ?_
    rintro e w1 ⟨rfl, ho, hd1, hs1⟩
    rw [HST.out]
    have HO := Lib.hid ho
    have HD1 := Lib.hid hd1
    have HS1 := Lib.hid hs1
    have hv1 : RepBl w1 (fun k => F k) bs (.slice na bs.length nc) := HV.out.same (fun _ h => h) fun k hk => ho.block k (HF.out k hk).1 (HF.out k hk).2
    have HV1 := Lib.hid hv1
    clear ho hd1 hs1 hv1
    go_wp2_with fail
    go_loop [7, 8] (fun n i => ∃ k : Nat, k ≤ bs.length ∧ i = .int .i64 (k : Int) ∧ n = .int .i64 ((bs.take k).flatten.length : Int)) (fun _ i => bs.length - (intOf i).toNat)
    case atStart => exact ⟨0, Nat.zero_le _, rfl, rfl⟩
    case round =>
      obtain ⟨k, hk, rfl, rfl⟩ := hrel
      have hle : (bs.take k).flatten.length ≤ bs.flatten.length := by
        conv => rhs; rw [← List.take_append_drop k bs, List.flatten_append, List.length_append]
        omega
      by_cases hlt : k < bs.length
      · have hkk : (k : Int) < (bs.length : Int) := by omega
        obtain ⟨b, off, u, rfl, hFb, hc, hu1⟩ := HV1.out.elem k hlt
        obtain ⟨ua, uc, rfl, hul⟩ := hu1.slice
        have hbz : b < w1.heap.size := by rw [HS1.out]; exact (HF.out b hFb).1
        have hsn := flat_snoc bs k hlt
        have hle2 : (bs.take (k + 1)).flatten.length ≤ bs.flatten.length := by
          conv => rhs; rw [← List.take_append_drop (k + 1) bs, List.flatten_append, List.length_append]
          omega
        have hue := hu.out
        obtain ⟨m, hm⟩ : ∃ m, m = (bs.take k).flatten.length := ⟨_, rfl⟩
        obtain ⟨x, hx⟩ : ∃ x, x = bs[k].length := ⟨_, rfl⟩
        have hmx : (bs.take (k + 1)).flatten.length = m + x := by rw [hsn, List.length_append, ← hm, ← hx]
        rw [← hx] at hc hul
        rw [← hm]
        have hmb : (m : Int) + (x : Int) ≤ 1099511627776 := by omega
        have HMX := Lib.hid hmx
        clear hsn hle hle2 hm hx hmx hu1
        go_wp2_with fail
        go_round
        case rel => exact ⟨k + 1, by omega, by go_num, by rw [HMX.out]; go_num⟩
        case measure => simp [intOf]; omega
      · have hkk : ¬ (k : Int) < (bs.length : Int) := by omega
        obtain rfl : k = bs.length := by omega
        rw [List.take_length]
        obtain ⟨n, hn⟩ : ∃ n, n = bs.flatten.length := ⟨_, rfl⟩
        rw [← hn]
        have HN := Lib.hid hn
        clear hle hlt hk hn
        go_wp2_with fail
        refine (RefFind_any d.tick X gd s _ HD1.out).mono ?_
        rintro e w' ⟨rfl, rfl⟩
        rw [tick_fs]
        go_wp2_with fail
        refine (RefName_any s _ hsz).mono ?_
        rintro e w' ⟨rfl, rfl⟩
        cases hnb : D.okName s with
        | false =>
          have HE : Hid (D.append d s bs = (30, d.tick)) := Lib.hid (append_30 HST.out hnb)
          clear hnb
          go_wp2_with fail
          go_ret
          exact ⟨by rw [HE.out]; rfl, HO.out, by rw [HE.out]; exact HD1.out.up⟩
        | true =>
          have HNB := Lib.hid hnb
          clear hnb
          go_wp2_with fail
          refine (RefFree_any d.tick X gd _ HD1.out (Lib.hid (by rw [tick_free, tick_room]; exact hf.out.2.2))).mono ?_
          rintro e w' ⟨rfl, rfl⟩
          rw [tick_free]
          obtain ⟨fr, hfr⟩ : ∃ fr, fr = d.free := ⟨_, rfl⟩
          rw [← hfr]
          obtain ⟨vl, fv, hat⟩ := HD1.out
          have hlen := hat.len.2
          rw [tick_fs] at hlen
          obtain ⟨cc, ⟨-, c1, -, -⟩, -, hz, -, -⟩ := hat.cells
          obtain ⟨la, lc, rfl⟩ := owned_slice hat.row
          have HAT := Lib.hid hat
          have HFR := Lib.hid hfr
          have HLEN := Lib.hid hlen
          clear hfr hat hlen
          by_cases hbig : fr < (n : Int)
          · have HE : Hid (D.append d s bs = (31, d.tick)) := Lib.hid (append_31 HST.out HNB.out (.inl (by rw [← HFR.out, ← HN.out]; omega)))
            go_wp2_with fail
            go_ret
            exact ⟨by rw [HE.out]; rfl, HO.out, by rw [HE.out]; exact HD1.out.up⟩
          · have t1 : decide (fr < (n : Int)) = false := by simp; omega
            cases hta : D.isThere d.fs s with
            | false =>
              rw [findR_neg hta]
              by_cases hmany : 4096 ≤ fv.length
              · have t2 : (4096 : Int) ≤ (fv.length : Int) := by omega
                have HE : Hid (D.append d s bs = (31, d.tick)) := Lib.hid (append_31 HST.out HNB.out (.inr ⟨hta, by rw [HLEN.out]; exact hmany⟩))
                clear hta
                go_wp2_with fail
                go_ret
                exact ⟨by rw [HE.out]; rfl, HO.out, by rw [HE.out]; exact HD1.out.up⟩
              · have t2 : decide ((4096 : Int) ≤ (fv.length : Int)) = false := by simp; omega
                have HTA := Lib.hid hta
                clear hta
                have HX1 : Hid (∀ k, X k → k < w1.heap.size) := Lib.hid fun k hk => by rw [HS1.out]; exact HX.out k hk
                have hd' := HLEN.out
                go_wp2_with fail
                refine (RefAdd_any d.tick X gd _ fv ⟨s, [], 0⟩ none 0 _ HAT.out HX1.out (Lib.hid (by omega)) ⟨rfl, .inl ⟨rfl, rfl⟩⟩ (fun k hk => by simp [Value.ownBlock] at hk)).mono ?_
                rintro e w6 ⟨rfl, ho2, hd2⟩
                obtain ⟨E2, hE2⟩ : ∃ E2 : Dk, E2 = { d.tick with fs := D.add d.tick.fs ⟨s, [], 0⟩ } := ⟨_, rfl⟩
                rw [← hE2] at hd2
                have hfs2 : E2.fs = D.add d.fs ⟨s, [], 0⟩ := by rw [hE2]; simp only [tick_fs]
                have HGD : Hid (X gd) := Lib.hid HAT.out.own
                have HO2 := Lib.hid ho2
                have HD2 := Lib.hid hd2
                have HE2 := Lib.hid hE2
                have HFS2 := Lib.hid hfs2
                clear ho2 hd2 hE2 hfs2 hd' c1
                go_wp2_with fail
                refine (RefFind_any E2 (More X w1 w6) gd s _ HD2.out).mono ?_
                rintro e w' ⟨rfl, rfl⟩
                have hth : D.isThere E2.fs s = true := by rw [HFS2.out]; exact D.isThere_add d.fs ⟨s, [], 0⟩
                obtain ⟨q1, q2⟩ := findR_pos hth
                rw [q1]
                obtain ⟨i, hi⟩ : ∃ i, i = D.find E2.fs s := ⟨_, rfl⟩
                rw [← hi] at q2 ⊢
                have HI := Lib.hid hi
                clear hth q1 hi
                obtain ⟨vl2, fvs, hat2⟩ := HD2.out
                have hlen2 := hat2.len.2
                have hil : i < fvs.length := by omega
                obtain ⟨ga, lcs, rfl, -, -, -, -, -, -, -, -, -⟩ := hat2.file i hil
                have HFS : Hid (∀ k, F k → k < w6.heap.size ∧ ¬ More X w1 w6 k) := Lib.hid fun k hk => by
                  have h1 := HF.out k hk
                  have h2 := HO2.out.size
                  have h3 := HS1.out
                  refine ⟨by omega, fun h => ?_⟩
                  rcases h with h | h
                  · exact h1.2 h
                  · omega
                have HX2 : Hid (∀ k, More X w1 w6 k → k < w6.heap.size) := Lib.hid fun k hk => by
                  rcases hk with hk | hk
                  · exact Nat.lt_of_lt_of_le (HX1.out k hk) HO2.out.size
                  · exact hk.2
                have HBS : Hid (RepBl w6 (fun k => F k) bs (.slice na bs.length nc)) := Lib.hid (HV1.out.same (fun _ h => h) fun k hk => HO2.out.block k (by rw [HS1.out]; exact (HF.out k hk).1) fun e => (HF.out k hk).2 (e ▸ HGD.out))
                obtain ⟨f0, hf0⟩ : ∃ f0, f0 = E2.fs[i]'q2 := ⟨_, rfl⟩
                have HF0 : Hid (E2.fs[i]? = some f0) := Lib.hid (by rw [List.getElem?_eq_getElem q2, hf0])
                have HBND : Hid (f0.b.length + bs.flatten.length ≤ 1099511627776) := Lib.hid (by
                  have h1 := hu.out
                  have h2 : f0.b.length ≤ D.used E2.fs := by
                    have a := D.used_take E2.fs i q2
                    have b := D.used_le E2.fs (i + 1)
                    rw [hf0]; omega
                  have h3 : D.used E2.fs = D.used d.fs := by rw [HFS2.out, D.used_add]; rfl
                  omega)
                have HFSL : Hid (E2.fs.length = fvs.length) := Lib.hid hlen2
                have HATS : Hid (DkAt w6 (More X w1 w6) gd E2 (.slice (some ⟨ga, 0, none⟩) fvs.length lcs) fvs) := Lib.hid hat2
                have HQ2 := Lib.hid q2
                clear hf0 q2 hat2 hlen2
                have HL0 : Hid (LayS w6 (More X w1 w6) gd ga lcs fvs.length i E2 E2.fs f0 bs 0 w6) := Lib.hid ⟨Nat.zero_le _, Only.refl _ _, fvs, rfl, by
                  have h1 : (E2.fs).set i { f0 with b := f0.b ++ (bs.take 0).flatten } = E2.fs := by
                    simp only [List.take_zero, List.flatten_nil, List.append_nil]
                    apply List.ext_getElem?
                    intro j
                    rw [List.getElem?_set]
                    by_cases e : i = j
                    · subst e
                      rw [if_pos rfl, HF0.out]
                      have := HFSL.out
                      rw [if_pos (by omega)]
                    · rw [if_neg e]
                  rw [h1, show ({ E2 with fs := E2.fs } : Dk) = E2 from rfl]
                  exact HATS.out.same (Y := More (More X w1 w6) w6 w6) (fun _ h => Or.inl h) fun _ _ => rfl⟩
                go_wp2_with fail
                go_loopw [10] (fun z wr => ∃ k : Nat, z = .int .i64 (k : Int) ∧ LayS w6 (More X w1 w6) gd ga lcs fvs.length i E2 E2.fs f0 bs k wr) (fun z _ => bs.length - (intOf z).toNat)
                case atStart => exact ⟨0, rfl, HL0.out⟩
                case round =>
                  obtain ⟨k, rfl, hat⟩ := hrel
                  obtain ⟨hkb, ho3, fw, hfw, hat3⟩ := hat
                  have HO3 := Lib.hid ho3
                  have HAT3 := Lib.hid hat3
                  have HFW := Lib.hid hfw
                  by_cases hlt : k < bs.length
                  · have hkk : (k : Int) < (bs.length : Int) := by omega
                    have hvr : RepBl wr (fun k => F k) bs (.slice na bs.length nc) := HBS.out.same (fun _ h => h) fun j hj => ho3.block j (HFS.out j hj).1 (HFS.out j hj).2
                    obtain ⟨b, off, u, rfl, hFb, hc, hu1⟩ := hvr.elem k hlt
                    obtain ⟨ua, uc, rfl, hul⟩ := hu1.slice
                    have hbz : b < wr.heap.size := Nat.lt_of_lt_of_le (HFS.out b hFb).1 ho3.size
                    have hiw : i < fw.length := by omega
                    obtain ⟨cc3, ⟨-, k1, -, -⟩, -, kz, -, -⟩ := hat3.cells
                    obtain ⟨ga', c', hv', hXga, -, hgz', hnc', hcm', -, e3, -, hfz'⟩ := hat3.file i hiw
                    have hga : ga' = ga := by simp only [Value.slice.injEq, Option.some.injEq, Addr.mk.injEq] at hv'; exact hv'.1.1.symm
                    subst hga
                    have hfz3 : ∀ j, wr.frozen? ⟨ga', j, none⟩ = false := hfz'
                    clear hfz'
                    obtain ⟨va, vc, hvi, hvl⟩ := hat3.bytes i hiw
                    have hfi : fw[i].1 = { f0 with b := f0.b ++ (bs.take k).flatten } := by
                      have := hat3.get i hiw (by have := HFSL.out; simp; omega)
                      rw [this]; simp
                    obtain ⟨len, hle⟩ : ∃ len, len = fw[i].1.b.length := ⟨_, rfl⟩
                    have hlen2 : len ≤ 1099511627776 ∧ len + bs[k].length ≤ 1099511627776 := by
                      have h0 := HBND.out
                      have h2 : (bs.take (k + 1)).flatten.length ≤ bs.flatten.length := by
                        conv => rhs; rw [← List.take_append_drop (k + 1) bs, List.flatten_append, List.length_append]
                        omega
                      rw [flat_snoc bs k hlt, List.length_append] at h2
                      rw [hle, hfi]
                      simp only [List.length_append]
                      omega
                    obtain ⟨x, hx⟩ : ∃ x, x = bs[k].length := ⟨_, rfl⟩
                    rw [hvi, ← hle] at e3
                    rw [← hx] at hc hul hlen2
                    have HROW : Hid (wr.ownsRow 0 5 1 (.slice va len vc) len (fw[i].1.b.map byteV)) := Lib.hid (by
                      have := hat3.each fw[i] (List.getElem_mem hiw)
                      rw [hvi, ← hle] at this
                      exact this)
                    have HYI : Hid (Yields wr (.slice ua x uc) x 1 (bs[k].map byteV)) := Lib.hid (by
                      have := hu1.yields
                      rw [← hx] at this
                      exact this)
                    have HVI : Hid (fw[i].2 = .slice va len vc) := Lib.hid (by rw [hvi, hle])
                    have HLE := Lib.hid hle
                    have HXL := Lib.hid hx
                    have HNE : Hid (∀ j, (Value.slice va len vc).ownBlock = some j → j ≠ ga' ∧ j ≠ gd) := Lib.hid fun j hj => by
                      have hap := hat3.apart
                      rw [blocksOf, List.cons_append, List.nodup_cons] at hap
                      have hjm : j ∈ fw.flatMap fun p : Fl × Value => p.2.ownBlock.toList := List.mem_flatMap.2 ⟨fw[i], List.getElem_mem hiw, by rw [hvi]; rw [ownBlock_len (m := fw[i].1.b.length) (c' := vc)] at hj; simp [hj]⟩
                      refine ⟨fun e => ?_, fun e => hap.1 (List.mem_append.2 (.inr (e ▸ hjm)))⟩
                      exact (List.nodup_append.1 hap.2).2.2 ga' (by simp [Value.ownBlock]) j hjm e.symm
                    have HGG : Hid (gd ≠ ga') := Lib.hid fun e => by
                      have hap := hat3.apart
                      rw [blocksOf, List.cons_append, List.nodup_cons] at hap
                      exact hap.1 (List.mem_append.2 (.inl (by simp [Value.ownBlock, e])))
                    have HBN : Hid (¬ (b = ga' ∨ (Value.slice va len vc).ownBlock = some b)) := Lib.hid fun h => by
                      have hb1 := HFS.out b hFb
                      have hm : More (More X w1 w6) w6 wr b := by
                        rcases h with h | h
                        · exact h ▸ hXga
                        · exact hat3.foot b (mem_blocks_file (List.getElem_mem hiw) (by rw [HVI.out]; exact h))
                      rcases hm with hm | hm
                      · exact hb1.2 hm
                      · omega
                    have hl2 : len + x ≤ 1099511627776 := hlen2.2
                    have HLAST : Hid (∀ v w2, AppLeft wr 0 5 1 (.slice va len vc) len x (fw[i].1.b.map byteV) (bs[k].map byteV) v w2 → LayS w6 (More X w1 w6) gd ga' lcs fvs.length i E2 E2.fs f0 bs (k + 1) (w2.setCell ⟨ga', i * 3 + 1, none⟩ v)) := Lib.hid fun v w2 ha =>
                      LayS.step (m := x) (fv := fw) hlt ho3 hfw hat3 HX2.out (by have := HFSL.out; omega) hiw hx (by rw [HVI.out, ← hle]; exact ha) hXga
                    obtain ⟨ib, hib, hib0, hib1, hib2⟩ := info_parts infoByte
                    have hil3 : (i : Int) < (fvs.length : Int) := by omega
                    clear hat3 ho3 hfw hvr hu1 hvi hfi hle hx hlen2 hvl hv' hnc' hkb
                    go_wp2_with fail
                    obtain ⟨own, hown⟩ : ∃ own, own = (Value.slice va len vc).ownBlock := ⟨_, rfl⟩
                    have HOWN := Lib.hid hown
                    clear hown
                    refine wp_region_held (S := fun w' => Only (fun j => j = ga' ∨ own = some j) wr w') (by kernel_rfl) ?_
                    have hS : Only (fun j => j = ga' ∨ own = some j) wr wr.drew := ⟨rfl, rfl, rfl, Nat.le_refl _, fun _ _ _ => rfl⟩
                    have r1 : ∀ w', Only (fun j => j = ga' ∨ own = some j) wr w' → w'.cell? ⟨gd, 1, none⟩ = some (.slice (some ⟨ga', 0, none⟩) fvs.length lcs) := fun w' hw' => (World.cell?_of_block (w := wr) (w' := w') (a := ⟨gd, 1, none⟩) (hw'.block gd kz (by
                      rw [HOWN.out]
                      intro h
                      rcases h with h | h
                      · exact HGG.out h
                      · exact (HNE.out gd h).2 rfl))).trans k1
                    have r2 : ∀ w', Only (fun j => j = ga' ∨ own = some j) wr w' → w'.cell? ⟨b, off + k, none⟩ = some (.slice ua x uc) := fun w' hw' => (World.cell?_of_block (w := wr) (w' := w') (a := ⟨b, off + k, none⟩) (hw'.block b hbz (by
                      rw [HOWN.out]
                      exact HBN.out))).trans hc
                    clear k1 hc
                    refine H_take (i := 0) (v := ?_) rfl (by as_aux_lemma => kernel_rfl) (by as_aux_lemma => kernel_rfl) (by as_aux_lemma => kernel_rfl) (fun _ _ _ h => h) (by rfl) hS ?_ ?_
                    rotate_left
                    · intro w' hw'; go_simp; with_reducible rfl
                    go_simp
                    refine H_take (i := 1) (v := ?_) rfl (by as_aux_lemma => kernel_rfl) (by as_aux_lemma => kernel_rfl) (by as_aux_lemma => kernel_rfl) (fun _ _ _ h => h) (by rfl) hS ?_ ?_
                    rotate_left
                    · intro w' hw'; go_simp; with_reducible rfl
                    go_simp
                    refine H_take (i := 2) (v := ?_) rfl (by as_aux_lemma => kernel_rfl) (by as_aux_lemma => kernel_rfl) (by as_aux_lemma => kernel_rfl) (fun _ _ _ h => h) (by rfl) hS ?_ ?_
                    rotate_left
                    · intro w' hw'; go_simp; with_reducible rfl
                    go_simp
                    refine H_take (i := 3) (v := ?_) rfl (by as_aux_lemma => kernel_rfl) (by as_aux_lemma => kernel_rfl) (by as_aux_lemma => kernel_rfl) (fun _ _ _ h => h) (by rfl) hS ?_ ?_
                    rotate_left
                    · intro w' hw'; go_simp; with_reducible rfl
                    go_simp
                    refine H_take (i := 4) (v := ?_) rfl (by as_aux_lemma => kernel_rfl) (by as_aux_lemma => kernel_rfl) (by as_aux_lemma => kernel_rfl) (fun _ _ _ h => h) (by rfl) hS ?_ ?_
                    rotate_left
                    · intro w' hw'; go_simp; with_reducible rfl
                    go_simp
                    refine H_take (i := 5) (v := ?_) rfl (by as_aux_lemma => kernel_rfl) (by as_aux_lemma => kernel_rfl) (by as_aux_lemma => kernel_rfl) (fun _ _ _ h => h) (by rfl) hS ?_ ?_
                    rotate_left
                    · intro w' hw'; go_simp; with_reducible rfl
                    go_simp
                    refine H_take (i := 6) (v := ?_) rfl (by as_aux_lemma => kernel_rfl) (by as_aux_lemma => kernel_rfl) (by as_aux_lemma => kernel_rfl) (fun _ _ _ h => h) (by rfl) hS ?_ ?_
                    rotate_left
                    · intro w' hw'; go_simp; with_reducible rfl
                    go_simp
                    refine H_take (i := 7) (v := ?_) rfl (by as_aux_lemma => kernel_rfl) (by as_aux_lemma => kernel_rfl) (by as_aux_lemma => kernel_rfl) (fun _ _ _ h => h) (by rfl) hS ?_ ?_
                    rotate_left
                    · intro w' hw'; go_simp; with_reducible rfl
                    go_simp
                    refine H_take (i := 8) (v := ?_) rfl (by as_aux_lemma => kernel_rfl) (by as_aux_lemma => kernel_rfl) (by as_aux_lemma => kernel_rfl) (fun _ _ _ h => h) (by rfl) hS ?_ ?_
                    rotate_left
                    · intro w' hw'; go_simp; with_reducible rfl
                    go_simp
                    refine H_take (i := 9) (v := ?_) rfl (by as_aux_lemma => kernel_rfl) (by as_aux_lemma => kernel_rfl) (by as_aux_lemma => kernel_rfl) (fun _ _ _ h => h) (by rfl) hS ?_ ?_
                    rotate_left
                    · intro w' hw'; go_simp; with_reducible rfl
                    go_simp
                    refine H_take (i := 10) (v := ?_) rfl (by as_aux_lemma => kernel_rfl) (by as_aux_lemma => kernel_rfl) (by as_aux_lemma => kernel_rfl) (fun _ _ _ h => h) (by rfl) hS ?_ ?_
                    rotate_left
                    · intro w' hw'; go_simp; with_reducible rfl
                    go_simp
                    refine H_take (i := 11) (v := ?_) rfl (by as_aux_lemma => kernel_rfl) (by as_aux_lemma => kernel_rfl) (by as_aux_lemma => kernel_rfl) (fun _ _ _ h => h) (by rfl) hS ?_ ?_
                    rotate_left
                    · intro w' hw'; go_simp; with_reducible rfl
                    go_simp
                    refine H_take (i := 13) (v := ?_) rfl (by as_aux_lemma => kernel_rfl) (by as_aux_lemma => kernel_rfl) (by as_aux_lemma => kernel_rfl) (fun _ _ _ h => h) (by rfl) hS ?_ ?_
                    rotate_left
                    · intro w' hw'; go_simp; with_reducible rfl
                    go_simp
                    refine H_take (i := 14) (v := ?_) rfl (by as_aux_lemma => kernel_rfl) (by as_aux_lemma => kernel_rfl) (by as_aux_lemma => kernel_rfl) (fun _ _ _ h => h) (by rfl) hS ?_ ?_
                    rotate_left
                    · intro w' hw'; go_simp; with_reducible rfl
                    go_simp
                    refine H_take (i := 15) (v := ?_) rfl (by as_aux_lemma => kernel_rfl) (by as_aux_lemma => kernel_rfl) (by as_aux_lemma => kernel_rfl) (fun _ _ _ h => h) (by rfl) hS ?_ ?_
                    rotate_left
                    · intro w' hw'; go_simp; with_reducible rfl
                    go_simp
                    refine H_take (i := 16) (v := ?_) rfl (by as_aux_lemma => kernel_rfl) (by as_aux_lemma => kernel_rfl) (by as_aux_lemma => kernel_rfl) (fun _ _ _ h => h) (by rfl) hS ?_ ?_
                    rotate_left
                    · intro w' hw'; go_simp; with_reducible rfl
                    go_simp
                    refine H_one (i := 12) (by as_aux_lemma => kernel_rfl) rfl (by rfl) ?_
                    go_simp
                    refine H_one (i := 17) (by as_aux_lemma => kernel_rfl) rfl (by rfl) ?_
                    refine wp_append_any _ _ _ 41 rfl 0 5 ib (.int .u8 0) 1 1 Try.underlying41 hib hib0 hib1 hib2 rfl (by decide) _ len _ rfl HROW.out _ rfl x _ HYI.out.drew (by unfold maxLen; omega) (by omega) (Nat.zero_le _) ?_
                    intro v2 w2 happ
                    have hz2 := happ.2.1.size
                    have hS2 : Only (fun j => j = ga' ∨ own = some j) wr w2 := ⟨happ.2.1.os, happ.2.1.tape, happ.2.1.output, happ.2.1.size, fun j hj hne => happ.2.1.block j hj fun e => hne (.inr (by rw [HOWN.out]; exact e.symm))⟩
                    have hgk : ∀ j, w2.cell? ⟨ga', j, none⟩ = wr.cell? ⟨ga', j, none⟩ ∧ w2.frozen? ⟨ga', j, none⟩ = wr.frozen? ⟨ga', j, none⟩ := fun j => by
                      have hb := happ.2.1.block ga' hgz' (fun e => (HNE.out ga' e.symm).1 rfl)
                      have hb' : w2.heap[ga']? = wr.heap[ga']? := hb
                      exact ⟨World.cell?_of_block (a := ⟨ga', j, none⟩) hb', by simp [World.frozen?, hb']⟩
                    have g1 : w2.cell? ⟨ga', i * 3 + 1, none⟩ = some (.slice va len vc) := (hgk _).1.trans e3
                    have g2 : w2.frozen? ⟨ga', i * 3 + 1, none⟩ = false := (hgk _).2.trans (hfz3 _)
                    have gz2 : ga' < w2.heap.size := Nat.lt_of_lt_of_le hgz' hz2
                    obtain ⟨va2, vc2, hv2⟩ := owned_slice happ.1
                    have HNX := Lib.hid (HLAST.out v2 w2 ⟨happ.1, ⟨happ.2.1.os, happ.2.1.tape, happ.2.1.output, happ.2.1.size, happ.2.1.block⟩, happ.2.2⟩)
                    have HV2 := Lib.hid hv2
                    rw [hv2]
                    rw [hv2] at HNX
                    clear happ hgk hv2 hfz3
                    refine ⟨hS2, ?_⟩
                    go_simp
                    refine H_take (i := 18) (v := ?_) rfl (by as_aux_lemma => kernel_rfl) (by as_aux_lemma => kernel_rfl) (by as_aux_lemma => kernel_rfl) (fun _ _ _ h => h) (by rfl) hS2 ?_ ?_
                    rotate_left
                    · intro w' hw'; go_simp; with_reducible rfl
                    go_simp
                    refine H_take (i := 19) (v := ?_) rfl (by as_aux_lemma => kernel_rfl) (by as_aux_lemma => kernel_rfl) (by as_aux_lemma => kernel_rfl) (fun _ _ _ h => h) (by rfl) hS2 ?_ ?_
                    rotate_left
                    · intro w' hw'; go_simp; with_reducible rfl
                    go_simp
                    refine H_one (i := 20) (by as_aux_lemma => kernel_rfl) rfl (by rfl) ?_
                    go_simp
                    refine ⟨hS2.set (.inl (.inl rfl)) _, ?_⟩
                    refine wpAnyH_done (by as_aux_lemma => kernel_rfl) ?_ _
                    clear r1 r2 hS hS2 g1 g2 e3
                    go_wp2_with fail
                    go_roundw
                    case rel => exact ⟨k + 1, by go_num, HNX.out⟩
                    case measure => simp [intOf]; omega
                  · have hkk : ¬ (k : Int) < (bs.length : Int) := by omega
                    obtain rfl : k = bs.length := by omega
                    clear hlt
                    go_wp2_with fail
                    go_ret
                    have hE := append_0 HST.out HNB.out (bs := bs) (by rw [← HFR.out, ← HN.out, HTA.out, HLEN.out]; simp; omega)
                    have he : (D.append d s bs).2 = { E2 with fs := E2.fs.set i { f0 with b := f0.b ++ bs.flatten } } := by
                      rw [hE, HTA.out]
                      simp only [Bool.false_eq_true, if_false]
                      unfold D.layAt
                      simp only [← HFS2.out, ← HI.out]
                      rw [modify_set _ _ _ HQ2.out]
                      have h0 := HF0.out
                      rw [List.getElem?_eq_getElem HQ2.out] at h0
                      simp only [Option.some.injEq] at h0
                      rw [h0, HE2.out]
                    refine ⟨by rw [hE]; rfl, (HO.out.trans (HO2.out.mono fun j hj => .inl (hj ▸ HGD.out))).trans (HO3.out.mono fun j hj => ?_), ?_⟩
                    · rcases hj with hj | hj
                      · exact .inl hj
                      · have := HO.out.size
                        exact .inr ⟨by omega, hj.2⟩
                    rw [he]
                    have := HAT3.out
                    rw [List.take_length] at this
                    have s1 := HO.out.size
                    have s2 := HO2.out.size
                    have s3 := HO3.out.size
                    refine ⟨_, _, this.same (fun j hj => ?_) fun _ _ => rfl⟩
                    rcases hj with (hj | hj) | hj
                    · exact .inl hj
                    · exact .inr ⟨by omega, by omega⟩
                    · exact .inr ⟨by omega, hj.2⟩
            | true =>
              obtain ⟨q1, q2⟩ := findR_pos hta
              rw [q1]
              obtain ⟨i, hi⟩ : ∃ i, i = D.find d.fs s := ⟨_, rfl⟩
              rw [← hi] at q2 ⊢
              have HTA := Lib.hid hta
              have HI := Lib.hid hi
              clear hta q1 hi
              have t2 : decide ((i : Int) < 0) = false := by simp
              have HFS : Hid (∀ k, F k → k < w1.heap.size ∧ ¬ X k) := Lib.hid fun k hk => ⟨by rw [HS1.out]; exact (HF.out k hk).1, (HF.out k hk).2⟩
              have HX1 : Hid (∀ k, X k → k < w1.heap.size) := Lib.hid fun k hk => by rw [HS1.out]; exact HX.out k hk
              have hil : i < fv.length := by have := HLEN.out; omega
              obtain ⟨ga, c, hla, -, -, -, -, -, -, -, -, -⟩ := HAT.out.file i hil
              have hla2 : la = some ⟨ga, 0, none⟩ := by simp only [Value.slice.injEq] at hla; exact hla.1
              subst hla2
              clear hla
              obtain ⟨f0, hf0⟩ : ∃ f0, f0 = d.fs[i]'q2 := ⟨_, rfl⟩
              have HF0 : Hid (d.fs[i]? = some f0) := Lib.hid (by rw [List.getElem?_eq_getElem q2, hf0])
              have HBND : Hid (f0.b.length + bs.flatten.length ≤ 1099511627776) := Lib.hid (by
                have h1 := hu.out
                have h2 : f0.b.length ≤ D.used d.fs := by
                  have a := D.used_take d.fs i q2
                  have b := D.used_le d.fs (i + 1)
                  rw [hf0]; omega
                omega)
              have HFSL : Hid (d.fs.length = fv.length) := HLEN
              have HATS : Hid (DkAt w1 X gd d.tick (.slice (some ⟨ga, 0, none⟩) fv.length lc) fv) := HAT
              have HBS : Hid (RepBl w1 (fun k => F k) bs (.slice na bs.length nc)) := HV1
              have HQ2 := Lib.hid q2
              clear hf0 q2 c1
              have HL0 : Hid (LayS w1 X gd ga lc fv.length i d.tick d.fs f0 bs 0 w1) := Lib.hid ⟨Nat.zero_le _, Only.refl _ _, fv, rfl, by
                have h1 : (d.fs).set i { f0 with b := f0.b ++ (bs.take 0).flatten } = d.fs := by
                  simp only [List.take_zero, List.flatten_nil, List.append_nil]
                  apply List.ext_getElem?
                  intro j
                  rw [List.getElem?_set]
                  by_cases e : i = j
                  · subst e
                    rw [if_pos rfl, HF0.out]
                    have := HFSL.out
                    rw [if_pos (by omega)]
                  · rw [if_neg e]
                rw [h1, show ({ d.tick with fs := d.fs } : Dk) = d.tick from by rw [← tick_fs d]]
                exact HATS.out.same (Y := More X w1 w1) (fun _ h => Or.inl h) fun _ _ => rfl⟩
              go_wp2_with fail
              go_loopw [10] (fun z wr => ∃ k : Nat, z = .int .i64 (k : Int) ∧ LayS w1 X gd ga lc fv.length i d.tick d.fs f0 bs k wr) (fun z _ => bs.length - (intOf z).toNat)
              case atStart => exact ⟨0, rfl, HL0.out⟩
              case round =>
                obtain ⟨k, rfl, hat⟩ := hrel
                obtain ⟨hkb, ho3, fw, hfw, hat3⟩ := hat
                have HO3 := Lib.hid ho3
                have HAT3 := Lib.hid hat3
                have HFW := Lib.hid hfw
                by_cases hlt : k < bs.length
                · have hkk : (k : Int) < (bs.length : Int) := by omega
                  have hvr : RepBl wr (fun k => F k) bs (.slice na bs.length nc) := HBS.out.same (fun _ h => h) fun j hj => ho3.block j (HFS.out j hj).1 (HFS.out j hj).2
                  obtain ⟨b, off, u, rfl, hFb, hc, hu1⟩ := hvr.elem k hlt
                  obtain ⟨ua, uc, rfl, hul⟩ := hu1.slice
                  have hbz : b < wr.heap.size := Nat.lt_of_lt_of_le (HFS.out b hFb).1 ho3.size
                  have hiw : i < fw.length := by omega
                  obtain ⟨cc3, ⟨-, k1, -, -⟩, -, kz, -, -⟩ := hat3.cells
                  obtain ⟨ga', c', hv', hXga, -, hgz', hnc', hcm', -, e3, -, hfz'⟩ := hat3.file i hiw
                  have hga : ga' = ga := by simp only [Value.slice.injEq, Option.some.injEq, Addr.mk.injEq] at hv'; exact hv'.1.1.symm
                  subst hga
                  have hfz3 : ∀ j, wr.frozen? ⟨ga', j, none⟩ = false := hfz'
                  clear hfz'
                  obtain ⟨va, vc, hvi, hvl⟩ := hat3.bytes i hiw
                  have hfi : fw[i].1 = { f0 with b := f0.b ++ (bs.take k).flatten } := by
                    have := hat3.get i hiw (by have := HFSL.out; simp; omega)
                    rw [this]; simp
                  obtain ⟨len, hle⟩ : ∃ len, len = fw[i].1.b.length := ⟨_, rfl⟩
                  have hlen2 : len ≤ 1099511627776 ∧ len + bs[k].length ≤ 1099511627776 := by
                    have h0 := HBND.out
                    have h2 : (bs.take (k + 1)).flatten.length ≤ bs.flatten.length := by
                      conv => rhs; rw [← List.take_append_drop (k + 1) bs, List.flatten_append, List.length_append]
                      omega
                    rw [flat_snoc bs k hlt, List.length_append] at h2
                    rw [hle, hfi]
                    simp only [List.length_append]
                    omega
                  obtain ⟨x, hx⟩ : ∃ x, x = bs[k].length := ⟨_, rfl⟩
                  rw [hvi, ← hle] at e3
                  rw [← hx] at hc hul hlen2
                  have HROW : Hid (wr.ownsRow 0 5 1 (.slice va len vc) len (fw[i].1.b.map byteV)) := Lib.hid (by
                    have := hat3.each fw[i] (List.getElem_mem hiw)
                    rw [hvi, ← hle] at this
                    exact this)
                  have HYI : Hid (Yields wr (.slice ua x uc) x 1 (bs[k].map byteV)) := Lib.hid (by
                    have := hu1.yields
                    rw [← hx] at this
                    exact this)
                  have HVI : Hid (fw[i].2 = .slice va len vc) := Lib.hid (by rw [hvi, hle])
                  have HLE := Lib.hid hle
                  have HXL := Lib.hid hx
                  have HNE : Hid (∀ j, (Value.slice va len vc).ownBlock = some j → j ≠ ga' ∧ j ≠ gd) := Lib.hid fun j hj => by
                    have hap := hat3.apart
                    rw [blocksOf, List.cons_append, List.nodup_cons] at hap
                    have hjm : j ∈ fw.flatMap fun p : Fl × Value => p.2.ownBlock.toList := List.mem_flatMap.2 ⟨fw[i], List.getElem_mem hiw, by rw [hvi]; rw [ownBlock_len (m := fw[i].1.b.length) (c' := vc)] at hj; simp [hj]⟩
                    refine ⟨fun e => ?_, fun e => hap.1 (List.mem_append.2 (.inr (e ▸ hjm)))⟩
                    exact (List.nodup_append.1 hap.2).2.2 ga' (by simp [Value.ownBlock]) j hjm e.symm
                  have HGG : Hid (gd ≠ ga') := Lib.hid fun e => by
                    have hap := hat3.apart
                    rw [blocksOf, List.cons_append, List.nodup_cons] at hap
                    exact hap.1 (List.mem_append.2 (.inl (by simp [Value.ownBlock, e])))
                  have HBN : Hid (¬ (b = ga' ∨ (Value.slice va len vc).ownBlock = some b)) := Lib.hid fun h => by
                    have hb1 := HFS.out b hFb
                    have hm : More X w1 wr b := by
                      rcases h with h | h
                      · exact h ▸ hXga
                      · exact hat3.foot b (mem_blocks_file (List.getElem_mem hiw) (by rw [HVI.out]; exact h))
                    rcases hm with hm | hm
                    · exact hb1.2 hm
                    · omega
                  have hl2 : len + x ≤ 1099511627776 := hlen2.2
                  have HLAST : Hid (∀ v w2, AppLeft wr 0 5 1 (.slice va len vc) len x (fw[i].1.b.map byteV) (bs[k].map byteV) v w2 → LayS w1 X gd ga' lc fv.length i d.tick d.fs f0 bs (k + 1) (w2.setCell ⟨ga', i * 3 + 1, none⟩ v)) := Lib.hid fun v w2 ha =>
                    LayS.step (m := x) (fv := fw) hlt ho3 hfw hat3 HX1.out (by have := HFSL.out; omega) hiw hx (by rw [HVI.out, ← hle]; exact ha) hXga
                  obtain ⟨ib, hib, hib0, hib1, hib2⟩ := info_parts infoByte
                  have hil3 : (i : Int) < (fv.length : Int) := by omega
                  clear hat3 ho3 hfw hvr hu1 hvi hfi hle hx hlen2 hvl hv' hnc' hkb
                  go_wp2_with fail
                  obtain ⟨own, hown⟩ : ∃ own, own = (Value.slice va len vc).ownBlock := ⟨_, rfl⟩
                  have HOWN := Lib.hid hown
                  clear hown
                  refine wp_region_held (S := fun w' => Only (fun j => j = ga' ∨ own = some j) wr w') (by kernel_rfl) ?_
                  have hS : Only (fun j => j = ga' ∨ own = some j) wr wr.drew := ⟨rfl, rfl, rfl, Nat.le_refl _, fun _ _ _ => rfl⟩
                  have r1 : ∀ w', Only (fun j => j = ga' ∨ own = some j) wr w' → w'.cell? ⟨gd, 1, none⟩ = some (.slice (some ⟨ga', 0, none⟩) fv.length lc) := fun w' hw' => (World.cell?_of_block (w := wr) (w' := w') (a := ⟨gd, 1, none⟩) (hw'.block gd kz (by
                    rw [HOWN.out]
                    intro h
                    rcases h with h | h
                    · exact HGG.out h
                    · exact (HNE.out gd h).2 rfl))).trans k1
                  have r2 : ∀ w', Only (fun j => j = ga' ∨ own = some j) wr w' → w'.cell? ⟨b, off + k, none⟩ = some (.slice ua x uc) := fun w' hw' => (World.cell?_of_block (w := wr) (w' := w') (a := ⟨b, off + k, none⟩) (hw'.block b hbz (by
                    rw [HOWN.out]
                    exact HBN.out))).trans hc
                  clear k1 hc
                  refine H_take (i := 0) (v := ?_) rfl (by as_aux_lemma => kernel_rfl) (by as_aux_lemma => kernel_rfl) (by as_aux_lemma => kernel_rfl) (fun _ _ _ h => h) (by rfl) hS ?_ ?_
                  rotate_left
                  · intro w' hw'; go_simp; with_reducible rfl
                  go_simp
                  refine H_take (i := 1) (v := ?_) rfl (by as_aux_lemma => kernel_rfl) (by as_aux_lemma => kernel_rfl) (by as_aux_lemma => kernel_rfl) (fun _ _ _ h => h) (by rfl) hS ?_ ?_
                  rotate_left
                  · intro w' hw'; go_simp; with_reducible rfl
                  go_simp
                  refine H_take (i := 2) (v := ?_) rfl (by as_aux_lemma => kernel_rfl) (by as_aux_lemma => kernel_rfl) (by as_aux_lemma => kernel_rfl) (fun _ _ _ h => h) (by rfl) hS ?_ ?_
                  rotate_left
                  · intro w' hw'; go_simp; with_reducible rfl
                  go_simp
                  refine H_take (i := 3) (v := ?_) rfl (by as_aux_lemma => kernel_rfl) (by as_aux_lemma => kernel_rfl) (by as_aux_lemma => kernel_rfl) (fun _ _ _ h => h) (by rfl) hS ?_ ?_
                  rotate_left
                  · intro w' hw'; go_simp; with_reducible rfl
                  go_simp
                  refine H_take (i := 4) (v := ?_) rfl (by as_aux_lemma => kernel_rfl) (by as_aux_lemma => kernel_rfl) (by as_aux_lemma => kernel_rfl) (fun _ _ _ h => h) (by rfl) hS ?_ ?_
                  rotate_left
                  · intro w' hw'; go_simp; with_reducible rfl
                  go_simp
                  refine H_take (i := 5) (v := ?_) rfl (by as_aux_lemma => kernel_rfl) (by as_aux_lemma => kernel_rfl) (by as_aux_lemma => kernel_rfl) (fun _ _ _ h => h) (by rfl) hS ?_ ?_
                  rotate_left
                  · intro w' hw'; go_simp; with_reducible rfl
                  go_simp
                  refine H_take (i := 6) (v := ?_) rfl (by as_aux_lemma => kernel_rfl) (by as_aux_lemma => kernel_rfl) (by as_aux_lemma => kernel_rfl) (fun _ _ _ h => h) (by rfl) hS ?_ ?_
                  rotate_left
                  · intro w' hw'; go_simp; with_reducible rfl
                  go_simp
                  refine H_take (i := 7) (v := ?_) rfl (by as_aux_lemma => kernel_rfl) (by as_aux_lemma => kernel_rfl) (by as_aux_lemma => kernel_rfl) (fun _ _ _ h => h) (by rfl) hS ?_ ?_
                  rotate_left
                  · intro w' hw'; go_simp; with_reducible rfl
                  go_simp
                  refine H_take (i := 8) (v := ?_) rfl (by as_aux_lemma => kernel_rfl) (by as_aux_lemma => kernel_rfl) (by as_aux_lemma => kernel_rfl) (fun _ _ _ h => h) (by rfl) hS ?_ ?_
                  rotate_left
                  · intro w' hw'; go_simp; with_reducible rfl
                  go_simp
                  refine H_take (i := 9) (v := ?_) rfl (by as_aux_lemma => kernel_rfl) (by as_aux_lemma => kernel_rfl) (by as_aux_lemma => kernel_rfl) (fun _ _ _ h => h) (by rfl) hS ?_ ?_
                  rotate_left
                  · intro w' hw'; go_simp; with_reducible rfl
                  go_simp
                  refine H_take (i := 10) (v := ?_) rfl (by as_aux_lemma => kernel_rfl) (by as_aux_lemma => kernel_rfl) (by as_aux_lemma => kernel_rfl) (fun _ _ _ h => h) (by rfl) hS ?_ ?_
                  rotate_left
                  · intro w' hw'; go_simp; with_reducible rfl
                  go_simp
                  refine H_take (i := 11) (v := ?_) rfl (by as_aux_lemma => kernel_rfl) (by as_aux_lemma => kernel_rfl) (by as_aux_lemma => kernel_rfl) (fun _ _ _ h => h) (by rfl) hS ?_ ?_
                  rotate_left
                  · intro w' hw'; go_simp; with_reducible rfl
                  go_simp
                  refine H_take (i := 13) (v := ?_) rfl (by as_aux_lemma => kernel_rfl) (by as_aux_lemma => kernel_rfl) (by as_aux_lemma => kernel_rfl) (fun _ _ _ h => h) (by rfl) hS ?_ ?_
                  rotate_left
                  · intro w' hw'; go_simp; with_reducible rfl
                  go_simp
                  refine H_take (i := 14) (v := ?_) rfl (by as_aux_lemma => kernel_rfl) (by as_aux_lemma => kernel_rfl) (by as_aux_lemma => kernel_rfl) (fun _ _ _ h => h) (by rfl) hS ?_ ?_
                  rotate_left
                  · intro w' hw'; go_simp; with_reducible rfl
                  go_simp
                  refine H_take (i := 15) (v := ?_) rfl (by as_aux_lemma => kernel_rfl) (by as_aux_lemma => kernel_rfl) (by as_aux_lemma => kernel_rfl) (fun _ _ _ h => h) (by rfl) hS ?_ ?_
                  rotate_left
                  · intro w' hw'; go_simp; with_reducible rfl
                  go_simp
                  refine H_take (i := 16) (v := ?_) rfl (by as_aux_lemma => kernel_rfl) (by as_aux_lemma => kernel_rfl) (by as_aux_lemma => kernel_rfl) (fun _ _ _ h => h) (by rfl) hS ?_ ?_
                  rotate_left
                  · intro w' hw'; go_simp; with_reducible rfl
                  go_simp
                  refine H_one (i := 12) (by as_aux_lemma => kernel_rfl) rfl (by rfl) ?_
                  go_simp
                  refine H_one (i := 17) (by as_aux_lemma => kernel_rfl) rfl (by rfl) ?_
                  refine wp_append_any _ _ _ 41 rfl 0 5 ib (.int .u8 0) 1 1 Try.underlying41 hib hib0 hib1 hib2 rfl (by decide) _ len _ rfl HROW.out _ rfl x _ HYI.out.drew (by unfold maxLen; omega) (by omega) (Nat.zero_le _) ?_
                  intro v2 w2 happ
                  have hz2 := happ.2.1.size
                  have hS2 : Only (fun j => j = ga' ∨ own = some j) wr w2 := ⟨happ.2.1.os, happ.2.1.tape, happ.2.1.output, happ.2.1.size, fun j hj hne => happ.2.1.block j hj fun e => hne (.inr (by rw [HOWN.out]; exact e.symm))⟩
                  have hgk : ∀ j, w2.cell? ⟨ga', j, none⟩ = wr.cell? ⟨ga', j, none⟩ ∧ w2.frozen? ⟨ga', j, none⟩ = wr.frozen? ⟨ga', j, none⟩ := fun j => by
                    have hb := happ.2.1.block ga' hgz' (fun e => (HNE.out ga' e.symm).1 rfl)
                    have hb' : w2.heap[ga']? = wr.heap[ga']? := hb
                    exact ⟨World.cell?_of_block (a := ⟨ga', j, none⟩) hb', by simp [World.frozen?, hb']⟩
                  have g1 : w2.cell? ⟨ga', i * 3 + 1, none⟩ = some (.slice va len vc) := (hgk _).1.trans e3
                  have g2 : w2.frozen? ⟨ga', i * 3 + 1, none⟩ = false := (hgk _).2.trans (hfz3 _)
                  have gz2 : ga' < w2.heap.size := Nat.lt_of_lt_of_le hgz' hz2
                  obtain ⟨va2, vc2, hv2⟩ := owned_slice happ.1
                  have HNX := Lib.hid (HLAST.out v2 w2 ⟨happ.1, ⟨happ.2.1.os, happ.2.1.tape, happ.2.1.output, happ.2.1.size, happ.2.1.block⟩, happ.2.2⟩)
                  have HV2 := Lib.hid hv2
                  rw [hv2]
                  rw [hv2] at HNX
                  clear happ hgk hv2 hfz3
                  refine ⟨hS2, ?_⟩
                  go_simp
                  refine H_take (i := 18) (v := ?_) rfl (by as_aux_lemma => kernel_rfl) (by as_aux_lemma => kernel_rfl) (by as_aux_lemma => kernel_rfl) (fun _ _ _ h => h) (by rfl) hS2 ?_ ?_
                  rotate_left
                  · intro w' hw'; go_simp; with_reducible rfl
                  go_simp
                  refine H_take (i := 19) (v := ?_) rfl (by as_aux_lemma => kernel_rfl) (by as_aux_lemma => kernel_rfl) (by as_aux_lemma => kernel_rfl) (fun _ _ _ h => h) (by rfl) hS2 ?_ ?_
                  rotate_left
                  · intro w' hw'; go_simp; with_reducible rfl
                  go_simp
                  refine H_one (i := 20) (by as_aux_lemma => kernel_rfl) rfl (by rfl) ?_
                  go_simp
                  refine ⟨hS2.set (.inl (.inl rfl)) _, ?_⟩
                  refine wpAnyH_done (by as_aux_lemma => kernel_rfl) ?_ _
                  clear r1 r2 hS hS2 g1 g2 e3
                  go_wp2_with fail
                  go_roundw
                  case rel => exact ⟨k + 1, by go_num, HNX.out⟩
                  case measure => simp [intOf]; omega
                · have hkk : ¬ (k : Int) < (bs.length : Int) := by omega
                  obtain rfl : k = bs.length := by omega
                  clear hlt
                  go_wp2_with fail
                  go_ret
                  have hE := append_0 HST.out HNB.out (bs := bs) (by rw [← HFR.out, ← HN.out, HTA.out]; simp; omega)
                  have he : (D.append d s bs).2 = { d.tick with fs := d.fs.set i { f0 with b := f0.b ++ bs.flatten } } := by
                    rw [hE, HTA.out]
                    simp only [if_true, ← HI.out]
                    unfold D.layAt
                    rw [modify_set _ _ _ HQ2.out]
                    have h0 := HF0.out
                    rw [List.getElem?_eq_getElem HQ2.out] at h0
                    simp only [Option.some.injEq] at h0
                    rw [h0]
                  refine ⟨by rw [hE]; rfl, HO.out.trans (HO3.out.mono fun j hj => .inl hj), ?_⟩
                  rw [he]
                  have := HAT3.out
                  rw [List.take_length] at this
                  have s1 := HO.out.size
                  have s2 := HO3.out.size
                  refine ⟨_, _, this.same (fun j hj => ?_) fun _ _ => rfl⟩
                  rcases hj with hj | hj
                  · exact .inl hj
                  · exact .inr ⟨by omega, hj.2⟩
end Go.Proofs.Ytgiipkmkmomofaa.M
