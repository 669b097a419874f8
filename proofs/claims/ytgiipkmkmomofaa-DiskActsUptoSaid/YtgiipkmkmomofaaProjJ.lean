/- The program's disk: Append. -/
import Derived.Test.YtgiipkmkmomofaaProjI
namespace Go.Proofs.Ytgiipkmkmomofaa.M
open Go.RowKit Go.Maps
open D (Fl Dk)

theorem cell_only {X : Nat → Prop} {w w' : World} (h : Only X w w') {b : Nat} (hb : b < w.heap.size) (hX : ¬ X b) (j : Nat) : w'.cell? ⟨b, j, none⟩ = w.cell? ⟨b, j, none⟩ := World.cell?_of_block (a := ⟨b, j, none⟩) (h.block b hb hX)

theorem PPost.of {w w1 w' : World} {X : Nat → Prop} {gd : Nat} {n : Int} {d : Dk} {e : Ending} (h1 : Only X w w1) (he : e = .returned (.int .i64 n)) (h2 : Only X w1 w') (h3 : PDsk w' (More X w1 w') gd d) : PPost w X gd (n, d) e w' :=
  ⟨he, h1.then h2, h3.same (fun k hk => by
    rcases hk with hk | hk
    · exact .inl hk
    · exact .inr ⟨Nat.le_trans h1.size hk.1, hk.2⟩) fun _ _ => rfl⟩

set_option maxRecDepth 40000 in
set_option maxHeartbeats 6400000 in
theorem AppendC_any (d : Dk) (X : Nat → Prop) (gd bn bd bb : Nat) (s : ByteArray) (bs : List (List UInt8)) (F : Nat → Prop) (vb : Value) (w : World) (hd : PDskIn w X gd d) (hg : Good d) (hs : s.size ≤ 9223372036854775807)
    (hv : RepBl w F bs vb) (hF : ∀ k, F k → k < w.heap.size ∧ ¬ X k) (hu : D.used d.fs + bs.flatten.length ≤ 1099511627776)
    (c1 : w.cell? ⟨bn, 0, none⟩ = some (.string s)) (c2 : w.cell? ⟨bd, 0, none⟩ = some (.pointer (some ⟨gd, 0, none⟩))) (c3 : w.cell? ⟨bb, 0, none⟩ = some vb) (hbx : (bn < w.heap.size ∧ ¬ X bn) ∧ (bd < w.heap.size ∧ ¬ X bd) ∧ (bb < w.heap.size ∧ ¬ X bb)) :
    Calls Try.prog 41 #[.pointer (some ⟨bn, 0, none⟩), .pointer (some ⟨bd, 0, none⟩), .pointer (some ⟨bb, 0, none⟩)] w (PPost w X gd (appendB d s bs)) := by
  obtain ⟨na, nc, rfl, hnl⟩ := hv.slice
  have HV := Lib.hid hv
  have HF := Lib.hid hF
  have HX := Lib.hid hd.2
  have HD := Lib.hid hd.1
  have HG := Lib.hid hg
  have HS := Lib.hid hs
  have HU := Lib.hid hu
  have HBX := Lib.hid hbx
  have HC1 := Lib.hid c1
  have HC2 := Lib.hid c2
  have HC3 := Lib.hid c3
  obtain ⟨⟨b1, -⟩, ⟨b2, -⟩, b3, -⟩ := hbx
  clear hv hF hd hg hs hu
  go_enter Try.func41, Try.ntmps41
  go_wp2_with fail
  refine (IsName_any s _ HS.out).mono ?_
  rintro e w1 ⟨rfl, hb1⟩
  have HO1 : Hid (Only X w w1) := Lib.hid ((Only.of_below hb1).mono fun _ h => h)
  have HD1 : Hid (PDskIn w1 X gd d) := Lib.hid ⟨HD.out.same (fun _ h => h) fun k hk => hb1.block k (HX.out k hk), fun k hk => Nat.lt_of_lt_of_le (HX.out k hk) hb1.size⟩
  have b1 : bn < w1.heap.size := Nat.lt_of_lt_of_le b1 hb1.size
  have b2 : bd < w1.heap.size := Nat.lt_of_lt_of_le b2 hb1.size
  have b3 : bb < w1.heap.size := Nat.lt_of_lt_of_le b3 hb1.size
  clear hb1 c1 c2 c3
  cases hok : D.okName s with
  | false =>
    have HE : Hid (appendB d s bs = (30, d)) := Lib.hid (by unfold appendB; rw [if_pos hok])
    clear hok
    go_wp2_with fail
    go_ret
    rw [HE.out]
    exact PPost.of HO1.out rfl (Only.refl _ _) HD1.out.1.up
  | true =>
    have HOK := Lib.hid hok
    obtain ⟨gm, M, E, hat⟩ := HD1.out.1
    obtain ⟨⟨d0, -, d2⟩, ⟨f0, -, -⟩, hz⟩ := hat.cells
    have c1 := (cell_only HO1.out HBX.out.1.1 HBX.out.1.2 0).trans HC1.out
    have c2 := (cell_only HO1.out HBX.out.2.1.1 HBX.out.2.1.2 0).trans HC2.out
    have c3 := (cell_only HO1.out HBX.out.2.2.1 HBX.out.2.2.2 0).trans HC3.out
    have HAT := Lib.hid hat
    have HV1 : Hid (RepBl w1 F bs (.slice na bs.length nc)) := Lib.hid (HV.out.same (fun _ h => h) fun k hk => HO1.out.block k (HF.out k hk).1 (HF.out k hk).2)
    have HF1 : Hid (∀ k, F k → k < w1.heap.size ∧ ¬ X k) := Lib.hid fun k hk => ⟨Nat.lt_of_lt_of_le (HF.out k hk).1 HO1.out.size, (HF.out k hk).2⟩
    obtain ⟨fr, hfr⟩ : ∃ fr, fr = d.free := ⟨_, rfl⟩
    rw [← hfr] at d0 HAT
    have HFR := Lib.hid hfr
    have hfr0 : 0 ≤ fr := by rw [hfr]; exact HG.out.1.2.2.1
    have hfr1 : fr ≤ 9223372036854775807 := by
      have := HG.out.1.2.2.2.2
      rw [hfr]
      unfold D.Dk.free
      omega
    have hfit : ∀ n, Calls Try.prog 42 #[.int .i64 fr, .slice na bs.length nc] (w1.drewN n) fun e w' => e = .returned (fitR fr bs) ∧ w' = w1.drewN n := fun n => (Fit_any fr bs F (.slice na bs.length nc) (w1.drewN n) hfr0 hfr1 (HV1.out.same (fun _ h => h) fun _ _ => rfl) (fun k hk => (HF1.out k hk).1)).mono fun e w' h => ⟨h.1, h.2.symm⟩
    clear hok hat hfr
    go_wp2_with fail
    by_cases hfit1 : (bs.flatten.length : Int) ≤ fr
    · have hfe : fitR fr bs = .tuple #[.int .i64 (fr - bs.flatten.length), .bool true] := by unfold fitR; rw [if_pos hfit1]
      rw [hfe] at hfit
      have HFT := Lib.hid hfit
      clear hfit
      obtain ⟨left, hleft⟩ : ∃ left, left = fr - (bs.flatten.length : Int) := ⟨_, rfl⟩
      rw [← hleft] at HFT
      have HLEFT := Lib.hid hleft
      have HFIT := Lib.hid hfit1
      clear hfe hfit1 hleft
      go_quiet ((go_at_call 42; exact Calls.quiet_of_same (HFT.out _)))
      generalize hW2 : World.drewN w1 _ = W2
      have HO2 : Hid (Only X w W2) := Lib.hid (by rw [← hW2]; exact HO1.out.then (Only.drewN _ _ _))
      have HE2 : Hid (W2.heap = w1.heap) := Lib.hid (by rw [← hW2]; rfl)
      clear hW2
      have c1 : W2.cell? ⟨bn, 0, none⟩ = some (.string s) := (World.cell?_of_block (a := ⟨bn, 0, none⟩) (by rw [HE2.out])).trans c1
      have c2 : W2.cell? ⟨bd, 0, none⟩ = some (.pointer (some ⟨gd, 0, none⟩)) := (World.cell?_of_block (a := ⟨bd, 0, none⟩) (by rw [HE2.out])).trans c2
      have c3 : W2.cell? ⟨bb, 0, none⟩ = some (.slice na bs.length nc) := (World.cell?_of_block (a := ⟨bb, 0, none⟩) (by rw [HE2.out])).trans c3
      have d2 : W2.cell? ⟨gd, 2, none⟩ = some (.map (some gm)) := (World.cell?_of_block (a := ⟨gd, 2, none⟩) (by rw [HE2.out])).trans d2
      have b1 : bn < W2.heap.size := by rw [HE2.out]; exact b1
      have b2 : bd < W2.heap.size := by rw [HE2.out]; exact b2
      have b3 : bb < W2.heap.size := by rw [HE2.out]; exact b3
      have hz : gd < W2.heap.size := by rw [HE2.out]; exact hz
      have hlk : ∀ n, (Instr.lookup 58 (.map (some gm)) (.string s) false).run Try.prog (W2.drewN n) = .ok (ptrOf d E s) (W2.drewN n) := fun n => HAT.out.look HS.out (w' := W2.drewN n) (by show W2.heap[gm]? = _; rw [HE2.out])
      clear d0 f0
      go_wp2_with fail
      go_quiet (fail)
      clear hlk
      generalize hW3 : World.drewN W2 _ = W3
      have HO3 : Hid (Only X w W3) := Lib.hid (by rw [← hW3]; exact HO2.out.then (Only.drewN _ _ _))
      have HE3 : Hid (W3.heap = w1.heap) := Lib.hid (by rw [← hW3]; exact HE2.out)
      clear hW3 HO2 HE2
      have c1 : W3.cell? ⟨bn, 0, none⟩ = some (.string s) := (cell_only HO3.out HBX.out.1.1 HBX.out.1.2 0).trans HC1.out
      have c2 : W3.cell? ⟨bd, 0, none⟩ = some (.pointer (some ⟨gd, 0, none⟩)) := (cell_only HO3.out HBX.out.2.1.1 HBX.out.2.1.2 0).trans HC2.out
      have c3 : W3.cell? ⟨bb, 0, none⟩ = some (.slice na bs.length nc) := (cell_only HO3.out HBX.out.2.2.1 HBX.out.2.2.2 0).trans HC3.out
      have hat3 : PDAt W3 X gd d fr gm M E := HAT.out.same (fun _ h => h) fun k _ => by rw [HE3.out]
      obtain ⟨⟨d0, -, d2⟩, ⟨f0, -, -⟩, hz⟩ := hat3.cells
      have HX3 : Hid (∀ k, X k → k < W3.heap.size) := Lib.hid fun k hk => by rw [HE3.out]; exact HD1.out.2 k hk
      have b1 : bn < W3.heap.size := Nat.lt_of_lt_of_le HBX.out.1.1 HO3.out.size
      have b2 : bd < W3.heap.size := Nat.lt_of_lt_of_le HBX.out.2.1.1 HO3.out.size
      have b3 : bb < W3.heap.size := Nat.lt_of_lt_of_le HBX.out.2.2.1 HO3.out.size
      have HV3 : Hid (RepBl W3 F bs (.slice na bs.length nc)) := Lib.hid (HV.out.same (fun _ h => h) fun k hk => HO3.out.block k (HF.out k hk).1 (HF.out k hk).2)
      have HF3 : Hid (∀ k, F k → k < W3.heap.size ∧ ¬ X k) := Lib.hid fun k hk => ⟨Nat.lt_of_lt_of_le (HF.out k hk).1 HO3.out.size, (HF.out k hk).2⟩
      have HAT3 := Lib.hid hat3
      clear hat3 HV1 HF1 HAT HD1 HO1 HE3 HFT
      cases ht : D.isThere d.fs s with
      | true =>
        obtain ⟨f, hf, rfl⟩ := D.isThere_mem.1 ht
        have hp : ptrOf d E f.nm = .pointer (some ⟨(E f.nm).1, 0, none⟩) := by unfold ptrOf; rw [ht]; rfl
        rw [hp]
        have HE : Hid (appendB d f.nm bs = (0, { d with fs := D.layAt d.fs (D.find d.fs f.nm) bs.flatten })) := Lib.hid (by
          unfold appendB
          rw [if_neg (by rw [HOK.out]; simp), if_neg (fun h => by
            rcases h with h | ⟨h, _⟩
            · have := HFIT.out
              have := HFR.out
              omega
            · rw [ht] at h; cases h)]
          rw [ht]; rfl)
        have HFA := Lib.hid (HAT3.out.each f hf)
        have hft := HAT3.out.foot.2.2 f hf
        have HFF : Hid (∀ k, F k → k < W3.heap.size ∧ k ≠ (E f.nm).1 ∧ (E f.nm).2.ownBlock ≠ some k) := Lib.hid fun k hk => ⟨(HF3.out k hk).1, fun e => (HF3.out k hk).2 (e ▸ hft.1), fun e => (HF3.out k hk).2 (hft.2 k e)⟩
        have HBU : Hid (f.b.length + bs.flatten.length ≤ 140737488355328) := Lib.hid (by
          have := D.used_mem hf
          have := HU.out
          omega)
        have HPA : Hid (∀ W4, PutAt W3 (E f.nm).1 (E f.nm).2 f bs bs.length W4 → (W4.frozen? ⟨gd, 0, none⟩ = false ∧ gd < W4.heap.size ∧ W4.cell? ⟨gd, 0, none⟩ = some (.int .i64 fr) ∧ W4.cell? ⟨bd, 0, none⟩ = some (.pointer (some ⟨gd, 0, none⟩)) ∧ bd < W4.heap.size) ∧ PPost w X gd (appendB d f.nm bs) (.returned (.int .i64 0)) (W4.setCell ⟨gd, 0, none⟩ (.int .i64 left))) := Lib.hid fun W4 hput => by
          obtain ⟨⟨q1, q2, q3⟩, q4, E', q5⟩ := lay_done (left := left) HAT3.out HX3.out HG.out.2.1 hf hput rfl
          have ho4 : Only X W3 W4 := ⟨hput.2.1.os, hput.2.1.tape, hput.2.1.output, hput.2.1.size, fun k hk hn => hput.2.1.block k hk fun h3 => by
            rcases h3 with h3 | h3
            · exact hn (h3 ▸ hft.1)
            · exact hn (hft.2 k h3)⟩
          have ho5 := HO3.out.then ho4
          refine ⟨⟨q1, q2, q3, (cell_only ho5 HBX.out.2.1.1 HBX.out.2.1.2 0).trans HC2.out, Nat.lt_of_lt_of_le HBX.out.2.1.1 ho5.size⟩, ?_⟩
          rw [HE.out]
          refine PPost.of HO3.out rfl q4 ⟨gm, M, E', ?_⟩
          have e : ({ d with fs := D.layAt d.fs (D.find d.fs f.nm) bs.flatten } : Dk).free = left := by
            rw [HLEFT.out, HFR.out]
            unfold D.Dk.free
            simp only
            rw [used_layAt _ _ _ (D.find_lt ht)]
            omega
          rw [e]
          exact q5
        obtain ⟨b, hb⟩ : ∃ b, b = (E f.nm).1 := ⟨_, rfl⟩
        rw [← hb] at HFA HFF HPA ⊢
        clear hb hft hf ht hp d0 f0
        go_wp2_with fail
        refine (Lay_any b _ f bs F _ _ HFA.out HV3.out HFF.out HBU.out).mono ?_
        rintro e W4 ⟨rfl, hput⟩
        obtain ⟨⟨q1, q2, q3, q4, q5⟩, q6⟩ := HPA.out W4 hput
        have HP := Lib.hid q6
        clear hput q6
        go_wp2_with fail
        go_ret
        exact HP.out
      | false =>
        have hp : ptrOf d E s = .pointer none := by unfold ptrOf; rw [ht]; rfl
        rw [hp]
        have hlen := fun ty => HAT3.out.len (w' := W3) rfl ty
        by_cases hfull : 4096 ≤ d.fs.length
        · have q1 : (4096 : Int) ≤ (d.fs.length : Int) := by omega
          have HE : Hid (appendB d s bs = (31, d)) := Lib.hid (by
            unfold appendB
            rw [if_neg (by rw [HOK.out]; simp), if_pos (.inr ⟨ht, hfull⟩)])
          clear hp ht hfull d0 f0
          go_wp2_with fail
          go_ret
          rw [HE.out]
          exact PPost.of HO3.out rfl (Only.refl _ _) ⟨gm, M, E, by rw [← HFR.out]; exact HAT3.out.same (fun _ h => .inl h) fun _ _ => rfl⟩
        · have q1 : decide ((4096 : Int) ≤ (d.fs.length : Int)) = false := by simp; omega
          have HT := Lib.hid ht
          have HNF := Lib.hid hfull
          clear hp ht hfull d0 f0
          go_wp2_with fail
          obtain ⟨W4, hW4⟩ : ∃ W4, W4 = W3.alloc (.cells #[.slice none 0 0, .int .i64 0] 73) := ⟨_, rfl⟩
          have c1 : W4.cell? ⟨bn, 0, none⟩ = some (.string s) := by rw [hW4, World.cell?_alloc_past _ _ _ b1]; exact c1
          have c2 : W4.cell? ⟨bd, 0, none⟩ = some (.pointer (some ⟨gd, 0, none⟩)) := by rw [hW4, World.cell?_alloc_past _ _ _ b2]; exact c2
          have d2 : W4.cell? ⟨gd, 2, none⟩ = some (.map (some gm)) := by rw [hW4, World.cell?_alloc_past _ _ _ hz]; exact d2
          rw [← hW4]
          have HW4 := Lib.hid hW4
          have HOWN : Hid (W4.drew.ownsMap Try.prog 9 ptrElem gm d.fs.length M) := Lib.hid (by rw [hW4]; exact HAT3.out.map.alloc _)
          clear hW4
          go_still_tail 6, (by kernel_rfl)
          have HMX : Hid (d.fs.length < maxLen) := Lib.hid (by unfold maxLen; have := HNF.out; omega)
          have HKEY := Lib.hid (key_of HS.out)
          go_wp2_with (at_mapUpdate; refine wpList_mapUpdate_in _ rfl _ _ _ 58 rfl 9 70 law9 Try.underlying58 ptrElem gm _ M rfl HOWN.out HMX.out _ _ _ rfl rfl HKEY.out (.held W3.heap.size) [] rfl ?_)
          intro w5 hown5 hturn5
          have hz5 : w5.heap.size = W3.heap.size + 1 := by
            obtain ⟨es, c, es', c', h1, h2⟩ := hturn5
            rw [h2]; simp [Go.ChangeMaps.setBlock]; rw [HW4.out]; simp
          have hg5 := hturn5.grown
          obtain ⟨n1, n2, n3⟩ := new_done HAT3.out HX3.out HT.out HW4.out hown5 ⟨hg5.os, hg5.tape, hg5.output, hg5.size, hg5.block⟩ hz5
          have HO5 : Hid (Only X w w5) := Lib.hid (HO3.out.then n1)
          have hnb := HO3.out.size
          obtain ⟨nb, hnbe⟩ : ∃ nb, nb = W3.heap.size := ⟨_, rfl⟩
          rw [← hnbe] at n2 n3 hz5 hnb ⊢
          have HNB : Hid (w.heap.size ≤ nb ∧ nb < w5.heap.size) := Lib.hid ⟨hnb, by omega⟩
          have hmem : (⟨s, [], 0⟩ : Fl) ∈ D.add d.fs ⟨s, [], 0⟩ := D.mem_add.2 (.inl rfl)
          have hfa := n2.each _ hmem
          simp only [if_true] at hfa
          have hr5 : D.Rising (D.add d.fs ⟨s, [], 0⟩) := HG.out.2.1.add (x := ⟨s, [], 0⟩) (D.isThere_not.1 HT.out)
          have HFF : Hid (∀ k, F k → k < w5.heap.size ∧ k ≠ nb ∧ (Value.slice none 0 0).ownBlock ≠ some k) := Lib.hid fun k hk => ⟨Nat.lt_of_lt_of_le (HF.out k hk).1 HO5.out.size, fun e => by have := (HF.out k hk).1; omega, fun e => by cases e⟩
          have HV5 : Hid (RepBl w5 F bs (.slice na bs.length nc)) := Lib.hid (HV.out.same (fun _ h => h) fun k hk => HO5.out.block k (HF.out k hk).1 (HF.out k hk).2)
          have HBU : Hid ((⟨s, [], 0⟩ : Fl).b.length + bs.flatten.length ≤ 140737488355328) := Lib.hid (by
            have := HU.out
            show 0 + bs.flatten.length ≤ _
            omega)
          have HE : Hid (appendB d s bs = (0, { d with fs := D.layAt (D.add d.fs ⟨s, [], 0⟩) (D.find (D.add d.fs ⟨s, [], 0⟩) s) bs.flatten })) := Lib.hid (by
            unfold appendB
            rw [if_neg (by rw [HOK.out]; simp), if_neg (fun h => by
              rcases h with h | ⟨_, h⟩
              · have := HFIT.out
                have := HFR.out
                omega
              · exact HNF.out h)]
            rw [HT.out]; rfl)
          have HPA : Hid (∀ W6, PutAt w5 nb (.slice none 0 0) ⟨s, [], 0⟩ bs bs.length W6 → (W6.frozen? ⟨gd, 0, none⟩ = false ∧ gd < W6.heap.size ∧ W6.cell? ⟨gd, 0, none⟩ = some (.int .i64 fr) ∧ W6.cell? ⟨bd, 0, none⟩ = some (.pointer (some ⟨gd, 0, none⟩)) ∧ bd < W6.heap.size) ∧ PPost w X gd (appendB d s bs) (.returned (.int .i64 0)) (W6.setCell ⟨gd, 0, none⟩ (.int .i64 left))) := Lib.hid fun W6 hput => by
            have hput2 : PutAt w5 ((fun t => if t = s then (nb, Value.slice none 0 0) else E t) (⟨s, [], 0⟩ : Fl).nm).1 ((fun t => if t = s then (nb, Value.slice none 0 0) else E t) (⟨s, [], 0⟩ : Fl).nm).2 ⟨s, [], 0⟩ bs bs.length W6 := by
              simp only [if_true]; exact hput
            obtain ⟨⟨q1, q2, q3⟩, q4, E', q5⟩ := lay_done (left := left) n2 n3 hr5 hmem hput2 rfl
            have ho6 : Only X w W6 := HO5.out.trans ⟨hput.2.1.os, hput.2.1.tape, hput.2.1.output, hput.2.1.size, fun k hk hn => hput.2.1.block k hk fun h3 => by
              rcases h3 with h3 | h3
              · exact hn (h3 ▸ .inr HNB.out)
              · cases h3⟩
            have hsub : ∀ k, X k ∨ k = nb → More X w w5 k := fun k hk => by
              rcases hk with hk | hk
              · exact .inl hk
              · exact .inr (hk ▸ HNB.out)
            refine ⟨⟨q1, q2, q3, (cell_only ho6 HBX.out.2.1.1 HBX.out.2.1.2 0).trans HC2.out, Nat.lt_of_lt_of_le HBX.out.2.1.1 ho6.size⟩, ?_⟩
            rw [HE.out]
            have e : ({ d with fs := D.layAt (D.add d.fs ⟨s, [], 0⟩) (D.find (D.add d.fs ⟨s, [], 0⟩) s) bs.flatten } : Dk).free = left := by
              rw [HLEFT.out, HFR.out]
              unfold D.Dk.free
              simp only
              rw [used_layAt _ _ _ (D.find_lt (D.isThere_mem.2 ⟨_, hmem, rfl⟩)), D.used_add]
              simp
              omega
            refine ⟨rfl, HO5.out.trans (q4.mono hsub), gm, M.put (.string s.data.toList) (.held nb), E', ?_⟩
            rw [e]
            exact q5.same (fun k hk => by
              rcases hk with hk | hk
              · rcases hsub k hk with h | h
                · exact .inl h
                · exact .inr ⟨h.1, Nat.lt_of_lt_of_le h.2 q4.size⟩
              · exact .inr ⟨Nat.le_trans HO5.out.size hk.1, hk.2⟩) fun _ _ => rfl
          have c3 : w5.cell? ⟨bb, 0, none⟩ = some (.slice na bs.length nc) := (cell_only HO5.out HBX.out.2.2.1 HBX.out.2.2.2 0).trans HC3.out
          have b3 : bb < w5.heap.size := Nat.lt_of_lt_of_le HBX.out.2.2.1 HO5.out.size
          have HFA := Lib.hid hfa
          clear hfa hmem hr5 n1 n2 n3 hown5 hturn5 hg5 hz5 hnbe hnb hz b1 b2 hlen
          go_wp2_with fail
          refine (Lay_any nb _ ⟨s, [], 0⟩ bs F _ _ HFA.out HV5.out HFF.out HBU.out).mono ?_
          rintro e W6 ⟨rfl, hput⟩
          obtain ⟨⟨q1, q2, q3, q4, q5⟩, q6⟩ := HPA.out W6 hput
          have HP := Lib.hid q6
          clear hput q6
          go_wp2_with fail
          go_ret
          exact HP.out
    · have hfe : fitR fr bs = .tuple #[.int .i64 0, .bool false] := by unfold fitR; rw [if_neg hfit1]
      rw [hfe] at hfit
      have HFT := Lib.hid hfit
      clear hfit
      have HE : Hid (appendB d s bs = (31, d)) := Lib.hid (by
        unfold appendB
        rw [if_neg (by rw [HOK.out]; simp), if_pos (.inl (by have := HFR.out; omega))])
      clear hfe hfit1
      go_quiet ((go_at_call 42; exact Calls.quiet_of_same (HFT.out _)))
      go_wp2_with fail
      go_ret
      rw [HE.out]
      exact PPost.of HO1.out rfl (Only.drewN _ _ _) (HD1.out.1.same (fun _ h => .inl h) fun _ _ => rfl)
end Go.Proofs.Ytgiipkmkmomofaa.M
