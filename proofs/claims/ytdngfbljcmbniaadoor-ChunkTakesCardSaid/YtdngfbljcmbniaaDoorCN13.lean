/- Package chunk: take. Package chunk: Take, of several. Rows of pieces that a call makes. The library's chunks of bytes. -/
import Derived.Test.YtdngfbljcmbniaaDoorCN11
import Derived.Test.YtdngfbljcmbniaaDoorCN12
import Derived.Sort.QuietIn
/- Part: ChK. -/
namespace Go.Proofs.YtdngfbljcmbniaaDoor.M
open Go.RowKit Go.Maps

theorem HpRow.put14 {w : World} {g : Nat} {a0 a1 a2 a3 a4 m b1 b2 b3 b4 : Value} {fi : Nat} {a7 : Value} (h : HpRow w g a0 a1 a2 a3 a4 m fi a7) : HpRow ((((w.setCell ⟨g, 1, none⟩ b1).setCell ⟨g, 2, none⟩ b2).setCell ⟨g, 3, none⟩ b3).setCell ⟨g, 4, none⟩ b4) g a0 b1 b2 b3 b4 m fi a7 := by
  unfold HpRow at h ⊢
  simp [World.setCell, Array.getElem?_modify, h]

theorem Tab.only7 {w w' : World} {X : Nat → Prop} (h : Tab w) (ho : Only X w w') (hX : ¬ X 0) : Tab w' :=
  ⟨Nat.lt_of_lt_of_le h.1 ho.size, fun k hk => (cell_only ho h.1 hX k).trans (h.2 k hk)⟩

theorem Below.to_only {w w' : World} {X : Nat → Prop} (h : Below w.heap.size w w') : Only X w w' := Only.of_below h

set_option maxRecDepth 20000 in
set_option maxHeartbeats 8000000 in
theorem take_any (X : Nat → Prop) (g : Nat) (most : Int) (L : List Pc) (p : Pc) (F : Nat → Prop) (v : Value) (w : World) (h : HeapIn w X g most L) (hinv : HInv most L) (hb : p.b.length ≤ 1000) (htot : p.tot ≤ 1000) (hsum : 0 ≤ p.sum) (hLn : L.length ≤ 100000)
    (hv : RepB w F p.b v) (hF : ∀ k, F k → k < w.heap.size ∧ ¬ X k ∧ k ≠ g) (hT : Hid (Tab w)) (hTz : Hid (Tz w)) (hX0 : ¬ X 0 ∧ g ≠ 0 ∧ ¬ X 1 ∧ g ≠ 1) :
    Calls Tryd.prog 24 #[.pointer (some ⟨g, 0, none⟩), pcAgg p v] w (TakePost w X g most L p) := by
  obtain ⟨a, c, rfl, -⟩ := hv.slice
  obtain ⟨n, hn⟩ : ∃ n, n = p.b.length := ⟨_, rfl⟩
  rw [← hn] at hb ⊢
  obtain ⟨W1, hW1⟩ : ∃ W1, W1 = w.alloc (.cells #[.int .i64 p.idx, .int .i64 p.term, .int .u32 p.sum, .int .i64 p.tot, .int .i64 p.pos, .slice a n c] 35) := ⟨_, rfl⟩
  have hb1 : Below w.heap.size w W1 := by rw [hW1]; exact below_alloc _ _
  have hz1 : W1.heap.size = w.heap.size + 1 := by rw [hW1]; simp
  have hx1 : W1.heap[w.heap.size]? = some (.cells #[.int .i64 p.idx, .int .i64 p.term, .int .u32 p.sum, .int .i64 p.tot, .int .i64 p.pos, .slice a n c] 35) := by rw [hW1]; exact heap_new _ _ _ rfl
  obtain ⟨m, hrow⟩ := h.1.row
  have hrow1 : HpRow W1 g (.int .i64 most) (.int .i64 (hdIdx L)) (.int .i64 (hdTerm L)) (.int .u32 (hdSum L)) (.int .i64 (hdTot L)) m (missing L) (.bool (wholeB L)) := old_below hrow hb1
  obtain ⟨⟨c0, -, -, -, -, -, -, -⟩, -, cz⟩ := hrow1.cells
  obtain ⟨d0, d1, d2, d3, d4, d5, dz⟩ := six_cells hx1
  have keep : ∀ {q o : Nat} {u : Value}, q < W1.heap.size → W1.cell? ⟨q, o, none⟩ = some u → ∀ w', Below W1.heap.size W1 w' → w'.cell? ⟨q, o, none⟩ = some u := fun {q o u} hq hv w' hb => (World.cell?_of_block (a := ⟨q, o, none⟩) (hb.block q hq)).trans hv
  have r0 := keep dz d0
  have r1 := keep dz d1
  have r2 := keep dz d2
  have r3 := keep dz d3
  have r4 := keep dz d4
  have r5 := keep dz d5
  have r6 := keep cz c0
  have hS : Below W1.heap.size W1 W1.drew := (Below.refl _ _).drew
  have HIR := Lib.hid (IsRight_any p most a c W1.drew (by omega) (by omega))
  rw [← hn] at HIR
  have HH := Lib.hid h
  have HI := Lib.hid hinv
  have HV := Lib.hid hv
  have HF := Lib.hid hF
  have HN := Lib.hid hn
  have HW1 := Lib.hid hW1
  have HX1 := Lib.hid hx1
  have HZ1 := Lib.hid hz1
  have HB1 := Lib.hid hb1
  have HR1 := Lib.hid hrow1
  have HX0 := Lib.hid hX0
  have HSU := Lib.hid hsum
  have HTO := Lib.hid htot
  have HLN := Lib.hid hLn
  clear h hinv hv hF hn hW1 hx1 hz1 hb1 hrow hrow1 keep d0 d1 d2 d3 d4 d5 dz c0 cz hX0 hsum htot hLn
  unfold pcAgg at HIR ⊢
  go_enter Tryd.func24, Tryd.ntmps24
  go_wp2_with fail
  rw [← HW1.out]
  refine wp_region_held (S := fun w' => Below W1.heap.size W1 w') (by kernel_rfl) ?_
  refine H_take (i := 0) (v := ?_) rfl (by as_aux_lemma => kernel_rfl) (by as_aux_lemma => kernel_rfl) (by as_aux_lemma => kernel_rfl) (fun _ _ _ h => h) (by rfl) hS ?_ ?_
  rotate_left
  · intro w' hw'; go_simp; with_reducible rfl
  go_simp
  refine H_take (i := 1) (v := ?_) rfl (by as_aux_lemma => kernel_rfl) (by as_aux_lemma => kernel_rfl) (by as_aux_lemma => kernel_rfl) (fun _ _ _ h => h) (by rfl) hS ?_ ?_
  rotate_left
  · intro w' hw'; go_simp; with_reducible rfl
  go_simp
  refine H_take (i := 2) (v := ?_) rfl (by as_aux_lemma => kernel_rfl) (by as_aux_lemma => kernel_rfl) (by as_aux_lemma => kernel_rfl) (fun _ _ _ h => h) (by rfl) hS ?_ ?_
  rotate_left
  · intro w' hw'; go_simp; with_reducible rfl
  go_simp
  refine H_take (i := 3) (v := ?_) rfl (by as_aux_lemma => kernel_rfl) (by as_aux_lemma => kernel_rfl) (by as_aux_lemma => kernel_rfl) (fun _ _ _ h => h) (by rfl) hS ?_ ?_
  rotate_left
  · intro w' hw'; go_simp; with_reducible rfl
  go_simp
  refine H_take (i := 4) (v := ?_) rfl (by as_aux_lemma => kernel_rfl) (by as_aux_lemma => kernel_rfl) (by as_aux_lemma => kernel_rfl) (fun _ _ _ h => h) (by rfl) hS ?_ ?_
  rotate_left
  · intro w' hw'; go_simp; with_reducible rfl
  go_simp
  refine H_one (i := 5) (by as_aux_lemma => kernel_rfl) rfl (by rfl) ?_
  go_simp
  refine (HIR.out).mono ?_
  rintro e w2 ⟨rfl, hb2⟩
  have hS2 : Below W1.heap.size W1 w2 := hS.trans hb2
  clear hb2
  obtain ⟨ok, hok⟩ : ∃ ok, ok = okPc most p := ⟨_, rfl⟩
  rw [← hok]
  have HOK := Lib.hid hok
  clear hok
  refine ⟨hS2, ?_⟩
  go_simp
  refine H_take (i := 6) (v := ?_) rfl (by as_aux_lemma => kernel_rfl) (by as_aux_lemma => kernel_rfl) (by as_aux_lemma => kernel_rfl) (fun _ _ _ h => h) (by rfl) hS2 ?_ ?_
  rotate_left
  · intro w' hw'; go_simp; with_reducible rfl
  go_simp
  refine H_take (i := 7) (v := ?_) rfl (by as_aux_lemma => kernel_rfl) (by as_aux_lemma => kernel_rfl) (by as_aux_lemma => kernel_rfl) (fun _ _ _ h => h) (by rfl) hS2 ?_ ?_
  rotate_left
  · intro w' hw'; go_simp; with_reducible rfl
  go_simp
  refine wpAnyH_done (by as_aux_lemma => kernel_rfl) ?_ _
  have HB2 := Lib.hid hS2
  clear r0 r1 r2 r3 r4 r5 r6 hS hS2
  cases ok with
  | false =>
    go_wp2_with fail
    go_ret
    have h1 := take_wrong (L := L) HOK.out.symm
    exact ⟨by rw [h1]; rfl, Only.of_below (HB1.out.trans (HB2.out.mono HB1.out.size)), X, by rw [h1]; exact HH.out.next (HB1.out.trans (HB2.out.mono HB1.out.size)), fun j hj => .inl hj⟩
  | true =>
    have hpk := okPc_iff.1 HOK.out.symm
    have hx2 := old_below HX1.out HB2.out
    obtain ⟨d0, d1, d2, d3, d4, d5, dz⟩ := six_cells hx2
    have hr2 := old_below HR1.out HB2.out
    obtain ⟨⟨-, c1, -, -, -, -, -, -⟩, -, cz⟩ := HpRow.cells hr2
    obtain ⟨hi, hhi⟩ : ∃ hi, hi = hdIdx L := ⟨_, rfl⟩
    rw [← hhi] at c1
    have HHI := Lib.hid hhi
    have HPK := Lib.hid hpk
    have HX2 := Lib.hid hx2
    have HR2 := Lib.hid hr2
    clear hpk hx2 hr2 hhi
    by_cases hgt : hi < p.idx
    · have q1 : decide (hi < p.idx) = true := decide_eq_true hgt
      have HGT := Lib.hid hgt
      clear hgt
      go_wp2_with fail
      go_quiet (fail)
      generalize hWn : World.drewN w2 _ = W3
      have hr3 : HpRow W3 g (.int .i64 most) (.int .i64 (hdIdx L)) (.int .i64 (hdTerm L)) (.int .u32 (hdSum L)) (.int .i64 (hdTot L)) m (missing L) (.bool (wholeB L)) := by rw [← hWn]; exact HR2.out
      have hx3 : W3.heap[w.heap.size]? = some (.cells #[.int .i64 p.idx, .int .i64 p.term, .int .u32 p.sum, .int .i64 p.tot, .int .i64 p.pos, .slice a n c] 35) := by rw [← hWn]; exact HX2.out
      have ho3 : Only (fun k => k = g) w W3 := by rw [← hWn]; exact (Only.of_below (HB1.out.trans (HB2.out.mono HB1.out.size))).then (Only.drewN _ _ _)
      clear hWn d0 d1 d2 d3 d4 d5 dz c1 cz q1
      have HX3 := Lib.hid hx3
      have HO3 := Lib.hid ho3
      have HDR := Lib.hid (DropRow_any g most _ _ _ _ _ _ _ W3 hr3)
      have hgz : g ≠ w.heap.size := fun e => by have := HH.out.lt; omega
      have HGO := Lib.hid fun w1 => GoalOf_any p a n c w1
      clear hr3 hx3 ho3
      go_wp2_with (go_at_call 10; refine (HDR.out).mono ?_; rintro e w4 ⟨rfl, ho4, hh4⟩; have HO4 := Lib.hid (HO3.out.then ho4); have HH4 := Lib.hid hh4; have HX4 := Lib.hid ((ho4.block _ (lt_of_heap HX3.out) (fun e => hgz e.symm)).trans HX3.out); obtain ⟨d0, d1, d2, d3, d4, d5, dz⟩ := six_cells HX4.out; clear ho4 hh4)
      unfold pcAgg at HGO
      refine (HGO.out w4).mono ?_
      rintro e w5 ⟨rfl, hb5⟩
      have hr5 : HpRow w5 g (.int .i64 most) (.int .i64 0) (.int .i64 0) (.int .u32 0) (.int .i64 0) (.map none) 0 (.bool false) := old_below HH4.out hb5
      have HR5 := Lib.hid hr5
      have HX5 := Lib.hid (old_below HX4.out hb5)
      have HO5 := Lib.hid (HO4.out.next hb5)
      clear hb5 d0 d1 d2 d3 d4 d5 dz
      obtain ⟨⟨-, c1, c2, c3, c4, -, -, -⟩, hfz, cz⟩ := hr5.cells
      have f1 := hfz 1
      have f2 := hfz 2
      have f3 := hfz 3
      have f4 := hfz 4
      clear hfz hr5
      unfold goalAgg
      go_wp2_with fail
      obtain ⟨W6, hW6⟩ : ∃ W6, W6 = (((w5.setCell ⟨g, 1, none⟩ (.int .i64 p.idx)).setCell ⟨g, 2, none⟩ (.int .i64 p.term)).setCell ⟨g, 3, none⟩ (.int .u32 p.sum)).setCell ⟨g, 4, none⟩ (.int .i64 p.tot) := ⟨_, rfl⟩
      rw [← hW6]
      have hr6 : HpRow W6 g (.int .i64 most) (.int .i64 p.idx) (.int .i64 p.term) (.int .u32 p.sum) (.int .i64 p.tot) (.map none) 0 (.bool false) := by rw [hW6]; exact HR5.out.put14
      have HO6 : Hid (Only (fun k => X k ∨ k = g) w W6) := Lib.hid (by rw [hW6]; exact (((((HO5.out.mono fun k hk => .inr hk).set (.inl (.inr rfl)) _).set (.inl (.inr rfl)) _).set (.inl (.inr rfl)) _).set (.inl (.inr rfl)) _))
      have HX6 : Hid (W6.heap[w.heap.size]? = some (.cells #[.int .i64 p.idx, .int .i64 p.term, .int .u32 p.sum, .int .i64 p.tot, .int .i64 p.pos, .slice a n c] 35)) := Lib.hid (by rw [hW6]; exact old_set (old_set (old_set (old_set HX5.out (fun e => hgz e.symm)) (fun e => hgz e.symm)) (fun e => hgz e.symm)) (fun e => hgz e.symm))
      have htk : takeE most L p = layE [] p := by
        cases L with
        | nil => exact take_first HOK.out.symm
        | cons f L => exact take_newer HOK.out.symm (by have := HGT.out; have := HHI.out; simp only [hdIdx] at this; omega)
      obtain ⟨hd, hhd⟩ : ∃ hd, hd = p := ⟨_, rfl⟩
      obtain ⟨M, hM⟩ : ∃ M : List Pc, M = [] := ⟨_, rfl⟩
      obtain ⟨L0, hL0⟩ : ∃ L0 : List Pc, L0 = [] := ⟨_, rfl⟩
      obtain ⟨all0, hall0⟩ : ∃ all0, all0 = false := ⟨_, rfl⟩
      obtain ⟨Xl, hXl⟩ : ∃ Xl : Nat → Prop, Xl = fun _ => False := ⟨_, rfl⟩
      obtain ⟨nbl, hnbl⟩ : ∃ nbl : Nat, nbl = 0 := ⟨_, rfl⟩
      obtain ⟨fl, hfl⟩ : ∃ fl : Nat → Option UInt8, fl = fun _ => none := ⟨_, rfl⟩
      obtain ⟨pos, hpos⟩ : ∃ pos, pos = p.pos.toNat := ⟨_, rfl⟩
      have HPOS : Hid ((pos : Int) = p.pos) := Lib.hid (by rw [hpos]; have := HPK.out.2.2.2.2.1; omega)
      have HTD : Hid ((L0 ++ [p] = hd :: M ∧ HPre most (hd :: M)) ∧ p.sum = hd.sum ∧ all0 = wholeB L0 ∧ HInv most L0 ∧ (∀ q ∈ L0, alike p q = true) ∧ 0 ≤ hd.sum ∧ 0 ≤ hd.tot ∧ hd.tot ≤ 1000 ∧ takeE most L p = layE L0 p) := Lib.hid (by
        rw [hhd, hM, hL0, hall0]
        refine ⟨⟨rfl, ?_⟩, rfl, rfl, HInv.nil _, fun q hq => (by cases hq), HSU.out, HPK.out.2.1, HTO.out, htk⟩
        exact HPre.snoc (HInv.nil most).pre HOK.out.symm fun q hq => by cases hq)
      have HNBL : Hid (nbl + 1000 ≤ 1000 * (hd :: M).length) := Lib.hid (by rw [hnbl, List.length_cons]; omega)
      have HXL : Hid (∀ j, Xl j → X j) := Lib.hid fun j hj => by rw [hXl] at hj; exact hj.elim
      have HBY : Hid (ov fl pos p.b = byteL (hd :: M)) := Lib.hid (by rw [hfl, hpos, hhd, hM]; rfl)
      have HLC : Hid (Calls Tryd.prog 33 #[.pointer (some ⟨g, 5, none⟩), .int .i64 p.pos, .slice a n c] W6.drew (LayPost W6.drew Xl g nbl (.int .i64 most) (.int .i64 hd.idx) (.int .i64 hd.term) (.int .u32 hd.sum) (.int .i64 hd.tot) (.bool all0) pos p.b fl)) := Lib.hid (by
        rw [hXl, hnbl, hfl, hhd, hall0, ← HPOS.out]
        have hF6 : ∀ k, F k → k < W6.drew.heap.size ∧ k ≠ g := fun k hk => ⟨Nat.lt_of_lt_of_le (HF.out k hk).1 HO6.out.size, (HF.out k hk).2.2⟩
        have hv6 : RepB W6.drew F p.b (.slice a n c) := by
          have h1 := HV.out.same (fun _ h => h) (fun k hk => HO6.out.block k (HF.out k hk).1 (by rintro (h | h); exact (HF.out k hk).2.1 h; exact (HF.out k hk).2.2 h)) (w' := W6.drew)
          rw [← HN.out] at h1
          exact h1
        have hpk := HPK.out.2
        have := HTO.out
        have := HN.out
        exact LayNew_any W6.drew g _ _ _ _ _ _ hr6 pos p.b F _ hv6 hF6 (by have := HPOS.out; omega) (by omega) (Lib.hid (hTz.out.only (X := fun k => X k ∨ k = g) HO6.out.drawn (by rintro (h | h); exact HX0.out.2.2.1 h; exact HX0.out.2.2.2 h.symm))) HX0.out.2.2.2)
      clear hW6 hr6 htk hhd hM hL0 hall0 hXl hnbl hfl hpos c1 c2 c3 c4 f1 f2 f3 f4 cz hgz
      obtain ⟨d0, d1, d2, d3, d4, d5, dz⟩ := six_cells HX6.out
      have hxz : ¬ (X w.heap.size ∨ w.heap.size = g) := by
        rintro (h | h)
        · have := HH.out.2.2 _ h; omega
        · have := HH.out.lt; omega
      have keep6 : ∀ {o : Nat} {u : Value}, W6.cell? ⟨w.heap.size, o, none⟩ = some u → ∀ w', Only (fun k => X k ∨ k = g) W6 w' → w'.cell? ⟨w.heap.size, o, none⟩ = some u := fun {o u} hv w' hb => (cell_only hb dz hxz o).trans hv
      have r4 := keep6 d4
      have r5 := keep6 d5
      have hS : Only (fun k => X k ∨ k = g) W6 W6.drew := (Only.refl _ _).drawn
      clear keep6 d0 d1 d2 d3 d4 d5 dz
      go_wp2_with fail
      refine wp_region_held (S := fun w' => Only (fun k => X k ∨ k = g) W6 w') (by kernel_rfl) ?_
      refine H_take (i := 0) (v := ?_) rfl (by as_aux_lemma => kernel_rfl) (by as_aux_lemma => kernel_rfl) (by as_aux_lemma => kernel_rfl) (fun _ _ _ h => h) (by rfl) hS ?_ ?_
      rotate_left
      · intro w' hw'; go_simp; with_reducible rfl
      go_simp
      refine H_take (i := 1) (v := ?_) rfl (by as_aux_lemma => kernel_rfl) (by as_aux_lemma => kernel_rfl) (by as_aux_lemma => kernel_rfl) (fun _ _ _ h => h) (by rfl) hS ?_ ?_
      rotate_left
      · intro w' hw'; go_simp; with_reducible rfl
      go_simp
      refine H_take (i := 2) (v := ?_) rfl (by as_aux_lemma => kernel_rfl) (by as_aux_lemma => kernel_rfl) (by as_aux_lemma => kernel_rfl) (fun _ _ _ h => h) (by rfl) hS ?_ ?_
      rotate_left
      · intro w' hw'; go_simp; with_reducible rfl
      go_simp
      refine H_take (i := 3) (v := ?_) rfl (by as_aux_lemma => kernel_rfl) (by as_aux_lemma => kernel_rfl) (by as_aux_lemma => kernel_rfl) (fun _ _ _ h => h) (by rfl) hS ?_ ?_
      rotate_left
      · intro w' hw'; go_simp; with_reducible rfl
      go_simp
      refine H_take (i := 4) (v := ?_) rfl (by as_aux_lemma => kernel_rfl) (by as_aux_lemma => kernel_rfl) (by as_aux_lemma => kernel_rfl) (fun _ _ _ h => h) (by rfl) hS ?_ ?_
      rotate_left
      · intro w' hw'; go_simp; with_reducible rfl
      go_simp
      refine H_take (i := 5) (v := ?_) rfl (by as_aux_lemma => kernel_rfl) (by as_aux_lemma => kernel_rfl) (by as_aux_lemma => kernel_rfl) (fun _ _ _ h => h) (by rfl) hS ?_ ?_
      rotate_left
      · intro w' hw'; go_simp; with_reducible rfl
      go_simp
      refine H_take (i := 6) (v := ?_) rfl (by as_aux_lemma => kernel_rfl) (by as_aux_lemma => kernel_rfl) (by as_aux_lemma => kernel_rfl) (fun _ _ _ h => h) (by rfl) hS ?_ ?_
      rotate_left
      · intro w' hw'; go_simp; with_reducible rfl
      go_simp
      refine H_one (i := 7) (by as_aux_lemma => kernel_rfl) rfl (by rfl) ?_
      go_simp
      refine (HLC.out).mono ?_
      rintro e w7 ⟨rfl, ho7, Y, gm', nb', fj, ⟨M', S', E', T', bs', hat7⟩, hnb7, hY7, hYg7, hr7, h71, h72⟩
      rw [HBY.out] at hat7 h71 h72
      have hS7 : Only (fun k => X k ∨ k = g) W6 w7 := hS.then (ho7.mono fun j hj => by
        rcases hj with h | h
        · exact .inl (HXL.out j h)
        · exact .inr h)
      refine ⟨hS7, ?_⟩
      go_simp
      refine wpAnyH_done (by as_aux_lemma => kernel_rfl) ?_ _
      obtain ⟨sm, hsm⟩ : ∃ sm : Nat, (sm : Int) = hd.sum := ⟨hd.sum.toNat, by have := HTD.out.2.2.2.2.2.1; omega⟩
      obtain ⟨tt, htt⟩ : ∃ tt : Nat, (tt : Int) = hd.tot := ⟨hd.tot.toNat, by have := HTD.out.2.2.2.2.2.2.1; omega⟩
      have hfj : fj ≤ 1000 := by
        have h1 := HTD.out.1.2.missing_is h71 h72
        have h2 := (missing_spec (hd :: M)).1
        have h3 := HTD.out.2.2.2.2.2.2.2.1
        have h4 : totN (hd :: M) = hd.tot.toNat := rfl
        omega
      rw [← hsm, ← htt] at hr7
      have HO7 := Lib.hid (HO6.out.then hS7)
      have HCK := Lib.hid (Check_any w7 Y g gm' nb' fj sm tt most hd.idx hd.term all0 M' S' E' T' bs' (byteL (hd :: M)) hat7 hr7 h71 (by omega) (Lib.hid (hT.out.only7 HO7.out (by rintro (h | h); exact HX0.out.1 h; exact HX0.out.2.1 h.symm))))
      have HEND : Hid (∀ e w8, CkPost w7 g most hd.idx hd.term sm tt fj gm' all0 (bytesOf (byteL (hd :: M)) fj) e w8 → e = .returned (.int .i64 (takeE most L p).1) ∧ TakePost w X g most L p (.returned (.int .i64 (takeE most L p).1)) w8) := Lib.hid fun e w8 hck => by
        obtain ⟨t1, t2, t3, t4, t5, -, -, -, t9⟩ := HTD.out
        obtain ⟨he, Z, hz1, hz2⟩ := take_done t1.1 t1.2 t2 hsm htt t3 t4 HOK.out.symm t5 ⟨M', S', E', T', bs', hat7⟩ (by have := HNBL.out; have := HN.out; omega) hYg7 (fun j hj => by
          rcases hY7 j hj with h | h
          · exact Nat.lt_of_lt_of_le (HH.out.2.2 j (HXL.out j h)) HO7.out.size
          · exact h.2) h71 h72 hck
        rw [t9]
        refine ⟨he, by rw [t9], HO7.out.then (hck.1.mono fun j hj => .inr hj), Z, by rw [t9]; exact hz1, fun j hj => ?_⟩
        rcases hY7 j (hz2 j hj) with h | h
        · exact .inl (HXL.out j h)
        · exact .inr (Nat.le_trans HO6.out.size h.1)
      clear r4 r5 hS hS7 ho7 hat7 hnb7 hY7 hYg7 hr7 h71 h72 hsm htt hfj hxz
      go_wp2_with (go_at_call 34; refine (HCK.out).mono ?_; rintro e w8 hck; obtain ⟨rfl, hfin⟩ := HEND.out e w8 hck; have HFIN := Lib.hid hfin; clear hck hfin)
      go_ret
      exact HFIN.out
    · cases L with
      | nil => exact absurd (by rw [HHI.out]; show (0 : Int) < p.idx; have := HPK.out.1.1; omega) hgt
      | cons f L' =>
        have q1 : decide (hi < p.idx) = false := decide_eq_false hgt
        have HGT : Hid (p.idx ≤ f.idx) := Lib.hid (by have := HHI.out; simp only [hdIdx] at this; omega)
        clear hgt
        go_wp2_with fail
        go_quiet (fail)
        generalize hWn : World.drewN w2 _ = W3
        have hr3 : HpRow W3 g (.int .i64 most) (.int .i64 f.idx) (.int .i64 f.term) (.int .u32 f.sum) (.int .i64 f.tot) m (missing (f :: L')) (.bool (wholeB (f :: L'))) := by rw [← hWn]; exact HR2.out
        have hx3 : W3.heap[w.heap.size]? = some (.cells #[.int .i64 p.idx, .int .i64 p.term, .int .u32 p.sum, .int .i64 p.tot, .int .i64 p.pos, .slice a n c] 35) := by rw [← hWn]; exact HX2.out
        have ho3 : Only (fun k => k = g) w W3 := by rw [← hWn]; exact (Only.of_below (HB1.out.trans (HB2.out.mono HB1.out.size))).then (Only.drewN _ _ _)
        have hb3 : Below w.heap.size w W3 := by rw [← hWn]; exact (HB1.out.trans (HB2.out.mono HB1.out.size)).trans ⟨rfl, rfl, rfl, Nat.le_refl _, fun _ _ => rfl⟩
        clear hWn d0 d1 d2 d3 d4 d5 dz c1 cz q1
        obtain ⟨d0, d1, d2, d3, d4, d5, dz⟩ := six_cells hx3
        obtain ⟨⟨-, c1, c2, c3, c4, -, -, -⟩, -, cz⟩ := hr3.cells
        have keep : ∀ {q o : Nat} {u : Value}, q < W3.heap.size → W3.cell? ⟨q, o, none⟩ = some u → ∀ w', Below W3.heap.size W3 w' → w'.cell? ⟨q, o, none⟩ = some u := fun {q o u} hq hv w' hb => (World.cell?_of_block (a := ⟨q, o, none⟩) (hb.block q hq)).trans hv
        have r0 := keep dz d0
        have r1 := keep dz d1
        have r2 := keep dz d2
        have r3 := keep dz d3
        have r4 := keep dz d4
        have r5 := keep dz d5
        have s1 := keep cz c1
        have s2 := keep cz c2
        have s3 := keep cz c3
        have s4 := keep cz c4
        have hS : Below W3.heap.size W3 W3.drew := (Below.refl _ _).drew
        have HX3 := Lib.hid hx3
        have HB3 := Lib.hid hb3
        have HR3 := Lib.hid hr3
        have HGO := Lib.hid (GoalOf_any p a n c W3.drew)
        obtain ⟨al, hal⟩ : ∃ al, al = alike p f := ⟨_, rfl⟩
        have heq : ∀ w', (Op.equalIn 10000 59 (goalAgg p) (goalAgg f)).run Tryd.prog w' = .ok al w' := fun w' => by rw [hal]; exact eqGoal_any p f w'
        have HAL := Lib.hid hal
        unfold goalAgg at heq
        unfold pcAgg goalAgg at HGO
        clear keep d0 d1 d2 d3 d4 d5 dz c1 c2 c3 c4 cz hx3 hr3 hb3 ho3 hal
        go_wp2_with fail
        refine wp_region_held (S := fun w' => Below W3.heap.size W3 w') (by kernel_rfl) ?_
        refine H_take (i := 0) (v := ?_) rfl (by as_aux_lemma => kernel_rfl) (by as_aux_lemma => kernel_rfl) (by as_aux_lemma => kernel_rfl) (fun _ _ _ h => h) (by rfl) hS ?_ ?_
        rotate_left
        · intro w' hw'; go_simp; with_reducible rfl
        go_simp
        refine H_take (i := 2) (v := ?_) rfl (by as_aux_lemma => kernel_rfl) (by as_aux_lemma => kernel_rfl) (by as_aux_lemma => kernel_rfl) (fun _ _ _ h => h) (by rfl) hS ?_ ?_
        rotate_left
        · intro w' hw'; go_simp; with_reducible rfl
        go_simp
        refine H_take (i := 3) (v := ?_) rfl (by as_aux_lemma => kernel_rfl) (by as_aux_lemma => kernel_rfl) (by as_aux_lemma => kernel_rfl) (fun _ _ _ h => h) (by rfl) hS ?_ ?_
        rotate_left
        · intro w' hw'; go_simp; with_reducible rfl
        go_simp
        refine H_take (i := 4) (v := ?_) rfl (by as_aux_lemma => kernel_rfl) (by as_aux_lemma => kernel_rfl) (by as_aux_lemma => kernel_rfl) (fun _ _ _ h => h) (by rfl) hS ?_ ?_
        rotate_left
        · intro w' hw'; go_simp; with_reducible rfl
        go_simp
        refine H_take (i := 5) (v := ?_) rfl (by as_aux_lemma => kernel_rfl) (by as_aux_lemma => kernel_rfl) (by as_aux_lemma => kernel_rfl) (fun _ _ _ h => h) (by rfl) hS ?_ ?_
        rotate_left
        · intro w' hw'; go_simp; with_reducible rfl
        go_simp
        refine H_one (i := 1) (by as_aux_lemma => kernel_rfl) rfl (by rfl) ?_
        go_simp
        refine (HGO.out).mono ?_
        rintro e w4 ⟨rfl, hb4⟩
        have hS4 : Below W3.heap.size W3 w4 := hS.trans hb4
        clear hb4
        refine ⟨hS4, ?_⟩
        go_simp
        refine H_take (i := 6) (v := ?_) rfl (by as_aux_lemma => kernel_rfl) (by as_aux_lemma => kernel_rfl) (by as_aux_lemma => kernel_rfl) (fun _ _ _ h => h) (by rfl) hS4 ?_ ?_
        rotate_left
        · intro w' hw'; go_simp; with_reducible rfl
        go_simp
        refine H_take (i := 7) (v := ?_) rfl (by as_aux_lemma => kernel_rfl) (by as_aux_lemma => kernel_rfl) (by as_aux_lemma => kernel_rfl) (fun _ _ _ h => h) (by rfl) hS4 ?_ ?_
        rotate_left
        · intro w' hw'; go_simp; with_reducible rfl
        go_simp
        refine wpAnyH_done (by as_aux_lemma => kernel_rfl) ?_ _
        have HB4 := Lib.hid hS4
        clear r0 r1 r2 r3 r4 r5 s1 s2 s3 s4 hS hS4 heq
        cases al with
        | false =>
          go_wp2_with fail
          go_ret
          have h1 := take_stale (L := L') HOK.out.symm HGT.out HAL.out.symm
          have hb : Below w.heap.size w w4 := HB3.out.trans (HB4.out.mono HB3.out.size)
          exact ⟨by rw [h1]; rfl, Only.of_below hb, X, by rw [h1]; exact HH.out.next hb, fun j hj => .inl hj⟩
        | true =>
          have hb : Below w.heap.size w w4 := HB3.out.trans (HB4.out.mono HB3.out.size)
          have hh4 := HH.out.next hb
          obtain ⟨⟨gm, nb, hr4, ⟨M0, S0, E0, T0, bs0, hat4⟩, hnb4⟩, hXg, hXl⟩ := hh4
          have hx4 := old_below HX3.out HB4.out
          obtain ⟨d0, d1, d2, d3, d4, d5, dz⟩ := six_cells hx4
          obtain ⟨⟨-, -, -, -, -, c5, -, -⟩, -, cz⟩ := hr4.cells
          have keep : ∀ {q o : Nat} {u : Value}, q < w4.heap.size → w4.cell? ⟨q, o, none⟩ = some u → ∀ w', Below w4.heap.size w4 w' → w'.cell? ⟨q, o, none⟩ = some u := fun {q o u} hq hv w' hb => (World.cell?_of_block (a := ⟨q, o, none⟩) (hb.block q hq)).trans hv
          have r4 := keep dz d4
          have r5 := keep dz d5
          have hS : Below w4.heap.size w4 w4.drew := (Below.refl _ _).drew
          obtain ⟨pos, hpos⟩ : ∃ pos, pos = p.pos.toNat := ⟨_, rfl⟩
          have HPOS : Hid ((pos : Int) = p.pos) := Lib.hid (by rw [hpos]; have := HPK.out.2.2.2.2.1; omega)
          have hv4 : RepB w4.drew F p.b (.slice a n c) := by
            have h1 := HV.out.same (fun _ h => h) (fun k hk => hb.block k (HF.out k hk).1) (w' := w4.drew)
            rw [← HN.out] at h1
            exact h1
          have hpl : pos ≤ 1000 := by
            have h1 := HPK.out.2
            have := HTO.out
            have := HPOS.out
            omega
          have HCL := Lib.hid (HeldClashes_any w4.drew X g 5 gm nb M0 S0 E0 T0 bs0 (byteL (f :: L')) (hat4.same (Nat.le_refl _) (fun _ h => h) fun _ _ _ => rfl) c5 pos p.b F _ hv4 (fun k hk => Nat.lt_of_lt_of_le (HF.out k hk).1 hb.size) (by omega) (by have := HN.out; omega))
          obtain ⟨cl, hcl⟩ : ∃ cl, cl = clashAt (byteL (f :: L')) pos p.b := ⟨_, rfl⟩
          rw [HPOS.out, ← hcl] at HCL
          rw [hpos] at hcl
          have HCE := Lib.hid hcl
          have HB5 := Lib.hid hb
          have HX5 := Lib.hid hx4
          have HPL := Lib.hid hpl
          have HPS := Lib.hid hpos
          clear keep d0 d1 d2 d3 d4 d5 dz c5 cz hb hr4 hat4 hnb4 hXg hXl hx4 hv4 hcl hpl hpos
          go_wp2_with fail
          refine wp_region_held (S := fun w' => Below w4.heap.size w4 w') (by kernel_rfl) ?_
          refine H_take (i := 0) (v := ?_) rfl (by as_aux_lemma => kernel_rfl) (by as_aux_lemma => kernel_rfl) (by as_aux_lemma => kernel_rfl) (fun _ _ _ h => h) (by rfl) hS ?_ ?_
          rotate_left
          · intro w' hw'; go_simp; with_reducible rfl
          go_simp
          refine H_take (i := 1) (v := ?_) rfl (by as_aux_lemma => kernel_rfl) (by as_aux_lemma => kernel_rfl) (by as_aux_lemma => kernel_rfl) (fun _ _ _ h => h) (by rfl) hS ?_ ?_
          rotate_left
          · intro w' hw'; go_simp; with_reducible rfl
          go_simp
          refine H_take (i := 2) (v := ?_) rfl (by as_aux_lemma => kernel_rfl) (by as_aux_lemma => kernel_rfl) (by as_aux_lemma => kernel_rfl) (fun _ _ _ h => h) (by rfl) hS ?_ ?_
          rotate_left
          · intro w' hw'; go_simp; with_reducible rfl
          go_simp
          refine H_take (i := 3) (v := ?_) rfl (by as_aux_lemma => kernel_rfl) (by as_aux_lemma => kernel_rfl) (by as_aux_lemma => kernel_rfl) (fun _ _ _ h => h) (by rfl) hS ?_ ?_
          rotate_left
          · intro w' hw'; go_simp; with_reducible rfl
          go_simp
          refine H_take (i := 4) (v := ?_) rfl (by as_aux_lemma => kernel_rfl) (by as_aux_lemma => kernel_rfl) (by as_aux_lemma => kernel_rfl) (fun _ _ _ h => h) (by rfl) hS ?_ ?_
          rotate_left
          · intro w' hw'; go_simp; with_reducible rfl
          go_simp
          refine H_take (i := 5) (v := ?_) rfl (by as_aux_lemma => kernel_rfl) (by as_aux_lemma => kernel_rfl) (by as_aux_lemma => kernel_rfl) (fun _ _ _ h => h) (by rfl) hS ?_ ?_
          rotate_left
          · intro w' hw'; go_simp; with_reducible rfl
          go_simp
          refine H_take (i := 6) (v := ?_) rfl (by as_aux_lemma => kernel_rfl) (by as_aux_lemma => kernel_rfl) (by as_aux_lemma => kernel_rfl) (fun _ _ _ h => h) (by rfl) hS ?_ ?_
          rotate_left
          · intro w' hw'; go_simp; with_reducible rfl
          go_simp
          refine H_one (i := 7) (by as_aux_lemma => kernel_rfl) rfl (by rfl) ?_
          go_simp
          refine (HCL.out).mono ?_
          rintro e w5 ⟨rfl, hb5⟩
          have hS5 : Below w4.heap.size w4 w5 := hS.trans hb5
          clear hb5
          refine ⟨hS5, ?_⟩
          go_simp
          refine H_take (i := 8) (v := ?_) rfl (by as_aux_lemma => kernel_rfl) (by as_aux_lemma => kernel_rfl) (by as_aux_lemma => kernel_rfl) (fun _ _ _ h => h) (by rfl) hS5 ?_ ?_
          rotate_left
          · intro w' hw'; go_simp; with_reducible rfl
          go_simp
          refine wpAnyH_done (by as_aux_lemma => kernel_rfl) ?_ _
          have HB6 : Hid (Below w.heap.size w w5) := Lib.hid (HB5.out.trans (hS5.mono HB5.out.size))
          have HX6 := Lib.hid (old_below HX5.out hS5)
          clear r4 r5 hS hS5
          cases cl with
          | true =>
            go_wp2_with fail
            go_ret
            have h1 := take_clash (L := L') HOK.out.symm HAL.out.symm HCE.out.symm
            exact ⟨by rw [h1]; rfl, Only.of_below HB6.out, X, by rw [h1]; exact HH.out.next HB6.out, fun j hj => .inl hj⟩
          | false =>
            obtain ⟨W6, hW6⟩ : ∃ W6, W6 = w5 := ⟨_, rfl⟩
            subst hW6
            have htk : takeE most (f :: L') p = layE (f :: L') p := take_lay HOK.out.symm HAL.out.symm HCE.out.symm
            have HO6 : Hid (Only (fun k => X k ∨ k = g) w W6) := Lib.hid (Only.of_below HB6.out)
            obtain ⟨hd, hhd⟩ : ∃ hd, hd = f := ⟨_, rfl⟩
            obtain ⟨M, hM⟩ : ∃ M : List Pc, M = L' ++ [p] := ⟨_, rfl⟩
            obtain ⟨L0, hL0⟩ : ∃ L0 : List Pc, L0 = f :: L' := ⟨_, rfl⟩
            obtain ⟨all0, hall0⟩ : ∃ all0, all0 = wholeB (f :: L') := ⟨_, rfl⟩
            obtain ⟨Xl, hXl⟩ : ∃ Xl : Nat → Prop, Xl = X := ⟨_, rfl⟩
            obtain ⟨⟨gm6, nb6, hr6, ⟨M6, S6, E6, T6, bs6, hat6⟩, hnb6⟩, hXg6, hXl6⟩ := HH.out.next HB6.out
            obtain ⟨nbl, hnbl⟩ : ∃ nbl : Nat, nbl = nb6 := ⟨_, rfl⟩
            obtain ⟨fl, hfl⟩ : ∃ fl : Nat → Option UInt8, fl = byteL (f :: L') := ⟨_, rfl⟩
            have hfok := okPc_iff.1 (HI.out.ok f (by simp))
            obtain ⟨k1, k2, k3, k4⟩ := alike_iff.1 HAL.out.symm
            have HTD : Hid ((L0 ++ [p] = hd :: M ∧ HPre most (hd :: M)) ∧ p.sum = hd.sum ∧ all0 = wholeB L0 ∧ HInv most L0 ∧ (∀ q ∈ L0, alike p q = true) ∧ 0 ≤ hd.sum ∧ 0 ≤ hd.tot ∧ hd.tot ≤ 1000 ∧ takeE most (f :: L') p = layE L0 p) := Lib.hid (by
              rw [hhd, hM, hL0, hall0]
              have h1 := HI.out.alike_all HAL.out.symm
              refine ⟨⟨rfl, ?_⟩, k3, rfl, HI.out, h1, by rw [← k3]; exact HSU.out, hfok.2.1, by rw [← k4]; exact HTO.out, htk⟩
              exact HI.out.pre.snoc HOK.out.symm h1)
            have HNBL : Hid (nbl + 1000 ≤ 1000 * (hd :: M).length) := Lib.hid (by rw [hnbl, hM]; simp only [List.length_cons, List.length_append, List.length_nil] at hnb6 ⊢; omega)
            have HXL : Hid (∀ j, Xl j → X j) := Lib.hid fun j hj => by rw [hXl] at hj; exact hj
            have HBY : Hid (ov fl pos p.b = byteL (hd :: M)) := Lib.hid (by rw [hfl, hhd, hM, HPS.out]; exact (ov_byteL HCE.out.symm).symm)
            have HLC : Hid (Calls Tryd.prog 33 #[.pointer (some ⟨g, 5, none⟩), .int .i64 p.pos, .slice a n c] W6.drew (LayPost W6.drew Xl g nbl (.int .i64 most) (.int .i64 hd.idx) (.int .i64 hd.term) (.int .u32 hd.sum) (.int .i64 hd.tot) (.bool all0) pos p.b fl)) := Lib.hid (by
              rw [hXl, hnbl, hfl, hhd, hall0, ← HPOS.out]
              have hF6 : ∀ k, F k → k < W6.drew.heap.size ∧ ¬ X k ∧ k ≠ g := fun k hk => ⟨Nat.lt_of_lt_of_le (HF.out k hk).1 HO6.out.size, (HF.out k hk).2⟩
              have hv6 : RepB W6.drew F p.b (.slice a n c) := by
                have h1 := HV.out.same (fun _ h => h) (fun k hk => HB6.out.block k (HF.out k hk).1) (w' := W6.drew)
                rw [← HN.out] at h1
                exact h1
              have := HN.out
              have := HPL.out
              have := HLN.out
              have htf : totN (f :: L') ≤ 1000 := by show f.tot.toNat ≤ 1000; have := HTO.out; omega
              exact LayOn_any W6.drew X g gm6 nb6 (missing (f :: L')) _ _ _ _ _ _ M6 S6 E6 T6 bs6 (byteL (f :: L')) (hat6.same (Nat.le_refl _) (fun _ h => h) fun _ _ _ => rfl) ⟨hXg6, hXl6⟩ hr6 (by simp only [List.length_cons] at hnb6 this; omega) pos p.b F _ hv6 hF6 (by omega) (by omega) (Lib.hid (hTz.out.only (X := fun k => X k ∨ k = g) HO6.out.drawn (by rintro (h | h); exact HX0.out.2.2.1 h; exact HX0.out.2.2.2 h.symm))) ⟨HX0.out.2.2.2, HX0.out.2.2.1⟩ (missing_spec (f :: L')).2.1 (fun k hk => by have := HI.out.pre.below hk; omega))
            clear htk hhd hM hL0 hall0 hXl hr6 hat6 hnb6 hXg6 hXl6 hnbl hfl hfok k1 k2 k3 k4
            obtain ⟨d0, d1, d2, d3, d4, d5, dz⟩ := six_cells HX6.out
            have hxz : ¬ (X w.heap.size ∨ w.heap.size = g) := by
              rintro (h | h)
              · have := HH.out.2.2 _ h; omega
              · have := HH.out.lt; omega
            have keep6 : ∀ {o : Nat} {u : Value}, W6.cell? ⟨w.heap.size, o, none⟩ = some u → ∀ w', Only (fun k => X k ∨ k = g) W6 w' → w'.cell? ⟨w.heap.size, o, none⟩ = some u := fun {o u} hv w' hb => (cell_only hb dz hxz o).trans hv
            have r4 := keep6 d4
            have r5 := keep6 d5
            have hS : Only (fun k => X k ∨ k = g) W6 W6.drew := (Only.refl _ _).drawn
            clear keep6 d0 d1 d2 d3 d4 d5 dz
            go_wp2_with fail
            refine wp_region_held (S := fun w' => Only (fun k => X k ∨ k = g) W6 w') (by kernel_rfl) ?_
            refine H_take (i := 0) (v := ?_) rfl (by as_aux_lemma => kernel_rfl) (by as_aux_lemma => kernel_rfl) (by as_aux_lemma => kernel_rfl) (fun _ _ _ h => h) (by rfl) hS ?_ ?_
            rotate_left
            · intro w' hw'; go_simp; with_reducible rfl
            go_simp
            refine H_take (i := 1) (v := ?_) rfl (by as_aux_lemma => kernel_rfl) (by as_aux_lemma => kernel_rfl) (by as_aux_lemma => kernel_rfl) (fun _ _ _ h => h) (by rfl) hS ?_ ?_
            rotate_left
            · intro w' hw'; go_simp; with_reducible rfl
            go_simp
            refine H_take (i := 2) (v := ?_) rfl (by as_aux_lemma => kernel_rfl) (by as_aux_lemma => kernel_rfl) (by as_aux_lemma => kernel_rfl) (fun _ _ _ h => h) (by rfl) hS ?_ ?_
            rotate_left
            · intro w' hw'; go_simp; with_reducible rfl
            go_simp
            refine H_take (i := 3) (v := ?_) rfl (by as_aux_lemma => kernel_rfl) (by as_aux_lemma => kernel_rfl) (by as_aux_lemma => kernel_rfl) (fun _ _ _ h => h) (by rfl) hS ?_ ?_
            rotate_left
            · intro w' hw'; go_simp; with_reducible rfl
            go_simp
            refine H_take (i := 4) (v := ?_) rfl (by as_aux_lemma => kernel_rfl) (by as_aux_lemma => kernel_rfl) (by as_aux_lemma => kernel_rfl) (fun _ _ _ h => h) (by rfl) hS ?_ ?_
            rotate_left
            · intro w' hw'; go_simp; with_reducible rfl
            go_simp
            refine H_take (i := 5) (v := ?_) rfl (by as_aux_lemma => kernel_rfl) (by as_aux_lemma => kernel_rfl) (by as_aux_lemma => kernel_rfl) (fun _ _ _ h => h) (by rfl) hS ?_ ?_
            rotate_left
            · intro w' hw'; go_simp; with_reducible rfl
            go_simp
            refine H_take (i := 6) (v := ?_) rfl (by as_aux_lemma => kernel_rfl) (by as_aux_lemma => kernel_rfl) (by as_aux_lemma => kernel_rfl) (fun _ _ _ h => h) (by rfl) hS ?_ ?_
            rotate_left
            · intro w' hw'; go_simp; with_reducible rfl
            go_simp
            refine H_one (i := 7) (by as_aux_lemma => kernel_rfl) rfl (by rfl) ?_
            go_simp
            refine (HLC.out).mono ?_
            rintro e w7 ⟨rfl, ho7, Y, gm', nb', fj, ⟨M', S', E', T', bs', hat7⟩, hnb7, hY7, hYg7, hr7, h71, h72⟩
            rw [HBY.out] at hat7 h71 h72
            have hS7 : Only (fun k => X k ∨ k = g) W6 w7 := hS.then (ho7.mono fun j hj => by
              rcases hj with h | h
              · exact .inl (HXL.out j h)
              · exact .inr h)
            refine ⟨hS7, ?_⟩
            go_simp
            refine wpAnyH_done (by as_aux_lemma => kernel_rfl) ?_ _
            obtain ⟨sm, hsm⟩ : ∃ sm : Nat, (sm : Int) = hd.sum := ⟨hd.sum.toNat, by have := HTD.out.2.2.2.2.2.1; omega⟩
            obtain ⟨tt, htt⟩ : ∃ tt : Nat, (tt : Int) = hd.tot := ⟨hd.tot.toNat, by have := HTD.out.2.2.2.2.2.2.1; omega⟩
            have hfj : fj ≤ 1000 := by
              have h1 := HTD.out.1.2.missing_is h71 h72
              have h2 := (missing_spec (hd :: M)).1
              have h3 := HTD.out.2.2.2.2.2.2.2.1
              have h4 : totN (hd :: M) = hd.tot.toNat := rfl
              omega
            rw [← hsm, ← htt] at hr7
            have HO7 := Lib.hid (HO6.out.then hS7)
            have HCK := Lib.hid (Check_any w7 Y g gm' nb' fj sm tt most hd.idx hd.term all0 M' S' E' T' bs' (byteL (hd :: M)) hat7 hr7 h71 (by omega) (Lib.hid (hT.out.only7 HO7.out (by rintro (h | h); exact HX0.out.1 h; exact HX0.out.2.1 h.symm))))
            have HEND : Hid (∀ e w8, CkPost w7 g most hd.idx hd.term sm tt fj gm' all0 (bytesOf (byteL (hd :: M)) fj) e w8 → e = .returned (.int .i64 (takeE most (f :: L') p).1) ∧ TakePost w X g most (f :: L') p (.returned (.int .i64 (takeE most (f :: L') p).1)) w8) := Lib.hid fun e w8 hck => by
              obtain ⟨t1, t2, t3, t4, t5, -, -, -, t9⟩ := HTD.out
              obtain ⟨he, Z, hz1, hz2⟩ := take_done t1.1 t1.2 t2 hsm htt t3 t4 HOK.out.symm t5 ⟨M', S', E', T', bs', hat7⟩ (by have := HNBL.out; have := HN.out; omega) hYg7 (fun j hj => by
                rcases hY7 j hj with h | h
                · exact Nat.lt_of_lt_of_le (HH.out.2.2 j (HXL.out j h)) HO7.out.size
                · exact h.2) h71 h72 hck
              rw [t9]
              refine ⟨he, by rw [t9], HO7.out.then (hck.1.mono fun j hj => .inr hj), Z, by rw [t9]; exact hz1, fun j hj => ?_⟩
              rcases hY7 j (hz2 j hj) with h | h
              · exact .inl (HXL.out j h)
              · exact .inr (Nat.le_trans HO6.out.size h.1)
            clear r4 r5 hS hS7 ho7 hat7 hnb7 hY7 hYg7 hr7 h71 h72 hsm htt hfj hxz
            go_wp2_with (go_at_call 34; refine (HCK.out).mono ?_; rintro e w8 hck; obtain ⟨rfl, hfin⟩ := HEND.out e w8 hck; have HFIN := Lib.hid hfin; clear hck hfin)
            go_ret
            exact HFIN.out
end Go.Proofs.YtdngfbljcmbniaaDoor.M

/- Part: ChL. -/
namespace Go.Proofs.YtdngfbljcmbniaaDoor.M
open Go.RowKit Go.Maps

/-- Pieces in memory. -/
def RepPs (w : World) (F : Nat → Prop) (ps : List Pc) (v : Value) : Prop :=
  (ps = [] ∧ ∃ a c, v = .slice a 0 c) ∨ ∃ b off c, v = .slice (some ⟨b, off, none⟩) ps.length c ∧ F b ∧ ps.length ≤ c ∧ c ≤ 9223372036854775807 ∧
    ∀ (i : Nat) (h : i < ps.length), ∃ u, (∀ t, t < 6 → w.cell? ⟨b, off + i * 6 + t, none⟩ = (pcV ps[i] u)[t]?) ∧ RepB w F ps[i].b u

theorem RepPs.slice {w : World} {F : Nat → Prop} {ps : List Pc} {v : Value} (h : RepPs w F ps v) : ∃ a c, v = .slice a ps.length c := by
  rcases h with ⟨rfl, a, c, rfl⟩ | ⟨b, off, c, rfl, -⟩
  · exact ⟨a, c, rfl⟩
  · exact ⟨_, c, rfl⟩

theorem RepPs.same {w w' : World} {F G : Nat → Prop} (hF : ∀ k, F k → G k) (hw : ∀ k, F k → w'.heap[k]? = w.heap[k]?) {ps : List Pc} {v : Value} (h : RepPs w F ps v) : RepPs w' G ps v := by
  rcases h with h | ⟨b, off, c, hv, hb, hl, hm, hc⟩
  · exact .inl h
  · refine .inr ⟨b, off, c, hv, hF b hb, hl, hm, fun i hi => ?_⟩
    obtain ⟨u, h1, h2⟩ := hc i hi
    exact ⟨u, fun t ht => (World.cell?_of_block (a := ⟨b, off + i * 6 + t, none⟩) (hw b hb)).trans (h1 t ht), h2.same hF hw⟩

theorem RepPs.elem {w : World} {F : Nat → Prop} {ps : List Pc} {a : Option Addr} {n c : Nat} (h : RepPs w F ps (.slice a n c)) (i : Nat) (hi : i < ps.length) :
    ∃ b off u, a = some ⟨b, off, none⟩ ∧ F b ∧ (∀ t, t < 6 → w.cell? ⟨b, off + i * 6 + t, none⟩ = (pcV ps[i] u)[t]?) ∧ RepB w F ps[i].b u := by
  rcases h with ⟨rfl, -⟩ | ⟨b, off, c', h, hb, -, -, hc⟩
  · simp at hi
  · cases h
    obtain ⟨u, h1, h2⟩ := hc i hi
    exact ⟨b, off, u, rfl, hb, h1, h2⟩

/-- Pieces, one behind the other, until one has an error. -/
def takesE (most : Int) : List Pc → List Pc → Int × List Pc
  | L, [] => (0, L)
  | L, p :: ps => if (takeE most L p).1 = 0 then takesE most (takeE most L p).2 ps else takeE most L p

theorem takesE_snoc (most : Int) (p : Pc) : ∀ (ps L : List Pc), (takesE most L ps).1 = 0 → takesE most L (ps ++ [p]) = takeE most (takesE most L ps).2 p
  | [], L, _ => by
    simp only [List.nil_append, takesE]
    split
    · rename_i h
      exact Prod.ext h.symm rfl
    · rfl
  | q :: ps, L, h => by
    simp only [List.cons_append, takesE] at h ⊢
    split at h
    · rename_i h0
      rw [if_pos h0, if_pos h0]
      exact takesE_snoc most p ps _ h
    · rename_i h0; exact absurd h h0

theorem takesE_stop (most : Int) (qs : List Pc) : ∀ (ps L : List Pc), (takesE most L ps).1 ≠ 0 → takesE most L (ps ++ qs) = takesE most L ps
  | [], L, h => absurd rfl h
  | q :: ps, L, h => by
    simp only [List.cons_append, takesE] at h ⊢
    split at h
    · rename_i h0
      rw [if_pos h0, if_pos h0]
      exact takesE_stop most qs ps _ h
    · rename_i h0
      rw [if_neg h0, if_neg h0]

theorem takes_inv {most : Int} : ∀ (ps L : List Pc), HInv most L → HInv most (takesE most L ps).2
  | [], L, h => h
  | p :: ps, L, h => by
    simp only [takesE]
    split
    · exact takes_inv ps _ (take_inv p h)
    · exact take_inv p h

theorem takes_len (most : Int) : ∀ (ps L : List Pc), (takesE most L ps).2.length ≤ L.length + ps.length
  | [], L => by simp [takesE]
  | p :: ps, L => by
    simp only [takesE, List.length_cons]
    have h1 := take_len most L p
    split
    · have := takes_len most ps (takeE most L p).2; omega
    · omega

/-- What Take leaves. -/
def TakesPost (w : World) (X : Nat → Prop) (g : Nat) (most : Int) (L ps : List Pc) (e : Ending) (w' : World) : Prop :=
  e = .returned (.tuple #[.bool (wholeB (takesE most L ps).2), .int .i64 (takesE most L ps).1]) ∧ Only (fun k => X k ∨ k = g) w w' ∧ ∃ Y, HeapIn w' Y g most (takesE most L ps).2 ∧ ∀ j, Y j → X j ∨ w.heap.size ≤ j

/-- Some are taken. -/
def TakenAt (w : World) (X : Nat → Prop) (g : Nat) (most : Int) (L ps : List Pc) (k : Nat) (wr : World) : Prop :=
  (takesE most L (ps.take k)).1 = 0 ∧ Only (fun k => X k ∨ k = g) w wr ∧ ∃ Y, HeapIn wr Y g most (takesE most L (ps.take k)).2 ∧ ∀ j, Y j → X j ∨ w.heap.size ≤ j

set_option maxRecDepth 20000 in
set_option maxHeartbeats 8000000 in
theorem Take_any (X : Nat → Prop) (g : Nat) (most : Int) (L ps : List Pc) (F : Nat → Prop) (v : Value) (w : World) (h : HeapIn w X g most L) (hinv : HInv most L) (hb : ∀ p ∈ ps, p.b.length ≤ 1000 ∧ p.tot ≤ 1000 ∧ 0 ≤ p.sum) (hLn : L.length + ps.length ≤ 100000)
    (hv : RepPs w F ps v) (hF : ∀ k, F k → k < w.heap.size ∧ ¬ X k ∧ k ≠ g) (hT : Hid (Tab w)) (hTz : Hid (Tz w)) (hX0 : ¬ X 0 ∧ g ≠ 0 ∧ ¬ X 1 ∧ g ≠ 1) :
    Calls Tryd.prog 11 #[.pointer (some ⟨g, 0, none⟩), v] w (TakesPost w X g most L ps) := by
  obtain ⟨a, c, rfl⟩ := hv.slice
  obtain ⟨n, hn⟩ : ∃ n, n = ps.length := ⟨_, rfl⟩
  rw [← hn]
  have hnb : n ≤ 100000 := by omega
  have HAT : Hid (TakenAt w X g most L ps 0 w) := Lib.hid ⟨rfl, Only.refl _ _, X, h, fun j hj => .inl hj⟩
  have HI := Lib.hid hinv
  have HB := Lib.hid hb
  have HV := Lib.hid hv
  have HF := Lib.hid hF
  have HN := Lib.hid hn
  have HX0 := Lib.hid hX0
  have HLN := Lib.hid hLn
  have HGZ : Hid (g < w.heap.size ∧ ∀ k, X k → k < w.heap.size) := Lib.hid ⟨h.lt, h.2.2⟩
  clear h hinv hb hv hF hn hX0 hLn
  go_enter Tryd.func11, Tryd.ntmps11
  go_wp2_with fail
  go_loopw [7, 8, 11] (fun _ _ i wr => ∃ k : Nat, k ≤ n ∧ i = .int .i64 (k : Int) ∧ Hid (TakenAt w X g most L ps k wr)) (fun _ _ i _ => n - (intOf i).toNat)
  case atStart => exact ⟨0, Nat.zero_le _, rfl, HAT⟩
  case round =>
    obtain ⟨k, hk, rfl, hs⟩ := hrel
    obtain ⟨h0, ho, Y, hh, hY⟩ := hs.out
    obtain ⟨Lk, hLk⟩ : ∃ Lk, Lk = (takesE most L (ps.take k)).2 := ⟨_, rfl⟩
    rw [← hLk] at hh
    by_cases hlt : k < n
    · have hkp : k < ps.length := by rw [← HN.out]; exact hlt
      have q1 : decide ((k : Int) < (n : Int)) = true := decide_eq_true (by omega)
      have hv1 : RepPs wr F ps (.slice a n c) := by
        have h1 := HV.out.same (fun _ h => h) (fun k hk => ho.block k (HF.out k hk).1 (by rintro (h | h); exact (HF.out k hk).2.1 h; exact (HF.out k hk).2.2 h)) (w' := wr)
        rw [← HN.out] at h1
        exact h1
      obtain ⟨b, off, u, rfl, hFb, hcs, hu⟩ := hv1.elem k hkp
      obtain ⟨ua, uc, rfl, -⟩ := hu.slice
      obtain ⟨p, hp⟩ : ∃ p, p = ps[k] := ⟨_, rfl⟩
      rw [← hp] at hcs hu
      have d0 := hcs 0 (by omega)
      have d1 := hcs 1 (by omega)
      have d2 := hcs 2 (by omega)
      have d3 := hcs 3 (by omega)
      have d4 := hcs 4 (by omega)
      have d5 := hcs 5 (by omega)
      simp only [pcV, List.getElem?_cons_zero, List.getElem?_cons_succ, Nat.add_zero] at d0 d1 d2 d3 d4 d5
      have hbw : b < wr.heap.size := (lt_of_cell d0).1
      have HTK : Hid (takesE most L (ps.take (k + 1)) = takeE most Lk p) := Lib.hid (by rw [List.take_succ_eq_append_getElem hkp, takesE_snoc _ _ _ _ h0, ← hLk, hp])
      have HLL : Hid (Lk.length ≤ 100000 ∧ HInv most Lk) := Lib.hid ⟨by have := takes_len most (ps.take k) L; rw [hLk]; have := List.length_take_le k ps; have := HLN.out; omega, by rw [hLk]; exact takes_inv _ _ HI.out⟩
      have HPB := Lib.hid (HB.out p (by rw [hp]; exact List.getElem_mem hkp))
      have HHH := Lib.hid hh
      have HO := Lib.hid ho
      have HYY := Lib.hid hY
      have HU := Lib.hid hu
      have HSP : Hid (ps = ps.take (k + 1) ++ ps.drop (k + 1)) := Lib.hid (List.take_append_drop _ _).symm
      obtain ⟨nb, hnbe⟩ : ∃ nb, nb = p.b.length := ⟨_, rfl⟩
      rw [← hnbe] at d5
      have HNB := Lib.hid hnbe
      obtain ⟨W3, hW3⟩ : ∃ W3, W3 = wr.alloc (.cells #[.int .i64 p.idx, .int .i64 p.term, .int .u32 p.sum, .int .i64 p.tot, .int .i64 p.pos, .slice ua nb uc] 35) := ⟨_, rfl⟩
      have hb3 : Below wr.heap.size wr W3 := by rw [hW3]; exact below_alloc _ _
      have hx3 : W3.heap[wr.heap.size]? = some (.cells #[.int .i64 p.idx, .int .i64 p.term, .int .u32 p.sum, .int .i64 p.tot, .int .i64 p.pos, .slice ua nb uc] 35) := by rw [hW3]; exact heap_new _ _ _ rfl
      have HO3 : Hid (Only (fun k => X k ∨ k = g) w W3) := Lib.hid (ho.next hb3)
      have hYz : ¬ Y 0 ∧ ¬ Y 1 := by
        have h1 := hT.out.1
        have h2 := hTz.out.1
        constructor
        · intro h
          rcases hY _ h with h | h
          · exact HX0.out.1 h
          · omega
        · intro h
          rcases hY _ h with h | h
          · exact HX0.out.2.2.1 h
          · omega
      have HTC := Lib.hid (take_any Y g most Lk p F (.slice ua p.b.length uc) W3 (hh.next hb3) HLL.out.2 HPB.out.1 HPB.out.2.1 HPB.out.2.2 HLL.out.1
        (hu.same (fun _ h => h) (fun k hk => hb3.block k (Nat.lt_of_lt_of_le (HF.out k hk).1 ho.size)))
        (fun k hk => ⟨Nat.lt_of_lt_of_le (Nat.lt_of_lt_of_le (HF.out k hk).1 ho.size) hb3.size, fun h => by
          rcases hY k h with h | h
          · exact (HF.out k hk).2.1 h
          · have := (HF.out k hk).1; omega, (HF.out k hk).2.2⟩)
        (Lib.hid (hT.out.only7 (X := fun k => X k ∨ k = g) HO3.out (by rintro (h | h); exact HX0.out.1 h; exact HX0.out.2.1 h.symm)))
        (Lib.hid (hTz.out.only (X := fun k => X k ∨ k = g) HO3.out (by rintro (h | h); exact HX0.out.2.2.1 h; exact HX0.out.2.2.2 h.symm))) ⟨hYz.1, HX0.out.2.1, hYz.2, HX0.out.2.2.2⟩)
      rw [← hnbe] at HTC
      unfold pcAgg at HTC
      have HX3 := Lib.hid hx3
      have HW3 := Lib.hid hW3
      have HFIN : Hid (∀ w4, TakePost W3 Y g most Lk p (.returned (.int .i64 (takeE most Lk p).1)) w4 → Only (fun k => X k ∨ k = g) w w4 ∧ ∃ Z, HeapIn w4 Z g most (takeE most Lk p).2 ∧ ∀ j, Z j → X j ∨ w.heap.size ≤ j) := Lib.hid fun w4 ht => by
        obtain ⟨-, ho4, Z, hz1, hz2⟩ := ht
        refine ⟨HO3.out.thn (fun j hj => ?_) ho4, Z, hz1, fun j hj => ?_⟩
        · rcases hj with h | h
          · rcases HYY.out j h with h | h
            · exact .inl (.inl h)
            · exact .inr h
          · exact .inl (.inr h)
        · rcases hz2 j hj with h | h
          · exact HYY.out j h
          · exact .inr (Nat.le_trans HO3.out.size h)
      clear hv1 hu hp hkp hLk hh ho hY hs h0 hcs hnbe hW3 hb3 hx3 hYz
      obtain ⟨er, her⟩ : ∃ er, er = (takeE most Lk p).1 := ⟨_, rfl⟩
      have HER := Lib.hid her
      by_cases he0 : er = 0
      · have q5 : (er != 0) = false := by simp [he0]
        have HE0 := Lib.hid he0
        clear he0 her
        go_wp2_with (go_at_call 24; rw [← HW3.out]; refine (HTC.out).mono ?_; rintro e w4 hp4; have HP4 := Lib.hid hp4; obtain ⟨rfl, -⟩ := hp4; rw [← HER.out] at HP4 ⊢)
        go_roundw
        case rel => exact ⟨k + 1, by omega, by go_num, Lib.hid ⟨by rw [HTK.out, ← HER.out]; exact HE0.out, by
          rw [HTK.out]
          exact HFIN.out w4 (by rw [← HER.out]; exact HP4.out)⟩⟩
        case measure => simp [intOf]; omega
      · have q5 : (er != 0) = true := by simp [he0]
        have HE0 := Lib.hid he0
        clear he0 her
        go_wp2_with (go_at_call 24; rw [← HW3.out]; refine (HTC.out).mono ?_; rintro e w4 hp4; have HP4 := Lib.hid hp4; obtain ⟨rfl, ho4, Z, hz1, hz2⟩ := hp4; obtain ⟨mz, hrz⟩ := hz1.1.row; obtain ⟨⟨-, -, -, -, -, -, -, z7⟩, -, zz⟩ := hrz.cells; clear ho4 hz1 hz2 hrz; rw [← HER.out] at HP4 ⊢)
        go_ret2
        have h5 : takesE most L ps = takeE most Lk p := by
          rw [HSP.out, takesE_stop _ _ _ _ (by rw [HTK.out, ← HER.out]; exact HE0.out), HTK.out]
        refine ⟨by rw [h5, ← HER.out]; rfl, ?_⟩
        rw [h5]
        exact HFIN.out w4 (by rw [← HER.out]; exact HP4.out)
    · obtain rfl : k = n := by omega
      have q1 : decide ((k : Int) < (k : Int)) = false := decide_eq_false (by omega)
      have htk : ps.take k = ps := List.take_of_length_le (by rw [← HN.out]; exact Nat.le_refl _)
      rw [htk] at hLk h0
      obtain ⟨mz, hrz⟩ := hh.1.row
      obtain ⟨⟨-, -, -, -, -, -, -, z7⟩, -, zz⟩ := hrz.cells
      have HLE := Lib.hid hLk
      have HH0 := Lib.hid h0
      have HHH := Lib.hid hh
      have HO := Lib.hid ho
      have HYY := Lib.hid hY
      clear hh ho hY hs h0 hLk htk hrz
      go_wp2_with fail
      go_ret2
      refine ⟨by rw [← HLE.out, HH0.out]; rfl, HO.out, Y, by rw [← HLE.out]; exact HHH.out, HYY.out⟩
end Go.Proofs.YtdngfbljcmbniaaDoor.M

/- Part: ChM. -/
namespace Go.Proofs.YtdngfbljcmbniaaDoor.M
open Go.RowKit Go.Maps

theorem infoPiece : (Tryd.prog.info? 35).map (fun i => (i.zero, i.size, i.bytes)) = some (some (.agg #[.int .i64 0, .int .i64 0, .int .u32 0, .int .i64 0, .int .i64 0, .slice none 0 0]), 6, 64) := by kernel_rfl

def pvV (x : Pc × Value) : List Value := pcV x.1 x.2

theorem pvV_length (x : Pc × Value) : (pvV x).length = 6 := rfl

theorem flat6_length : ∀ (l : List (Pc × Value)), (l.flatMap pvV).length = l.length * 6
  | [] => rfl
  | x :: l => by
    rw [List.flatMap_cons, List.length_append, flat6_length l, pvV_length, List.length_cons]
    omega

theorem flat6_get : ∀ (l : List (Pc × Value)) (i : Nat) (h : i < l.length) (t : Nat), t < 6 → (l.flatMap pvV)[i * 6 + t]? = (pvV l[i])[t]?
  | x :: l, 0, _, t, ht => by
    rw [List.flatMap_cons, List.getElem?_append_left (by rw [pvV_length]; omega)]
    simp
  | x :: l, i + 1, h, t, ht => by
    rw [List.flatMap_cons, List.getElem?_append_right (by rw [pvV_length]; omega), pvV_length, show (i + 1) * 6 + t - 6 = i * 6 + t by omega, flat6_get l i (by simpa using h) t ht]
    rfl

theorem ownsRow_same7 {w w' : World} {base e size n : Nat} {v : Value} {xs : List Value} (h : w.ownsRow base e size v n xs) (hs : ∀ k, v.ownBlock = some k → w'.heap[k]? = w.heap[k]?) : w'.ownsRow base e size v n xs := by
  obtain ⟨h1, h2 | ⟨g, cap, cur, hv, hg, hcur, h3⟩⟩ := h
  · exact ⟨h1, .inl h2⟩
  · exact ⟨h1, .inr ⟨g, cap, cur, hv, hg, (hs g (by rw [hv]; rfl)).trans hcur, h3⟩⟩

theorem own_same7 {w w' : World} {base e size n : Nat} {v : Value} {xs : List Value} (h : w.ownsRow base e size v n xs) (hs : ∀ k, base ≤ k → k < w.heap.size → v.ownBlock = some k → w'.heap[k]? = w.heap[k]?) : w'.ownsRow base e size v n xs :=
  ownsRow_same7 h fun k hk => hs k (h.lt k hk).1 (h.lt k hk).2 hk

theorem own_base7 {w : World} {base base' e size n : Nat} {v : Value} {xs : List Value} (h : w.ownsRow base e size v n xs) (hb : base' ≤ base) : w.ownsRow base' e size v n xs := by
  obtain ⟨h1, h2 | ⟨g, cap, cur, hv, hg, h3⟩⟩ := h
  · exact ⟨h1, .inl h2⟩
  · exact ⟨h1, .inr ⟨g, cap, cur, hv, Nat.le_trans hb hg, h3⟩⟩

/-- A row of pieces of a call's own, each one's bytes too, no two of them in one block. -/
structure PcRow (base : Nat) (pv : List (Pc × Value)) (v : Value) (W : World) : Prop where
  row : W.ownsRow base 35 6 v pv.length (pv.flatMap pvV)
  own : ∀ x ∈ pv, W.ownsRow base 5 1 x.2 x.1.b.length (x.1.b.map byteV) ∧ ∀ j, x.2.ownBlock = some j → v.ownBlock ≠ some j
  apart : pv.Pairwise fun x y => ∀ j, x.2.ownBlock = some j → y.2.ownBlock ≠ some j

theorem rep_own7 {W : World} {base : Nat} {L : List UInt8} {u v : Value} (h : W.ownsRow base 5 1 u L.length (L.map byteV)) (hne : ∀ j, u.ownBlock = some j → v.ownBlock ≠ some j) : RepB W (fun j => base ≤ j ∧ j < W.heap.size ∧ v.ownBlock ≠ some j) L u := by
  rcases RepB.of_own h with h1 | ⟨g, off, c, hv, hg, h2⟩
  · exact .inl h1
  · refine .inr ⟨g, off, c, hv, ⟨hg.1, hg.2, ?_⟩, h2⟩
    rcases h.2 with ⟨h3, -⟩ | ⟨g', cap', cur', h3, -⟩
    · rw [hv] at h3; cases h3
    · rw [hv] at h3
      cases h3
      exact hne g (by rw [hv]; rfl)

theorem PcRow.rep {base : Nat} {pv : List (Pc × Value)} {v : Value} {W : World} (h : PcRow base pv v W) : ∀ x ∈ pv, RepB W (fun j => base ≤ j ∧ j < W.heap.size ∧ v.ownBlock ≠ some j) x.1.b x.2 := fun x hx => rep_own7 (h.own x hx).1 (h.own x hx).2

theorem PcRow.nil (base : Nat) (W : World) : PcRow base [] (.slice none 0 0) W := ⟨World.ownsRow_nil _ _ _ _, (fun _ h => by cases h), .nil⟩

theorem PcRow.same {base : Nat} {pv : List (Pc × Value)} {v : Value} {W W' : World} (h : PcRow base pv v W) (_hz : W.heap.size ≤ W'.heap.size) (hs : ∀ j, base ≤ j → j < W.heap.size → W'.heap[j]? = W.heap[j]?) : PcRow base pv v W' :=
  ⟨own_same7 h.row fun k h1 h2 _ => hs k h1 h2, fun x hx => ⟨own_same7 (h.own x hx).1 fun k h1 h2 _ => hs k h1 h2, (h.own x hx).2⟩, h.apart⟩

theorem PcRow.next {base : Nat} {pv : List (Pc × Value)} {v : Value} {W W' : World} (h : PcRow base pv v W) (hb : Below W.heap.size W W') : PcRow base pv v W' := h.same hb.size fun j _ hj => hb.block j hj

theorem PcRow.slice {base : Nat} {pv : List (Pc × Value)} {v : Value} {W : World} (h : PcRow base pv v W) : ∃ a c, v = .slice a pv.length c := owned_slice h.row

/-- .. as pieces in memory. -/
theorem PcRow.reps {base : Nat} {pv : List (Pc × Value)} {v : Value} {W : World} (h : PcRow base pv v W) : RepPs W (fun j => base ≤ j ∧ j < W.heap.size) (pv.map (·.1)) v := by
  have hr := h.row
  rcases h.row.2 with ⟨h1, h2⟩ | ⟨g, cap, cur, hv, hg, hcur, hn, hm, hs, ht⟩
  · have : pv = [] := List.eq_nil_of_length_eq_zero h2
    subst this
    exact .inl ⟨rfl, none, 0, h1⟩
  · unfold maxLen at hm
    refine .inr ⟨g, 0, cap, by rw [hv, List.length_map], ⟨hg, lt_of_heap hcur⟩, by rw [List.length_map]; exact hn, hm, fun i hi => ?_⟩
    rw [List.length_map] at hi
    refine ⟨pv[i].2, fun t ht => ?_, ?_⟩
    · rw [hv] at hr
      rw [Nat.zero_add, hr.cellAt (g := g) (cap := cap) _ (by omega), flat6_get _ i hi t ht]
      simp [pvV]
    · simp only [List.getElem_map]
      exact (h.rep _ (List.getElem_mem hi)).weak fun j hj => ⟨hj.1, hj.2.1⟩

theorem yields_six {w : World} {p : Pc} {a : Option Addr} {n c : Nat} {t : TypeId} {g : Nat} (hg : g = w.heap.size) : Yields (w.alloc (.cells #[.int .i64 p.idx, .int .i64 p.term, .int .u32 p.sum, .int .i64 p.tot, .int .i64 p.pos, .slice a n c] t)) (.slice (some ⟨g, 0, none⟩) 1 1) 1 6 (pcV p (.slice a n c)) := by
  subst hg
  refine ⟨rfl, fun u hu => ?_, .inr ⟨_, _, rfl, fun j u hj => ?_⟩⟩
  · simp [pcV] at hu
    rcases hu with rfl | rfl | rfl | rfl | rfl | rfl <;> rfl
  · have h := cell_of_row _ w.heap.size j _ t _ (heap_alloc_new w (.cells #[.int .i64 p.idx, .int .i64 p.term, .int .u32 p.sum, .int .i64 p.tot, .int .i64 p.pos, .slice a n c] t))
    rw [addr_add, Nat.zero_add, h]
    simpa [pcV] using hj

/-- One more: how the append runs, and what it leaves. -/
theorem PcRow.push {base : Nat} {pv : List (Pc × Value)} {v : Value} {W : World} (h : PcRow base pv v W) {p : Pc} {a : Option Addr} {n c : Nat} (hu : W.ownsRow base 5 1 (.slice a n c) p.b.length (p.b.map byteV)) (hne : ∀ j, (Value.slice a n c).ownBlock = some j → v.ownBlock ≠ some j ∧ ∀ x ∈ pv, x.2.ownBlock ≠ some j)
    (hb : base ≤ W.heap.size) (hl : pv.length ≤ 1000000) (ty : TypeId) :
    ∃ v' w', (Builtin.append_ #[26, 26] ty #[v, .slice (some ⟨W.heap.size, 0, none⟩) 1 1]).run Tryd.prog (W.alloc (.cells #[.int .i64 p.idx, .int .i64 p.term, .int .u32 p.sum, .int .i64 p.tot, .int .i64 p.pos, .slice a n c] 35)) = .ok v' w' ∧
      PcRow base (pv ++ [(p, .slice a n c)]) v' w' ∧ Only (fun j => v.ownBlock = some j) W w' ∧ KeepsOthers W w' ∧ ∃ a' c', v' = .slice a' (pv.length + 1) c' := by
  obtain ⟨ib, hib, hib0, hib1, hib2⟩ := info_parts infoPiece
  obtain ⟨W1, hW1⟩ : ∃ W1, W1 = W.alloc (.cells #[.int .i64 p.idx, .int .i64 p.term, .int .u32 p.sum, .int .i64 p.tot, .int .i64 p.pos, .slice a n c] 35) := ⟨_, rfl⟩
  have hb1 : Below W.heap.size W W1 := by rw [hW1]; exact below_alloc _ _
  have hrow1 := (h.next hb1).row
  obtain ⟨v', w', hrun, happ⟩ := run_append_any W1 base 26 ty 35 ib _ 6 64 Tryd.underlying26 hib hib0 hib1 hib2 rfl (by decide) v pv.length (pv.flatMap pvV) hrow1 (.slice (some ⟨W.heap.size, 0, none⟩) 1 1) 1 (pcV p (.slice a n c)) (by rw [hW1]; exact yields_six rfl) (by unfold maxLen; omega) (by omega) (by rw [hW1]; simp; omega)
  have hrowlt := h.row.lt
  refine ⟨v', w', by rw [← hW1]; exact hrun, ⟨?_, fun x hx => ?_, ?_⟩, ?_, ?_, ?_⟩
  · have h1 := happ.1
    rw [show (pv ++ [(p, Value.slice a n c)]).length = pv.length + 1 by simp, List.flatMap_append]
    simpa [pvV] using h1
  · have hz1 : W1.heap.size = W.heap.size + 1 := by rw [hW1]; simp
    have hgz := happ.2.1.size
    have hkeep : ∀ j, j < W.heap.size → v.ownBlock ≠ some j → w'.heap[j]? = W.heap[j]? := fun j hj hn => (happ.2.1.block j (by omega) (fun e => hn e.symm)).trans (hb1.block j hj)
    have hG : ∀ j, j < W.heap.size → v.ownBlock ≠ some j → v'.ownBlock ≠ some j := fun j hj hn e => by
      rcases happ.2.2 with h1 | h1
      · exact hn (by rw [← h1]; exact e)
      · rw [h1] at e
        have := Option.some.inj e
        omega
    rcases List.mem_append.1 hx with hx | hx
    · obtain ⟨h1, h2⟩ := h.own x hx
      exact ⟨own_same7 h1 fun k _ hk hj => hkeep k hk (h2 k hj), fun j hj => hG j (h1.lt j hj).2 (h2 j hj)⟩
    · rw [List.mem_singleton.1 hx]
      exact ⟨own_same7 hu fun k _ hk hj => hkeep k hk (hne k hj).1, fun j hj => hG j (hu.lt j hj).2 (hne j hj).1⟩
  · rw [List.pairwise_append]
    refine ⟨h.apart, List.pairwise_singleton _ _, fun x hx y hy => ?_⟩
    rw [List.mem_singleton.1 hy]
    exact fun j hj e => (hne j e).2 x hx hj
  · exact (Only.of_below hb1).thn (fun j hj => .inl hj) (only_row7 happ.2.1 |>.mono fun j hj => hj)
  · refine (KeepsOthers.of_grownBy (grown_of_below hb1) (fun j o e => by cases e)).trans (KeepsOthers.of_grownBy happ.2.1 fun j o hj ho => ?_)
    rcases hrow1.2 with ⟨h1, -⟩ | ⟨g, cap, cur, hv, -, hcur, -⟩
    · rw [h1] at hj; cases hj
    · rw [hv] at hj
      cases hj
      rw [hcur] at ho
      cases ho
      rfl
  · obtain ⟨a', c', hv'⟩ := owned_slice happ.1
    exact ⟨a', c', hv'⟩
end Go.Proofs.YtdngfbljcmbniaaDoor.M

/- Part: ChN. -/
namespace Go.Proofs.YtdngfbljcmbniaaDoor.M
open Go.RowKit Go.Shelf Go.Maps

attribute [local go_sem] Oper.semAt_some

/-- What the iterator reads. -/
def ChunksAt (z : Nat) (a : Option Addr) (n cap size : Nat) (W : World) : Prop := W.cell? ⟨z, 0, none⟩ = some (.slice a n cap) ∧ W.cell? ⟨z + 1, 0, none⟩ = some (.int .i64 (size : Int))

def chV (g off n size k : Nat) : Value := .slice (some ⟨g, off + k * size, none⟩) (min size (n - k * size)) (min size (n - k * size))
def chEnc (g off n size k : Nat) : Array Value := #[chV g off n size k]

set_option maxRecDepth 100000 in
set_option maxHeartbeats 2000000 in
theorem chunks_in (l z g off n cap size : Nat) (hn0 : 0 < n) (hn : n ≤ 100000) (hc : n ≤ cap ∧ cap ≤ 9223372036854775807) (hs0 : 0 < size) (hs : size ≤ 9223372036854775807) (J Jx : Nat → World → Prop)
    (hJ : ∀ k W, k ≤ cutN n size → J k W → ChunksAt z (some ⟨g, off, none⟩) n cap size W)
    (hY : ∀ k W, k < cutN n size → J k W → YieldAt Fence.wide (2 - 1) Tryd.prog l (chEnc g off n size k) W fun e W' => (e = .returned (.bool true) ∧ J (k + 1) W') ∨ (e = .returned (.bool false) ∧ Jx k W'))
    (hdr : ∀ k W m, k ≤ cutN n size → J k W → J k (W.drewN m))
    (W : World) (h0 : J 0 W) :
    CallsIn Fence.wide 2 Tryd.prog 28 #[.func (.yield l) #[] #[], .pointer (some ⟨z, 0, none⟩), .pointer (some ⟨z + 1, 0, none⟩)] W fun e W' => (∃ v, e = .returned v) ∧ (J (cutN n size) W' ∨ ∃ k, Jx k W') := by
  have HJ := Lib.hid hJ
  have HD := Lib.hid hdr
  clear hJ hdr
  refine callsIn_of_wp Tryd.func28 rfl trivial ?_ rfl
  simp only [Tryd.ntmps28, List.size_toArray, List.length_cons, List.length_nil, Nat.reduceAdd, Nat.reduceSub, Array.replicate_succ, Array.replicate_zero, List.push_toArray, List.append_toArray, List.nil_append, List.cons_append]
  gi_wp2
  gi_loopw [4] (fun i wr => ∃ k d : Nat, d = k * size ∧ k ≤ cutN n size ∧ i = .int .i64 (d : Int) ∧ J k wr)
    (fun i _ => n - (intOf i).toNat)
  case atStart => exact ⟨0, 0, by omega, Nat.zero_le _, rfl, h0⟩
  case round =>
    obtain ⟨k, d, hde, hk, rfl, hJs⟩ := hrel
    obtain ⟨c0, c1⟩ := HJ.out k wr hk hJs
    by_cases hlt : k < cutN n size
    · have hdn : d < n := by rw [hde]; exact (cutN_lt hs0 (by omega)).1 hlt
      have hsd : d + size ≤ 9223372036854775807 := by
        rcases Nat.eq_zero_or_pos k with h | h
        · subst h; simp at hde; omega
        · have : size ≤ d := by rw [hde]; exact Nat.le_mul_of_pos_left size h
          omega
      have hks : d + size = (k + 1) * size := by rw [hde, Nat.add_mul]; omega
      obtain ⟨e, hee⟩ : ∃ e, e = min size (n - d) := ⟨_, rfl⟩
      have q1 : decide ((d : Int) < (n : Int)) = true := decide_eq_true (by omega)
      have q3 : ¬ cap = d := by omega
      have q4 : (d : Int) ≤ (n : Int) ∧ (n : Int) ≤ (cap : Int) := by omega
      have HKS := Lib.hid hks
      have HEE := Lib.hid hee
      have q6 : (d : Int) + (e : Int) ≤ (cap : Int) ∧ 0 < e ∧ (d : Int) + (e : Int) ≤ 100000 := by omega
      have HHY : Hid (∀ m, ∃ fn tmps assign body, (Instr.yield l #[.slice (some ⟨g, off + d, none⟩) e e]).run Tryd.prog (wr.drewN m) = .ok (.round l fn tmps assign body) (wr.drewN m) ∧ RoundIn Fence.wide (2 - 1) Tryd.prog l fn tmps assign body (wr.drewN m) fun e W' => (e = .returned (.bool true) ∧ J (k + 1) W') ∨ (e = .returned (.bool false) ∧ Jx k W')) := Lib.hid fun m => by
        obtain ⟨fn, tmps, assign, body, hy, hR⟩ := hY k (wr.drewN m) hlt (HD.out k wr m hk hJs)
        unfold chEnc chV at hy
        rw [← hde, ← hee] at hy
        exact ⟨fn, tmps, assign, body, hy, hR⟩
      clear hde hks hJs
      have hd5 : d + e - d = e := by omega
      have HD5 := Lib.hid hd5
      clear hd5
      by_cases hmin : size ≤ n - d
      · have hes : (size : Int) = (e : Int) := by omega
        have q5 : (e : Int) ≤ (n : Int) - (d : Int) := by omega
        have HSD := Lib.hid hsd
        rw [hes] at c1
        have HES := Lib.hid hes
        clear hee hmin hes hsd
        gi_wp2
        gi_quiet (fail)
        obtain ⟨fn, tmps, assign, body, hy, hR⟩ := HHY.out nq
        gi_wp2
        refine hR.mono ?_
        rintro _ W3 (⟨rfl, hJ3⟩ | ⟨rfl, hJx3⟩)
        · obtain ⟨d0, d1⟩ := HJ.out (k + 1) W3 (by omega) hJ3
          rw [HES.out] at d1
          gi_wp2
          go_roundw
          case rel => exact ⟨k + 1, d + e, by have := HKS.out; have := HES.out; omega, by omega, by go_num, hJ3⟩
          case measure => simp [intOf] <;> omega
        · gi_wp2
          refine bodyPost_ret (results_none rfl _ _ _) rfl ?_
          exact ⟨⟨_, rfl⟩, .inr ⟨k, hJx3⟩⟩
      · have hes : (n : Int) - (d : Int) = (e : Int) := by omega
        have hes2 : n - d = e := by omega
        have q5 : (e : Int) < (size : Int) := by omega
        have HSD := Lib.hid hsd
        have hsd2 : (d : Int) + (size : Int) ≤ 9223372036854775807 := by omega
        have HS2 := Lib.hid hsd2
        clear hee hmin hsd hsd2
        gi_wp2
        gi_quiet (fail)
        obtain ⟨fn, tmps, assign, body, hy, hR⟩ := HHY.out nq
        gi_wp2
        refine hR.mono ?_
        rintro _ W3 (⟨rfl, hJ3⟩ | ⟨rfl, hJx3⟩)
        · obtain ⟨d0, d1⟩ := HJ.out (k + 1) W3 (by omega) hJ3
          have hsd2 := HS2.out
          gi_wp2
          go_roundw
          case rel => exact ⟨k + 1, d + size, HKS.out, by omega, by go_num, hJ3⟩
          case measure => simp [intOf] <;> omega
        · gi_wp2
          refine bodyPost_ret (results_none rfl _ _ _) rfl ?_
          exact ⟨⟨_, rfl⟩, .inr ⟨k, hJx3⟩⟩
    · obtain rfl : k = cutN n size := by omega
      have hdn : n ≤ d := by
        rcases Nat.lt_or_ge d n with h | h
        · exact absurd ((cutN_lt (n := n) (k := cutN n size) hs0 (by omega)).2 (by rw [← hde]; exact h)) (Nat.lt_irrefl _)
        · exact h
      have q1 : decide ((d : Int) < (n : Int)) = false := decide_eq_false (by omega)
      clear hde
      gi_wp2
      go_end0
      exact ⟨⟨_, rfl⟩, .inl hJs⟩

/-- The call of the library: the bytes and the size are boxed, the function has the boxes. -/
theorem chunk_any (a : Option Addr) (n cap size : Nat) (hs : 0 < size) (w : World) :
    Calls Tryd.prog 20 #[.slice a n cap, .int .i64 (size : Int)] w fun e w' => e = .returned (.func (.func 28) #[] #[.pointer (some ⟨w.heap.size, 0, none⟩), .pointer (some ⟨w.heap.size + 1, 0, none⟩)]) ∧ w' = (w.alloc (.cells #[.slice a n cap] 24)).alloc (.cells #[.int .i64 (size : Int)] 3) := by
  have hmf : ∀ (fn : Fn) (first cap : Array Value) (w : World), (Instr.makeFunc fn first cap).run Tryd.prog w = .ok (.func fn first cap) w := fun _ _ _ _ => rfl
  have q : decide ((size : Int) < 1) = false := decide_eq_false (by omega)
  go_enter Tryd.func20, Tryd.ntmps20
  go_wp2_with fail
  go_ret
  exact ⟨rfl, rfl⟩
end Go.Proofs.YtdngfbljcmbniaaDoor.M
