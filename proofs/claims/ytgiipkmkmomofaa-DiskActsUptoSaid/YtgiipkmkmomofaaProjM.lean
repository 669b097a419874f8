/- The program's disk: Cut. -/
import Derived.Test.YtgiipkmkmomofaaProjK
namespace Go.Proofs.Ytgiipkmkmomofaa.M
open Go.RowKit Go.Maps
open D (Fl Dk)

section
variable {P : Program} {ops : Array Oper} {Q : Exit → Act → World → Prop} {md : Region.Mode} {S : World → Prop} {fuel : Nat} {listed : Array Bool} {a : Act} {w : World} {i j : Nat} {oi oj : Oper}

/-- One of two operations comes up next, whichever. -/
theorem H_either (hr : Region.ready md ops listed = [i, j]) (hi : ops[i]? = some oi) (hj : ops[j]? = some oj) (hwi : Region.wanted oi (yielded ops a.tmps) = true) (hwj : Region.wanted oj (yielded ops a.tmps) = true)
    (h1 : oi.wp P a w (fun a' w' => S w' ∧ wpAnyH P md ops Q S fuel (listed.setIfInBounds i true) a' w') Q)
    (h2 : oj.wp P a w (fun a' w' => S w' ∧ wpAnyH P md ops Q S fuel (listed.setIfInBounds j true) a' w') Q) : wpAnyH P md ops Q S (fuel + 1) listed a w :=
  wpAnyH_ready hr (by simp) (AllReadyH.cons hi (fun K' hK => by rw [if_pos hwi]; exact Oper.wp_mono (fun a w h => hK.out a w h.1 fun _ => h.2) h1)
    (AllReadyH.cons hj (fun K' hK => by rw [if_pos hwj]; exact Oper.wp_mono (fun a w h => hK.out a w h.1 fun _ => h.2) h2) AllReadyH.nil))
end

def cutB (e : Dk) (s : ByteArray) (n : Int) : Int × Dk :=
  match e.fs[D.find e.fs s]? with
  | none => (30, e)
  | some f =>
    if n < 0 ∨ (f.b.length : Int) < n then (2, e)
    else (0, { e with fs := e.fs.modify (D.find e.fs s) fun f => { f with b := f.b.take n.toNat, safe := min f.safe n.toNat } })

theorem cut_eq (d : Dk) (s : ByteArray) (n : Int) : D.cut d s n = if d.stopped then (32, d) else cutB d.tick s n := rfl

theorem get_find {fs : List Fl} (hr : D.Rising fs) {f : Fl} (hf : f ∈ fs) : fs[D.find fs f.nm]? = some f := by
  have ht : D.isThere fs f.nm = true := D.isThere_mem.2 ⟨f, hf, rfl⟩
  have hl := D.find_lt ht
  rw [List.getElem?_eq_getElem hl]
  congr 1
  exact hr.uniq (List.getElem_mem hl) hf (D.find_nm hl)

set_option maxRecDepth 20000 in
set_option maxHeartbeats 3200000 in
theorem CutC_any (d : Dk) (X : Nat → Prop) (gd bd bn bk : Nat) (s : ByteArray) (n : Int) (w : World) (hd : PDskIn w X gd d) (hg : Good d) (hs : s.size ≤ 9223372036854775807) (hn1 : -9223372036854775808 ≤ n) (hn2 : n ≤ 9223372036854775807)
    (c1 : w.cell? ⟨bd, 0, none⟩ = some (.pointer (some ⟨gd, 0, none⟩))) (c2 : w.cell? ⟨bn, 0, none⟩ = some (.string s)) (c3 : w.cell? ⟨bk, 0, none⟩ = some (.int .i64 n)) (hbx : (bd < w.heap.size ∧ ¬ X bd) ∧ (bn < w.heap.size ∧ ¬ X bn) ∧ (bk < w.heap.size ∧ ¬ X bk)) :
    Calls Try.prog 51 #[.pointer (some ⟨bd, 0, none⟩), .pointer (some ⟨bn, 0, none⟩), .pointer (some ⟨bk, 0, none⟩)] w (PPost w X gd (cutB d s n)) := by
  have HX := Lib.hid hd.2
  have HD := Lib.hid hd.1
  have HG := Lib.hid hg
  have HBX := Lib.hid hbx
  obtain ⟨gm, M, E, hat⟩ := hd.1
  obtain ⟨⟨-, -, d2⟩, -, hz⟩ := hat.cells
  have hlk : ∀ m, (Instr.lookup 58 (.map (some gm)) (.string s) false).run Try.prog (w.drewN m) = .ok (ptrOf d E s) (w.drewN m) := fun m => hat.look hs (w' := w.drewN m) rfl
  have HAT := Lib.hid hat
  have HC1 := Lib.hid c1
  have HC3 := Lib.hid c3
  obtain ⟨⟨b1, -⟩, ⟨b2, -⟩, b3, -⟩ := hbx
  clear hd hg hat
  go_enter Try.func51, Try.ntmps51
  go_wp2_with fail
  go_quiet (fail)
  clear hlk
  generalize hW1 : World.drewN w _ = W1
  have HO1 : Hid (Only X w W1) := Lib.hid (by rw [← hW1]; exact Only.drewN _ _ _)
  have HH1 : Hid (W1.heap = w.heap) := Lib.hid (by rw [← hW1]; rfl)
  clear hW1
  have hat1 : PDAt W1 X gd d d.free gm M E := HAT.out.same (fun _ h => h) fun k _ => by rw [HH1.out]
  have c1 := (cell_only HO1.out HBX.out.1.1 HBX.out.1.2 0).trans c1
  have c3 := (cell_only HO1.out HBX.out.2.2.1 HBX.out.2.2.2 0).trans c3
  cases ht : D.isThere d.fs s with
  | false =>
    have hp : ptrOf d E s = .pointer none := by unfold ptrOf; rw [ht]; rfl
    rw [hp]
    have HE : Hid (cutB d s n = (30, d)) := Lib.hid (by
      unfold cutB
      rw [List.getElem?_eq_none (D.find_ge ht)])
    have HA := Lib.hid hat1
    clear ht hp hat1
    go_wp2_with fail
    go_ret
    rw [HE.out]
    exact PPost.of HO1.out rfl (Only.refl _ _) ⟨gm, M, E, HA.out.same (fun _ h => .inl h) fun _ _ => rfl⟩
  | true =>
    obtain ⟨f, hf, rfl⟩ := D.isThere_mem.1 ht
    have hp : ptrOf d E f.nm = .pointer (some ⟨(E f.nm).1, 0, none⟩) := by unfold ptrOf; rw [ht]; rfl
    rw [hp]
    have hgf := get_find HG.out.2.1 hf
    have hfa := hat1.each f hf
    obtain ⟨e0, -, -, -, ez, va, vc, hv, hvl, hvc⟩ := hfa.cells
    have HOWN := Lib.hid (fun (g : Nat) (hg : g = (E f.nm).1) (W2 : World) (v' : Value) (m : Nat) (hm : m ≤ f.b.length) (h1 : FileAt W2 g v' { f with b := f.b.take m, safe := min f.safe m }) (h2 : v'.ownBlock = (E f.nm).2.ownBlock) (h3 : Only (fun k => k = g) W1 W2) =>
      file_done (f := f) hat1 (fun k hk => by rw [HH1.out]; exact HX.out k hk) HG.out.2.1 hf (fun f => { f with b := f.b.take m, safe := min f.safe m }) (fun _ => rfl) (v' := v') (by rw [← hg]; exact h1) h2 (by rw [← hg]; exact h3))
    have hbd : (E f.nm).1 ≠ gd := (hat1.kinds.2.1 f hf).1
    obtain ⟨g, hgb⟩ : ∃ g, g = (E f.nm).1 := ⟨_, rfl⟩
    rw [← hgb] at e0 ez hfa hbd ⊢
    rw [hv] at e0
    obtain ⟨len, hlen⟩ : ∃ len, len = f.b.length := ⟨_, rfl⟩
    rw [← hlen] at e0 hvl
    have HFA := Lib.hid hfa
    have HA := Lib.hid hat1
    have HF := Lib.hid hf
    have HLEN := Lib.hid hlen
    have HSAFE := Lib.hid (HG.out.2.2 f hf)
    have HGF := Lib.hid hgf
    have HHV := Lib.hid hv
    have HGB := Lib.hid hgb
    obtain ⟨⟨d0, -, -⟩, ⟨f0, -, -⟩, hz1⟩ := hat1.cells
    have b1 : bd < W1.heap.size := by rw [HH1.out]; exact b1
    have b3 : bk < W1.heap.size := by rw [HH1.out]; exact b3
    clear ht hp hf hgf hfa hat1 hlen hv hgb
    by_cases hneg : n < 0
    · have HE : Hid (cutB d f.nm n = (2, d)) := Lib.hid (by
        unfold cutB
        rw [HGF.out]
        simp only
        rw [if_pos (.inl hneg)])
      go_wp2_with fail
      go_quiet (fail)
      go_wp2_with fail
      go_ret
      rw [HE.out]
      exact PPost.of HO1.out rfl (Only.drewN _ _ _) ⟨gm, M, E, HA.out.same (fun _ h => .inl h) fun _ _ => rfl⟩
    · have hneg2 : decide (n < 0) = false := by simp; omega
      by_cases hbig : (len : Int) < n
      · have HE : Hid (cutB d f.nm n = (2, d)) := Lib.hid (by
          unfold cutB
          rw [HGF.out]
          simp only
          rw [if_pos (.inr (by rw [← HLEN.out]; exact hbig))])
        clear hneg
        go_wp2_with fail
        go_quiet (fail)
        go_wp2_with fail
        go_ret
        rw [HE.out]
        exact PPost.of HO1.out rfl (Only.drewN _ _ _) ⟨gm, M, E, HA.out.same (fun _ h => .inl h) fun _ _ => rfl⟩
      · have hbig2 : decide ((len : Int) < n) = false := by simp; omega
        obtain ⟨m, rfl⟩ : ∃ m : Nat, n = (m : Int) := ⟨n.toNat, by omega⟩
        have HM : Hid (m ≤ len) := Lib.hid (by omega)
        clear hneg hbig
        have hb3 : decide (len < m) = false := by have := HM.out; simp; omega
        go_wp2_with fail
        go_quiet (fail)
        go_wp2_with fail
        generalize hW2 : World.drewN W1 _ = W2
        have HO2 : Hid (Only X w W2) := Lib.hid (by rw [← hW2]; exact HO1.out.then (Only.drewN _ _ _))
        have HH2 : Hid (W2.heap = W1.heap) := Lib.hid (by rw [← hW2]; rfl)
        have HW2 : Hid (∀ w', Only (fun j => j = g ∨ j = gd) W2 w' → Only (fun j => j = g ∨ j = gd) W1 w') := Lib.hid fun w' h => by rw [← hW2] at h; exact (show Only (fun j => j = g ∨ j = gd) W1 (World.drewN W1 _) from Only.drewN _ _ _).then h
        have HW2g : Hid (∀ w', Only (fun j => j = g) W2 w' → Only (fun j => j = g) W1 w') := Lib.hid fun w' h => by rw [← hW2] at h; exact (show Only (fun j => j = g) W1 (World.drewN W1 _) from Only.drewN _ _ _).then h
        clear hW2 hneg2 hbig2 hb3
        have hgX : X g := by rw [HGB.out]; exact (HA.out.foot.2.2 f HF.out).1
        have hgdX : X gd := HA.out.foot.1
        have hbdz : bd < W2.heap.size := by rw [HH2.out]; exact b1
        have hbkz : bk < W2.heap.size := by rw [HH2.out]; exact b3
        have hgdz : gd < W2.heap.size := by rw [HH2.out]; exact hz1
        have hFA2 : FileAt W2 g (E f.nm).2 f := HFA.out.same (by rw [HH2.out]) fun k _ => by rw [HH2.out]
        have HFA2 : Hid (FileAt W2.drew g (E f.nm).2 f) := Lib.hid (hFA2.same rfl fun _ _ => rfl)
        have hmle : m ≤ f.b.length := by rw [← HLEN.out]; exact HM.out
        -- what the whole leaves
        have HFIN : Hid (∀ (w3 : World) (v' : Value), v'.ownBlock = (E f.nm).2.ownBlock → FileAt w3 g v' { f with b := f.b.take m, safe := min f.safe m } → Only (fun j => j = g) W2 w3 → w3.heap.size = W2.heap.size → PPost w X gd (cutB d f.nm (m : Int)) (.returned (.int .i64 0)) (w3.setCell ⟨gd, 0, none⟩ (.int .i64 (d.free + ((len - m : Nat) : Int))))) := Lib.hid fun w3 v' hv' hfa' ho3 hz3 => by
          obtain ⟨q1, E', q2⟩ := HOWN.out g HGB.out w3 v' m hmle hfa' hv' (HW2g.out w3 ho3)
          have hb := q2.box
          have hb2 := heap_setCell_same _ _ 0 _ _ (.int .i64 (d.free + ((len - m : Nat) : Int))) hb
          have hE : cutB d f.nm (m : Int) = (0, { d with fs := d.fs.modify (D.find d.fs f.nm) fun f => { f with b := f.b.take m, safe := min f.safe m } }) := by
            unfold cutB
            rw [HGF.out]
            simp only
            rw [if_neg (by omega)]
            simp
          rw [hE]
          refine PPost.of HO1.out rfl (q1.set (.inl hgdX) _) ⟨gm, M, E', ?_⟩
          have hfr : ({ d with fs := d.fs.modify (D.find d.fs f.nm) fun f => { f with b := f.b.take m, safe := min f.safe m } } : Dk).free = d.free + ((len - m : Nat) : Int) := by
            have hfl : D.find d.fs f.nm < d.fs.length := D.find_lt (D.isThere_mem.2 ⟨f, HF.out, rfl⟩)
            have hu := D.used_modify d.fs (D.find d.fs f.nm) (fun f => { f with b := f.b.take m, safe := min f.safe m }) hfl
            have hg2 : d.fs[D.find d.fs f.nm] = f := by
              have := HGF.out
              rw [List.getElem?_eq_getElem hfl] at this
              simpa using this
            rw [hg2] at hu
            simp only [List.length_take, Nat.min_eq_left hmle] at hu
            unfold D.Dk.free
            simp only
            have := HLEN.out
            omega
          rw [hfr]
          exact (q2.ticked (d' := { d with fs := d.fs.modify (D.find d.fs f.nm) fun f => { f with b := f.b.take m, safe := min f.safe m } }) rfl (by rw [hb2]; simp [restOf]) fun k hk => Below.heap_setCell _ _ _ _ (by simpa using hk)).same (fun _ h => .inl h) fun _ _ => rfl
        have hsum : d.free + ((len - m : Nat) : Int) ≤ 9223372036854775807 ∧ 0 ≤ d.free := by
          have h1 := HG.out.1.2.2.2.2
          have h2 := D.used_mem HF.out
          have h3 := HG.out.1.2.2.1
          have h4 := HLEN.out
          unfold D.Dk.free at *
          omega
        obtain ⟨fr, hfr⟩ : ∃ fr, fr = d.free := ⟨_, rfl⟩
        rw [← hfr] at hsum d0
        rw [← hfr] at HFIN
        obtain ⟨r, hr⟩ : ∃ r, r = len - m := ⟨_, rfl⟩
        rw [← hr] at hsum
        rw [← hr] at HFIN
        have HR := Lib.hid hr
        have hsum1 := hsum.1
        have hsum2 : 0 ≤ fr + (r : Int) := by omega
        have hwr : IntKind.i64.wrap (fr + (r : Int)) = fr + (r : Int) := IntWalk.i64_in _ (by omega)
        have hne1 : ¬ (bd = g ∨ bd = gd) := fun h => by
          rcases h with h | h
          · exact HBX.out.1.2 (h ▸ hgX)
          · exact HBX.out.1.2 (h ▸ hgdX)
        have hne3 : ¬ (bk = g ∨ bk = gd) := fun h => by
          rcases h with h | h
          · exact HBX.out.2.2.2 (h ▸ hgX)
          · exact HBX.out.2.2.2 (h ▸ hgdX)
        have hgg : gd ≠ g := fun h => hbd h.symm
        refine wp_region_held (S := fun w' => Only (fun j => j = g ∨ j = gd) W2 w') (by kernel_rfl) ?_
        have hS : Only (fun j => j = g ∨ j = gd) W2 W2.drew := ⟨rfl, rfl, rfl, Nat.le_refl _, fun _ _ _ => rfl⟩
        have r1 : ∀ w', Only (fun j => j = g ∨ j = gd) W2 w' → w'.cell? ⟨bd, 0, none⟩ = some (.pointer (some ⟨gd, 0, none⟩)) := fun w' hw' => ((cell_only hw' hbdz hne1 0).trans (World.cell?_of_block (a := ⟨bd, 0, none⟩) (by rw [HH2.out]))).trans c1
        have r3 : ∀ w', Only (fun j => j = g ∨ j = gd) W2 w' → w'.cell? ⟨bk, 0, none⟩ = some (.int .i64 (m : Int)) := fun w' hw' => ((cell_only hw' hbkz hne3 0).trans (World.cell?_of_block (a := ⟨bk, 0, none⟩) (by rw [HH2.out]))).trans c3
        have k0 : W2.drew.cell? ⟨gd, 0, none⟩ = some (.int .i64 fr) := (World.cell?_of_block (a := ⟨gd, 0, none⟩) (show W2.heap[gd]? = W1.heap[gd]? by rw [HH2.out])).trans d0
        have HK0 := Lib.hid k0
        have HFZ : Hid (W2.frozen? ⟨gd, 0, none⟩ = false) := Lib.hid (by
          have e : W2.frozen? ⟨gd, 0, none⟩ = W1.frozen? ⟨gd, 0, none⟩ := by simp [World.frozen?, HH2.out]
          rw [e]; exact f0)
        have HGG := Lib.hid hgg
        have HCALL : Hid (∀ e (w3 : World), (e = Ending.returned (.int .i64 ((f.b.length - m : Nat) : Int)) ∧ Only (fun k => k = g) W2.drew w3 ∧ w3.heap.size = W2.drew.heap.size ∧ ∃ v', v'.ownBlock = (E f.nm).2.ownBlock ∧ FileAt w3 g v' { f with b := f.b.take m, safe := min f.safe m }) →
            e = .returned (.int .i64 (r : Int)) ∧ Only (fun j => j = g ∨ j = gd) W2 w3 ∧ w3.cell? ⟨gd, 0, none⟩ = some (.int .i64 fr) ∧ w3.frozen? ⟨gd, 0, none⟩ = false ∧ gd < w3.heap.size ∧ PPost w X gd (cutB d f.nm (m : Int)) (.returned (.int .i64 0)) (w3.setCell ⟨gd, 0, none⟩ (.int .i64 (fr + (r : Int))))) := Lib.hid fun e w3 h => by
          obtain ⟨rfl, h1, h2, v', h3, h4⟩ := h
          have ho : Only (fun k => k = g) W2 w3 := ⟨h1.os, h1.tape, h1.output, h1.size, h1.block⟩
          have hbk := ho.block gd hgdz HGG.out
          refine ⟨by rw [HR.out, HLEN.out], ho.mono (fun k hk => .inl hk), (cell_only ho hgdz HGG.out 0).trans HK0.out, ?_, by rw [h2]; exact hgdz, HFIN.out w3 v' h3 h4 ho h2⟩
          have e : w3.frozen? ⟨gd, 0, none⟩ = W2.frozen? ⟨gd, 0, none⟩ := by simp [World.frozen?, hbk]
          rw [e]; exact HFZ.out
        clear hsum hne1 hne3 hgg d0 f0 hr hfr c1 c3 hvl hgX hgdX hFA2 e0 ez
        refine H_take (i := 0) (v := ?_) rfl (by as_aux_lemma => kernel_rfl) (by as_aux_lemma => kernel_rfl) (by as_aux_lemma => kernel_rfl) (fun _ _ _ h => h) (by rfl) hS ?_ ?_
        rotate_left
        · intro w' hw'; go_simp; with_reducible rfl
        go_simp
        refine H_take (i := 1) (v := ?_) rfl (by as_aux_lemma => kernel_rfl) (by as_aux_lemma => kernel_rfl) (by as_aux_lemma => kernel_rfl) (fun _ _ _ h => h) (by rfl) hS ?_ ?_
        rotate_left
        · intro w' hw'; go_simp; with_reducible rfl
        go_simp
        refine H_take (i := 2) (v := ?_) rfl (by as_aux_lemma => kernel_rfl) (by as_aux_lemma => kernel_rfl) (by as_aux_lemma => kernel_rfl) (fun _ _ _ h => h) (by rfl) hS ?_ ?_
        rotate_left
        · intro w' hw'; go_simp; with_reducible rfl
        go_simp
        refine H_take (i := 4) (v := ?_) rfl (by as_aux_lemma => kernel_rfl) (by as_aux_lemma => kernel_rfl) (by as_aux_lemma => kernel_rfl) (fun _ _ _ h => h) (by rfl) hS ?_ ?_
        rotate_left
        · intro w' hw'; go_simp; with_reducible rfl
        go_simp
        refine H_take (i := 5) (v := ?_) rfl (by as_aux_lemma => kernel_rfl) (by as_aux_lemma => kernel_rfl) (by as_aux_lemma => kernel_rfl) (fun _ _ _ h => h) (by rfl) hS ?_ ?_
        rotate_left
        · intro w' hw'; go_simp; with_reducible rfl
        go_simp
        refine H_either (i := 3) (j := 6) (by as_aux_lemma => kernel_rfl) rfl rfl (by rfl) (by rfl) ?_ ?_
        · go_simp
          refine H_one (i := 6) (by as_aux_lemma => kernel_rfl) rfl (by rfl) ?_
          go_simp
          refine (FCut_any g _ f m _ HFA2.out hmle HSAFE.out).mono ?_
          intro e w3 hpost
          obtain ⟨rfl, ho3, k3, f3, z3, hp⟩ := HCALL.out e w3 hpost
          have HP := Lib.hid hp
          clear hpost hp hS
          refine ⟨ho3, ?_⟩
          go_simp
          refine H_take (i := 7) (v := ?_) rfl (by as_aux_lemma => kernel_rfl) (by as_aux_lemma => kernel_rfl) (by as_aux_lemma => kernel_rfl) (fun _ _ _ h => h) (by rfl) ho3 ?_ ?_
          rotate_left
          · intro w' hw'; go_simp; with_reducible rfl
          go_simp
          refine H_take (i := 8) (v := ?_) rfl (by as_aux_lemma => kernel_rfl) (by as_aux_lemma => kernel_rfl) (by as_aux_lemma => kernel_rfl) (fun _ _ _ h => h) (by rfl) ho3 ?_ ?_
          rotate_left
          · intro w' hw'; go_simp; with_reducible rfl
          go_simp
          refine H_take (i := 9) (v := ?_) rfl (by as_aux_lemma => kernel_rfl) (by as_aux_lemma => kernel_rfl) (by as_aux_lemma => kernel_rfl) (fun _ _ _ h => h) (by rfl) ho3 ?_ ?_
          rotate_left
          · intro w' hw'; go_simp; with_reducible rfl
          go_simp
          refine H_one (i := 10) (by as_aux_lemma => kernel_rfl) rfl (by rfl) ?_
          go_simp
          refine ⟨ho3.set (.inl (.inr rfl)) _, ?_⟩
          refine wpAnyH_done (by as_aux_lemma => kernel_rfl) ?_ _
          clear r1 r3 ho3 k3 f3 z3
          go_wp2_with fail
          go_ret
          exact HP.out
        · go_simp
          refine (FCut_any g _ f m _ HFA2.out hmle HSAFE.out).mono ?_
          intro e w3 hpost
          obtain ⟨rfl, ho3, k3, f3, z3, hp⟩ := HCALL.out e w3 hpost
          have HP := Lib.hid hp
          clear hpost hp hS
          refine ⟨ho3, ?_⟩
          go_simp
          refine H_one (i := 3) (by as_aux_lemma => kernel_rfl) rfl (by rfl) ?_
          go_simp
          refine H_take (i := 7) (v := ?_) rfl (by as_aux_lemma => kernel_rfl) (by as_aux_lemma => kernel_rfl) (by as_aux_lemma => kernel_rfl) (fun _ _ _ h => h) (by rfl) ho3 ?_ ?_
          rotate_left
          · intro w' hw'; go_simp; with_reducible rfl
          go_simp
          refine H_take (i := 8) (v := ?_) rfl (by as_aux_lemma => kernel_rfl) (by as_aux_lemma => kernel_rfl) (by as_aux_lemma => kernel_rfl) (fun _ _ _ h => h) (by rfl) ho3 ?_ ?_
          rotate_left
          · intro w' hw'; go_simp; with_reducible rfl
          go_simp
          refine H_take (i := 9) (v := ?_) rfl (by as_aux_lemma => kernel_rfl) (by as_aux_lemma => kernel_rfl) (by as_aux_lemma => kernel_rfl) (fun _ _ _ h => h) (by rfl) ho3 ?_ ?_
          rotate_left
          · intro w' hw'; go_simp; with_reducible rfl
          go_simp
          refine H_one (i := 10) (by as_aux_lemma => kernel_rfl) rfl (by rfl) ?_
          go_simp
          refine ⟨ho3.set (.inl (.inr rfl)) _, ?_⟩
          refine wpAnyH_done (by as_aux_lemma => kernel_rfl) ?_ _
          clear r1 r3 ho3 k3 f3 z3
          go_wp2_with fail
          go_ret
          exact HP.out
end Go.Proofs.Ytgiipkmkmomofaa.M
