/- The program's disk: Rename. -/
import Derived.Test.YtgiipkmkmomofaaProjM
namespace Go.Proofs.Ytgiipkmkmomofaa.M
open Go.RowKit Go.Maps
open D (Fl Dk)

def renameB (e : Dk) (a b : ByteArray) : Int × Dk :=
  if D.isThere e.fs a = false ∨ D.okName b = false then (30, e)
  else
    match e.fs[D.find e.fs a]? with
    | none => (30, e)
    | some f =>
      let fs := e.fs.eraseIdx (D.find e.fs a)
      let fs := fs.eraseIdx (D.find fs b)
      (0, { e with fs := D.add fs { f with nm := b } })

theorem rename_eq (d : Dk) (a b : ByteArray) : D.rename d a b = if d.stopped then (32, d) else renameB d.tick a b := rfl

theorem bytesOf_erase {fs : List Fl} (hr : D.Rising fs) (s : ByteArray) : D.used (fs.eraseIdx (D.find fs s)) + (bytesOf fs s).length = D.used fs := by
  cases ht : D.isThere fs s with
  | false =>
    rw [D.erase_beyond ht]
    unfold bytesOf
    rw [find_none ht]; simp
  | true =>
    obtain ⟨f, hf, rfl⟩ := D.isThere_mem.1 ht
    have hl := D.find_lt ht
    have h1 := D.used_erase fs _ hl
    have h2 := get_find hr hf
    rw [List.getElem?_eq_getElem hl] at h2
    unfold bytesOf
    rw [find_some hr hf]
    simp only [Option.some.injEq] at h2
    rw [h2] at h1
    exact h1

theorem turned_facts {w w' : World} {gm : Nat} (h : w.mapTurned w' gm) : w'.heap.size = w.heap.size ∧ (∀ k, k ≠ gm → w'.heap[k]? = w.heap[k]?) ∧ Only (fun k => k = gm) w w' := by
  have hg := h.grown
  have hsz : w'.heap.size = w.heap.size := by
    obtain ⟨es, c, es', c', h1, h2⟩ := h
    rw [h2]; simp [Go.ChangeMaps.setBlock]
  have hk : ∀ k, k ≠ gm → w'.heap[k]? = w.heap[k]? := fun k hk => by
    rcases Nat.lt_or_ge k w.heap.size with h1 | h1
    · exact hg.block k h1 (by simpa using hk)
    · rw [Array.getElem?_eq_none (by omega), Array.getElem?_eq_none (by omega)]
  exact ⟨hsz, hk, hg.os, hg.tape, hg.output, by omega, fun k _ h1 => hk k h1⟩

/-- What Rename leaves. -/
theorem rename_done {W w3 w4 w5 : World} {X : Nat → Prop} {gd gm n n2 : Nat} {d : Dk} {M M' : DataW Nat} {E : ByteArray → Nat × Value} {f : Fl} {b : ByteArray} (h : PDAt W X gd d d.free gm M E) (hr : D.Rising d.fs) (hf : f ∈ d.fs)
    (_hm3 : w3.ownsMap Try.prog 9 ptrElem gm n (M.del (.string f.nm.data.toList))) (ho3 : ∀ k, k ≠ gm → w3.heap[k]? = W.heap[k]?)
    (ho4 : ∀ k, k ≠ gd → k ≠ gm → w4.heap[k]? = w3.heap[k]?)
    (h4 : PDAt w4 X gd { d with fs := (d.fs.eraseIdx (D.find d.fs f.nm)).eraseIdx (D.find (d.fs.eraseIdx (D.find d.fs f.nm)) b) } (d.free + ((bytesOf (d.fs.eraseIdx (D.find d.fs f.nm)) b).length : Int)) gm M' E)
    (hm5 : w5.ownsMap Try.prog 9 ptrElem gm n2 (M'.put (.string b.data.toList) (.held (E f.nm).1))) (ho5 : ∀ k, k ≠ gm → w5.heap[k]? = w4.heap[k]?) (hok : D.okName b = true) :
    PDsk w5 X gd (renameB d f.nm b).2 ∧ (renameB d f.nm b).1 = 0 := by
  obtain ⟨k1, k2, k3⟩ := h.kinds
  have ht : D.isThere d.fs f.nm = true := D.isThere_mem.2 ⟨f, hf, rfl⟩
  have hE : renameB d f.nm b = (0, { d with fs := D.add ((d.fs.eraseIdx (D.find d.fs f.nm)).eraseIdx (D.find (d.fs.eraseIdx (D.find d.fs f.nm)) b)) { f with nm := b } }) := by
    unfold renameB
    rw [if_neg (by rw [ht, hok]; simp), get_find hr hf]
  have hr1 := hr.erase (D.find d.fs f.nm)
  have hm1 : ∀ g, g ∈ (d.fs.eraseIdx (D.find d.fs f.nm)).eraseIdx (D.find (d.fs.eraseIdx (D.find d.fs f.nm)) b) ↔ (g ∈ d.fs ∧ g.nm ≠ f.nm) ∧ g.nm ≠ b := fun g => by rw [D.mem_erase hr1, D.mem_erase hr]
  have hfa := h.each f hf
  have hkeep : ∀ k, k ≠ gd → k ≠ gm → w5.heap[k]? = W.heap[k]? := fun k h1 h2 => (ho5 k h2).trans ((ho4 k h1 h2).trans (ho3 k h2))
  have hfa5 : FileAt w5 (E f.nm).1 (E f.nm).2 { f with nm := b } := hfa.same (hkeep _ (k2 f hf).1 (k2 f hf).2) fun k hk => hkeep k (k3 f hf k hk).1 (k3 f hf k hk).2.1
  rw [hE]
  refine ⟨⟨gm, M'.put (.string b.data.toList) (.held (E f.nm).1), fun t => if t = b then ((E f.nm).1, (E f.nm).2) else E t, ?_⟩, rfl⟩
  have hfree : ({ d with fs := D.add ((d.fs.eraseIdx (D.find d.fs f.nm)).eraseIdx (D.find (d.fs.eraseIdx (D.find d.fs f.nm)) b)) { f with nm := b } } : Dk).free = d.free + ((bytesOf (d.fs.eraseIdx (D.find d.fs f.nm)) b).length : Int) := by
    have h1 := bytesOf_erase hr1 b
    have h2 := bytesOf_erase hr f.nm
    have h3 : bytesOf d.fs f.nm = f.b := by unfold bytesOf; rw [find_some hr hf]
    rw [h3] at h2
    unfold D.Dk.free
    simp only
    rw [D.used_add]
    simp only
    omega
  rw [hfree]
  exact h4.added (x := { f with nm := b }) (Y := X) (D.isThere_not.2 fun g hg => ((hm1 g).1 hg).2) rfl (fun _ hk => hk) hm5 ((ho5 gd k1.symm).trans h4.box) hfa5 (h.foot.2.2 f hf)
    (fun g hg => by
      have := (hm1 g).1 hg
      exact h.apart f hf g this.1.1 fun e => this.1.2 e.symm) fun k _ _ hk => ho5 k hk

set_option maxRecDepth 20000 in
set_option maxHeartbeats 3200000 in
theorem RenameC_any (d : Dk) (X : Nat → Prop) (gd bd ba bb : Nat) (a b : ByteArray) (w : World) (hd : PDskIn w X gd d) (hg : Good d) (hsa : a.size ≤ 9223372036854775807) (hsb : b.size ≤ 9223372036854775807)
    (c1 : w.cell? ⟨bd, 0, none⟩ = some (.pointer (some ⟨gd, 0, none⟩))) (c2 : w.cell? ⟨ba, 0, none⟩ = some (.string a)) (c3 : w.cell? ⟨bb, 0, none⟩ = some (.string b)) (hbx : (bd < w.heap.size ∧ ¬ X bd) ∧ (ba < w.heap.size ∧ ¬ X ba) ∧ (bb < w.heap.size ∧ ¬ X bb)) :
    Calls Try.prog 48 #[.pointer (some ⟨bd, 0, none⟩), .pointer (some ⟨ba, 0, none⟩), .pointer (some ⟨bb, 0, none⟩)] w (PPost w X gd (renameB d a b)) := by
  have HX := Lib.hid hd.2
  have HG := Lib.hid hg
  have HBX := Lib.hid hbx
  obtain ⟨gm, M, E, hat⟩ := hd.1
  obtain ⟨⟨-, -, d2⟩, -, hz⟩ := hat.cells
  have hlk : ∀ m, (Instr.lookup 58 (.map (some gm)) (.string a) false).run Try.prog (w.drewN m) = .ok (ptrOf d E a) (w.drewN m) := fun m => hat.look hsa (w' := w.drewN m) rfl
  have HAT := Lib.hid hat
  have HC1 := Lib.hid c1
  have HC2 := Lib.hid c2
  have HC3 := Lib.hid c3
  have HSB := Lib.hid hsb
  have HKA := Lib.hid (key_of hsa)
  have HKB := Lib.hid (key_of hsb)
  obtain ⟨⟨b1, -⟩, ⟨b2, -⟩, b3, -⟩ := hbx
  clear hd hg hat hsa hsb
  go_enter Try.func48, Try.ntmps48
  go_wp2_with fail
  go_quiet (fail)
  clear hlk
  generalize hW1 : World.drewN w _ = W1
  have HO1 : Hid (Only X w W1) := Lib.hid (by rw [← hW1]; exact Only.drewN _ _ _)
  have HH1 : Hid (W1.heap = w.heap) := Lib.hid (by rw [← hW1]; rfl)
  clear hW1
  have c3' := (cell_only HO1.out HBX.out.2.2.1 HBX.out.2.2.2 0).trans HC3.out
  have b3' : bb < W1.heap.size := by rw [HH1.out]; exact b3
  have HA1 : Hid (PDAt W1 X gd d d.free gm M E) := Lib.hid (HAT.out.same (fun _ h => h) fun k _ => by rw [HH1.out])
  clear c1 c2 c3
  cases ht : D.isThere d.fs a with
  | false =>
    have hp : ptrOf d E a = .pointer none := by unfold ptrOf; rw [ht]; rfl
    rw [hp]
    have HE : Hid (renameB d a b = (30, d)) := Lib.hid (by
      unfold renameB
      rw [if_pos (.inl ht)])
    clear ht hp
    go_wp2_with fail
    go_ret
    rw [HE.out]
    exact PPost.of HO1.out rfl (Only.refl _ _) ⟨gm, M, E, HA1.out.same (fun _ h => .inl h) fun _ _ => rfl⟩
  | true =>
    obtain ⟨f, hf, rfl⟩ := D.isThere_mem.1 ht
    have hp : ptrOf d E f.nm = .pointer (some ⟨(E f.nm).1, 0, none⟩) := by unfold ptrOf; rw [ht]; rfl
    rw [hp]
    have HF := Lib.hid hf
    have HT := Lib.hid ht
    obtain ⟨g, hgb⟩ : ∃ g, g = (E f.nm).1 := ⟨_, rfl⟩
    rw [← hgb]
    have HGB := Lib.hid hgb
    clear hp hf ht hgb
    go_wp2_with fail
    refine (IsName_any b W1 HSB.out).mono ?_
    rintro e W2 ⟨rfl, hb2⟩
    have HO2 : Hid (Only X w W2) := Lib.hid (HO1.out.then (Only.of_below hb2))
    have hX2 : ∀ k, X k → W2.heap[k]? = W1.heap[k]? := fun k hk => hb2.block k (by rw [HH1.out]; exact HX.out k hk)
    have HA2 : Hid (PDAt W2 X gd d d.free gm M E) := Lib.hid (HA1.out.same (fun _ h => h) hX2)
    clear hb2 hX2 c3' b3' b1 b2 b3 d2 hz
    have c1 := (cell_only HO2.out HBX.out.1.1 HBX.out.1.2 0).trans HC1.out
    have c2 := (cell_only HO2.out HBX.out.2.1.1 HBX.out.2.1.2 0).trans HC2.out
    have b1 : bd < W2.heap.size := Nat.lt_of_lt_of_le HBX.out.1.1 HO2.out.size
    have b2 : ba < W2.heap.size := Nat.lt_of_lt_of_le HBX.out.2.1.1 HO2.out.size
    obtain ⟨⟨-, -, d2⟩, -, hz⟩ := HA2.out.cells
    cases hok : D.okName b with
    | false =>
      have HE : Hid (renameB d f.nm b = (30, d)) := Lib.hid (by
        unfold renameB
        rw [if_pos (.inr hok)])
      clear hok
      go_wp2_with fail
      go_ret
      rw [HE.out]
      exact PPost.of HO2.out rfl (Only.refl _ _) ⟨gm, M, E, HA2.out.same (fun _ h => .inl h) fun _ _ => rfl⟩
    | true =>
      have HOK := Lib.hid hok
      clear hok
      go_wp2_with fail
      go_still_tail 5, (by kernel_rfl)
      go_wp2_with (at_delete; refine wpList_delete_own _ rfl (.tmp 21) (.tmp 22) 58 9 rfl 70 law9 Try.underlying58 ptrElem gm _ M rfl (ownsMap_same HA2.out.map rfl) (.string f.nm) _ rfl HKA.out ?_)
      intro w3 hown3 hturn3
      obtain ⟨hz3, hk3, ho3⟩ := turned_facts hturn3
      have hXm : X gm := HA2.out.foot.2.1
      have HO3 : Hid (Only X w w3) := Lib.hid ((HO2.out.then (show Only X W2 W2.drew from ⟨rfl, rfl, rfl, Nat.le_refl _, fun _ _ _ => rfl⟩)).then (ho3.mono fun k hk => hk ▸ hXm))
      have HK3 : Hid (∀ k, k ≠ gm → w3.heap[k]? = W2.heap[k]?) := Lib.hid hk3
      have HM3 := Lib.hid hown3
      have hr1 := HG.out.2.1.erase (D.find d.fs f.nm)
      have hat3 : PDAt w3 X gd { d with fs := d.fs.eraseIdx (D.find d.fs f.nm) } d.free gm (M.del (.string f.nm.data.toList)) E :=
        HA2.out.dropped HG.out.2.1 HT.out rfl hown3 ((hk3 gd HA2.out.kinds.1.symm).trans HA2.out.box) fun k _ hk => hk3 k hk
      have HA3 := Lib.hid hat3
      have HSUM : Hid (0 ≤ d.free ∧ d.free + (D.used (d.fs.eraseIdx (D.find d.fs f.nm)) : Int) ≤ 9223372036854775807) := Lib.hid (by
        have h1 := HG.out.1.2.2.1
        have h2 := HG.out.1.2.2.2.2
        have h3 := bytesOf_erase HG.out.2.1 f.nm
        refine ⟨h1, ?_⟩
        unfold D.Dk.free
        omega)
      have HR1 := Lib.hid hr1
      have c1 : w3.cell? ⟨bd, 0, none⟩ = some (.pointer (some ⟨gd, 0, none⟩)) := (cell_only HO3.out HBX.out.1.1 HBX.out.1.2 0).trans HC1.out
      have c3 : w3.cell? ⟨bb, 0, none⟩ = some (.string b) := (cell_only HO3.out HBX.out.2.2.1 HBX.out.2.2.2 0).trans HC3.out
      have b1 : bd < w3.heap.size := Nat.lt_of_lt_of_le HBX.out.1.1 HO3.out.size
      have b3 : bb < w3.heap.size := Nat.lt_of_lt_of_le HBX.out.2.2.1 HO3.out.size
      clear hown3 hturn3 hz3 hk3 ho3 hXm hr1 hat3 d2 hz c2 b2
      go_wp2_with fail
      refine (Drop_any _ X gd gm _ _ E b w3 HA3.out HR1.out HSB.out HSUM.out.1 HSUM.out.2).mono ?_
      rintro e w4 ⟨rfl, ho4, hz4, hk4, M4, hat4⟩
      have HO4 : Hid (Only X w w4) := Lib.hid (HO3.out.then ho4)
      have HK4 := Lib.hid hk4
      have HA4 := Lib.hid hat4
      have c1 : w4.cell? ⟨bd, 0, none⟩ = some (.pointer (some ⟨gd, 0, none⟩)) := (cell_only HO4.out HBX.out.1.1 HBX.out.1.2 0).trans HC1.out
      have c3 : w4.cell? ⟨bb, 0, none⟩ = some (.string b) := (cell_only HO4.out HBX.out.2.2.1 HBX.out.2.2.2 0).trans HC3.out
      have b1 : bd < w4.heap.size := Nat.lt_of_lt_of_le HBX.out.1.1 HO4.out.size
      have b3 : bb < w4.heap.size := Nat.lt_of_lt_of_le HBX.out.2.2.1 HO4.out.size
      obtain ⟨⟨-, -, d2⟩, -, hz⟩ := hat4.cells
      have HMX : Hid (((d.fs.eraseIdx (D.find d.fs f.nm)).eraseIdx (D.find (d.fs.eraseIdx (D.find d.fs f.nm)) b)).length < maxLen) := Lib.hid (by
        have h1 := HG.out.1.1
        have h2 := List.length_eraseIdx_le d.fs (D.find d.fs f.nm)
        have h3 := List.length_eraseIdx_le (d.fs.eraseIdx (D.find d.fs f.nm)) (D.find (d.fs.eraseIdx (D.find d.fs f.nm)) b)
        unfold maxLen
        omega)
      clear ho4 hz4 hk4 hat4
      go_wp2_with fail
      go_still_tail 6, (by kernel_rfl)
      go_wp2_with (at_mapUpdate; refine wpList_mapUpdate_in _ rfl _ _ _ 58 rfl 9 70 law9 Try.underlying58 ptrElem gm _ M4 rfl (ownsMap_same HA4.out.map rfl) HMX.out _ _ _ rfl rfl HKB.out (.held g) [] rfl ?_)
      intro w5 hown5 hturn5
      obtain ⟨hz5, hk5, ho5⟩ := turned_facts hturn5
      obtain ⟨p1, p2⟩ := rename_done HA2.out HG.out.2.1 HF.out HM3.out HK3.out HK4.out HA4.out (by rw [← HGB.out]; exact hown5) hk5 HOK.out
      have HP : Hid (PPost w X gd (renameB d f.nm b) (.returned (.int .i64 0)) w5) := Lib.hid (by
        have ho : Only X w w5 := (HO4.out.then (show Only X w4 w4.drew from ⟨rfl, rfl, rfl, Nat.le_refl _, fun _ _ _ => rfl⟩)).then (ho5.mono fun k hk => hk ▸ HA2.out.foot.2.1)
        refine ⟨by rw [p2], ho, p1.up⟩)
      clear hown5 hturn5 hz5 hk5 ho5 p1 p2
      go_wp2_with fail
      go_ret
      exact HP.out
end Go.Proofs.Ytgiipkmkmomofaa.M
