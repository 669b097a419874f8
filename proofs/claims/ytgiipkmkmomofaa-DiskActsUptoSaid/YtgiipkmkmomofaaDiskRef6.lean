/- The document's disk: Rename. -/
import Derived.Test.YtgiipkmkmomofaaDiskRef5
namespace Go.Proofs.Ytgiipkmkmomofaa.M
open Go.RowKit
open D (Fl Dk)

theorem tick_fs (d : Dk) : d.tick.fs = d.fs := by unfold D.Dk.tick; split <;> rfl

theorem tick_room (d : Dk) : d.tick.room = d.room := by unfold D.Dk.tick; split <;> rfl

theorem tick_calls (d : Dk) : d.tick.calls ≤ d.calls := by
  unfold D.Dk.tick
  split
  · exact Nat.sub_le _ _
  · exact Nat.le_refl _

/-- What a call of the disk leaves. -/
def CallPost (w : World) (X : Nat → Prop) (gd : Nat) (r : Int × Dk) (e : Ending) (w' : World) : Prop :=
  e = .returned (.int .i64 r.1) ∧ Only X w w' ∧ Dsk w' (More X w w') gd r.2

theorem Dsk.up {w w' : World} {X : Nat → Prop} {gd : Nat} {d : Dk} (h : Dsk w' X gd d) : Dsk w' (More X w w') gd d := h.same (fun _ hk => .inl hk) fun _ _ => rfl

theorem findR_neg {fs : List Fl} {s : ByteArray} (h : D.isThere fs s = false) : D.findR fs s = -1 := by
  unfold D.isThere at h
  unfold D.findR
  rw [if_neg (by simpa using h)]

theorem findR_pos {fs : List Fl} {s : ByteArray} (h : D.isThere fs s = true) : D.findR fs s = (D.find fs s : Int) ∧ D.find fs s < fs.length := by
  unfold D.isThere at h
  unfold D.findR
  have h' : D.find fs s < fs.length := by simpa using h
  exact ⟨by rw [if_pos h'], h'⟩

theorem rename_32 {d : Dk} {a b : ByteArray} (h : d.stopped = true) : D.rename d a b = (32, d) := by unfold D.rename; rw [if_pos h]

theorem rename_30 {d : Dk} {a b : ByteArray} (h : d.stopped = false) (hn : D.isThere d.fs a = false ∨ D.okName b = false) : D.rename d a b = (30, d.tick) := by
  unfold D.rename
  rw [if_neg (by rw [h]; simp)]
  simp only [tick_fs]
  rw [if_pos hn]

theorem rename_0 {d : Dk} {a b : ByteArray} (h : d.stopped = false) (ha : D.isThere d.fs a = true) (hb : D.okName b = true) (hi : D.find d.fs a < d.fs.length) :
    D.rename d a b = (0, { d.tick with fs := D.add ((d.fs.eraseIdx (D.find d.fs a)).eraseIdx (D.find (d.fs.eraseIdx (D.find d.fs a)) b)) { d.fs[D.find d.fs a] with nm := b } }) := by
  unfold D.rename
  rw [if_neg (by rw [h]; simp)]
  simp only [tick_fs]
  rw [if_neg (by rw [ha, hb]; simp), List.getElem?_eq_getElem hi]

theorem stopped_tick {d : Dk} (hst : d.stopped = true) : d.tick = d := by
  unfold D.Dk.tick
  unfold D.Dk.stopped at hst
  simp only [Bool.and_eq_true, beq_iff_eq] at hst
  rw [if_neg (by simp [hst.2])]

set_option maxRecDepth 20000 in
set_option maxHeartbeats 3200000 in
theorem RefRename_any (d : Dk) (X : Nat → Prop) (gd : Nat) (a b : ByteArray) (w : World) (hd : DskIn w X gd d) (hf : Hid (Fine d)) (hb : b.size ≤ 9223372036854775807) :
    Calls Try.prog 31 #[.pointer (some ⟨gd, 0, none⟩), .string a, .string b] w (CallPost w X gd (D.rename d a b)) := by
  have HX := Lib.hid hd.2
  have HD := Lib.hid hd.1
  clear hd
  cases hst : d.stopped with
  | true =>
    have HR : Hid (D.rename d a b = (32, d)) := Lib.hid (rename_32 hst)
    have ht := stopped_tick hst
    rw [HR.out]
    have HT := Lib.hid ht
    have HST := Lib.hid hst
    clear hst ht
    go_enter Try.func31, Try.ntmps31
    go_wp2_with fail
    refine (RefStopped_any d X gd _ HD.out (Lib.hid hf.out.2.1)).mono ?_
    rintro e w1 ⟨rfl, ho, hd1, hs1⟩
    rw [HST.out]
    rw [HT.out] at hd1
    have HO := Lib.hid ho
    have HD1 := Lib.hid hd1
    clear ho hd1 hs1
    go_wp2_with fail
    go_ret
    exact ⟨rfl, HO.out, HD1.out.up⟩
  | false =>
    have HST := Lib.hid hst
    clear hst
    go_enter Try.func31, Try.ntmps31
    go_wp2_with fail
    refine (RefStopped_any d X gd _ HD.out (Lib.hid hf.out.2.1)).mono ?_
    rintro e w1 ⟨rfl, ho, hd1, hs1⟩
    rw [HST.out]
    have HO := Lib.hid ho
    have HD1 := Lib.hid hd1
    have HS1 := Lib.hid hs1
    clear ho hd1 hs1
    go_wp2_with fail
    refine (RefFind_any d.tick X gd a _ HD1.out).mono ?_
    rintro e w' ⟨rfl, rfl⟩
    rw [tick_fs]
    cases hta : D.isThere d.fs a with
    | false =>
      rw [findR_neg hta]
      have HE : Hid (D.rename d a b = (30, d.tick)) := Lib.hid (rename_30 HST.out (.inl hta))
      clear hta
      go_wp2_with fail
      go_ret
      exact ⟨by rw [HE.out]; rfl, HO.out, by rw [HE.out]; exact HD1.out.up⟩
    | true =>
      obtain ⟨h1, h2⟩ := findR_pos hta
      rw [h1]
      have HI := Lib.hid h2
      have HTA := Lib.hid hta
      have HFR := Lib.hid h1
      obtain ⟨i, hi⟩ : ∃ i, i = D.find d.fs a := ⟨_, rfl⟩
      rw [← hi] at HI HFR ⊢
      have HID := Lib.hid hi
      clear h1 h2 hta hi
      have t1 : decide ((i : Int) < 0) = false := by simp
      go_wp2_with fail
      refine (RefName_any b _ hb).mono ?_
      rintro e w' ⟨rfl, rfl⟩
      cases hnb : D.okName b with
      | false =>
        have HE : Hid (D.rename d a b = (30, d.tick)) := Lib.hid (rename_30 HST.out (.inr hnb))
        clear hnb
        go_wp2_with fail
        go_ret
        exact ⟨by rw [HE.out]; rfl, HO.out, by rw [HE.out]; exact HD1.out.up⟩
      | true =>
        have HNB := Lib.hid hnb
        clear hnb
        go_wp2_with fail
        refine (RefFind_any d.tick X gd a _ HD1.out).mono ?_
        rintro e w' ⟨rfl, rfl⟩
        rw [tick_fs, HFR.out]
        obtain ⟨vl, fv, hat⟩ := HD1.out
        have hil : i < fv.length := by have := hat.len.2; have := HI.out; rw [tick_fs] at *; omega
        have hX1 : ∀ k, X k → k < w1.heap.size := fun k hk => by rw [HS1.out]; exact HX.out k hk
        have HAT := Lib.hid hat
        have HL4 : Hid (fv.length ≤ 4096) := Lib.hid (by have := hat.len.2; have := hf.out.1; rw [tick_fs] at *; omega)
        have HX1 := Lib.hid hX1
        have HIL := Lib.hid hil
        clear hat hX1 hil
        go_wp2_with fail
        refine (RefTake_any d.tick X gd vl fv i _ HAT.out HX1.out HIL.out HL4).mono ?_
        rintro e w2 ⟨vl2, rfl, ho2, hat2, hfb, -⟩
        obtain ⟨va, vc, hvi, hvl⟩ := HAT.out.bytes i HIL.out
        have hgt := HAT.out.get i HIL.out (by rw [tick_fs]; exact HI.out)
        obtain ⟨f, hf0⟩ : ∃ f, fv[i]'(HIL.out) = (f, .slice va f.b.length vc) := ⟨(fv[i]'(HIL.out)).1, by rw [← hvi]⟩
        have HFI : Hid (f = d.fs[i]'HI.out) := Lib.hid (by rw [hf0] at hgt; simp only [tick_fs] at hgt; exact hgt)
        have HFV : Hid (w1.ownsRow 0 5 1 (.slice va f.b.length vc) f.b.length (f.b.map byteV)) := Lib.hid (by
          have := HAT.out.each (fv[i]'(HIL.out)) (List.getElem_mem _)
          rw [hf0] at this
          exact this)
        rw [hf0] at hfb ⊢
        have HF0 := Lib.hid hf0
        have HO2 := Lib.hid ho2
        have HAT2 := Lib.hid hat2
        have HFB := Lib.hid hfb
        clear hvi hgt hf0 ho2 hat2 hfb
        go_wp2_with fail
        obtain ⟨W2, hW2⟩ : ∃ W2 : World, W2 = w2.alloc (.cells #[.string b, .slice va f.b.length vc, .int .i64 (f.safe : Int)] 68) := ⟨_, rfl⟩
        rw [← hW2]
        have hX2 : ∀ k, More X w1 w2 k → k < w2.heap.size := fun k hk => by
          rcases hk with hk | hk
          · exact Nat.lt_of_lt_of_le (HX1.out k hk) HO2.out.size
          · exact hk.2
        have hold2 : ∀ k, k < w2.heap.size → W2.heap[k]? = w2.heap[k]? := fun k hk => by rw [hW2, Below.heap_alloc _ _ _ hk]
        have hb2 : W2.heap[w2.heap.size]? = some (.cells #[.string b, .slice va f.b.length vc, .int .i64 (f.safe : Int)] 68) := by rw [hW2]; exact heap_new _ _ _ rfl
        have hz2 : W2.heap.size = w2.heap.size + 1 := by rw [hW2]; simp
        have HAT3 : Hid (DkAt W2 (More X w1 w2) gd { d.tick with fs := d.tick.fs.eraseIdx i } vl2 (fv.eraseIdx i)) := Lib.hid (HAT2.out.same (fun _ h => h) fun k hk => hold2 k (hX2 k hk))
        have HFV2 : Hid (W2.ownsRow 0 5 1 (.slice va f.b.length vc) f.b.length (f.b.map byteV)) := Lib.hid (ownsRow_same HFV.out fun k hk => (hold2 k (Nat.lt_of_lt_of_le (HFV.out.lt k hk).2 HO2.out.size)).trans (HFB.out k hk).1)
        have HFX : Hid (∀ k, (Value.slice va f.b.length vc).ownBlock = some k → X k ∧ k ≠ gd ∧ k < w1.heap.size) := Lib.hid fun k hk => by
          have hm := mem_blocks_file (gd := gd) (vl := vl) (List.getElem_mem HIL.out) (p := fv[i]'(HIL.out)) (k := k) (by rw [HF0.out]; exact hk)
          refine ⟨HAT.out.foot k hm, fun e => ?_, (HFV.out.lt k hk).2⟩
          have := (HFB.out k hk).2
          rw [blocksOf, List.cons_append, List.mem_cons, not_or] at this
          exact this.1 e
        have HOA : Hid (Only X w W2) := Lib.hid (by
          rw [hW2]
          exact (HO.out.trans (HO2.out.mono fun k hk => .inl (hk ▸ HAT.out.own))).alloc _)
        have HZ2 := Lib.hid hz2
        have HB2 := Lib.hid hb2
        have HX2 := Lib.hid hX2
        have HOLD2 := Lib.hid hold2
        clear hW2 hX2 hold2 hb2 hz2
        refine (RefFind_any _ (More X w1 w2) gd b _ ⟨vl2, _, HAT3.out⟩).mono ?_
        rintro e w' ⟨rfl, rfl⟩
        have hefs : ({ d.tick with fs := d.tick.fs.eraseIdx i } : Dk).fs = d.fs.eraseIdx i := by simp only [tick_fs]
        rw [hefs]
        clear hefs
        obtain ⟨b0, b1, b2, -, -, -, bz⟩ := three_of HB2.out
        have hl4 : (fv.eraseIdx i).length ≤ 4096 := by have := HL4.out; rw [List.length_eraseIdx]; split <;> omega
        have HL4' := Lib.hid hl4
        clear hl4
        cases htb : D.isThere (d.fs.eraseIdx i) b with
        | false =>
          rw [findR_neg htb]
          have HTB := Lib.hid htb
          clear htb
          go_wp2_with fail
          refine (RefAdd_any _ (More X w1 w2) gd vl2 (fv.eraseIdx i) { f with nm := b } va vc _ HAT3.out (fun k hk => by have := HX2.out k hk; have := HZ2.out; omega) HL4' HFV2.out (fun k hk => ⟨.inl (HFX.out k hk).1, (HFB.out k hk).2⟩)).mono ?_
          rintro e w3 ⟨rfl, ho3, hd3⟩
          have HO3 := Lib.hid ho3
          have HD3 := Lib.hid hd3
          clear ho3 hd3
          go_wp2_with fail
          go_ret
          have HE := rename_0 HST.out HTA.out HNB.out (by have := HI.out; rw [HID.out] at this; exact this)
          have he : (D.rename d a b).2 = { d.tick with fs := D.add (d.fs.eraseIdx i) { f with nm := b } } := by
            rw [HE, HFI.out]
            simp only [← HID.out]
            have h1 : (d.fs.eraseIdx i).eraseIdx (D.find (d.fs.eraseIdx i) b) = d.fs.eraseIdx i := List.eraseIdx_of_length_le (by
              have := HTB.out
              unfold D.isThere at this
              simpa using this)
            rw [h1]
          refine ⟨by rw [HE]; rfl, HOA.out.trans (HO3.out.mono fun k hk => .inl (hk ▸ HAT.out.own)), ?_⟩
          rw [he]
          have := HD3.out
          simp only [tick_fs] at this ⊢
          refine this.same (fun k hk => ?_) fun _ _ => rfl
          have s1 := HO.out.size
          have s2 := HO2.out.size
          have s3 := HO3.out.size
          have s4 := HZ2.out
          rcases hk with (hk | hk) | hk
          · exact .inl hk
          · exact .inr ⟨by omega, by omega⟩
          · exact .inr ⟨by omega, by omega⟩
        | true =>
          obtain ⟨q1, q2⟩ := findR_pos htb
          rw [q1]
          obtain ⟨j, hj⟩ : ∃ j, j = D.find (d.fs.eraseIdx i) b := ⟨_, rfl⟩
          rw [← hj] at q2 ⊢
          have hjl : j < (fv.eraseIdx i).length := by have := HAT3.out.len.2; simp only [tick_fs] at this; omega
          have t2 : (0 : Int) ≤ (j : Int) := by omega
          have Q1 : Hid (D.findR (d.fs.eraseIdx i) b = (j : Int)) := Lib.hid (by rw [q1, hj])
          have Q2 := Lib.hid q2
          have HJ := Lib.hid hj
          have HJL := Lib.hid hjl
          clear q1 q2 hj htb hjl
          go_wp2_with fail
          refine (RefFind_any _ (More X w1 w2) gd b _ ⟨vl2, _, HAT3.out⟩).mono ?_
          rintro e w' ⟨rfl, rfl⟩
          have hefs : ({ d.tick with fs := d.tick.fs.eraseIdx i } : Dk).fs = d.fs.eraseIdx i := by simp only [tick_fs]
          rw [hefs, Q1.out]
          clear hefs
          go_wp2_with fail
          refine (RefTake_any _ (More X w1 w2) gd vl2 (fv.eraseIdx i) j _ HAT3.out (fun k hk => by have := HX2.out k hk; have := HZ2.out; omega) HJL.out HL4').mono ?_
          rintro e w3 ⟨vl3, rfl, ho3, hat3, -, hnw⟩
          obtain ⟨ea, ec, he, -⟩ := HAT3.out.bytes j HJL.out
          rw [he]
          have HNW := Lib.hid hnw
          clear he hnw
          have hb3 : w3.heap[w2.heap.size]? = some (.cells #[.string b, .slice va f.b.length vc, .int .i64 (f.safe : Int)] 68) := by
            rw [ho3.block _ (by have := HZ2.out; omega) (by
              intro e
              have h1 := HX1.out gd HAT.out.own
              have h2 := HO2.out.size
              omega)]
            exact HB2.out
          obtain ⟨y0, y1, y2, -, -, -, yz⟩ := three_of hb3
          have HFV3 : Hid (w3.ownsRow 0 5 1 (.slice va f.b.length vc) f.b.length (f.b.map byteV)) := Lib.hid (ownsRow_same HFV2.out fun k hk => ho3.block k (HFV2.out.lt k hk).2 (HFX.out k hk).2.1)
          have hnb : ∀ k, (Value.slice va f.b.length vc).ownBlock = some k → k ∉ blocksOf gd vl3 ((fv.eraseIdx i).eraseIdx j) := fun k hk hm => by
            have h0 := (HFB.out k hk).2
            have h1 := HFX.out k hk
            rw [blocksOf, List.cons_append, List.mem_cons, List.mem_append, List.mem_flatMap] at hm
            rcases hm with hm | hm | ⟨p, hp, hm⟩
            · exact h1.2.1 hm
            · have := HNW.out k (by simpa using hm)
              have h2 := HO2.out.size
              have := HZ2.out
              omega
            · exact h0 (mem_blocks_file (List.mem_of_mem_eraseIdx hp) (by simpa using hm))
          have HNB3 := Lib.hid hnb
          have HO3 := Lib.hid ho3
          have HAT4 := Lib.hid hat3
          clear ho3 hat3 hb3 hnb
          go_wp2_with fail
          refine (RefAdd_any _ (More (More X w1 w2) W2 w3) gd vl3 ((fv.eraseIdx i).eraseIdx j) { f with nm := b } va vc _ HAT4.out (fun k hk => by
            have h2 := HO3.out.size
            rcases hk with hk | hk
            · have := HX2.out k hk; have := HZ2.out; omega
            · exact hk.2) (Lib.hid (by have := HL4'.out; rw [List.length_eraseIdx]; split <;> omega)) HFV3.out (fun k hk => ⟨.inl (.inl (HFX.out k hk).1), HNB3.out k hk⟩)).mono ?_
          rintro e w4 ⟨rfl, ho4, hd4⟩
          have HO4 := Lib.hid ho4
          have HD4 := Lib.hid hd4
          clear ho4 hd4
          go_wp2_with fail
          go_ret
          have HE := rename_0 HST.out HTA.out HNB.out (by have := HI.out; rw [HID.out] at this; exact this)
          have he : (D.rename d a b).2 = { d.tick with fs := D.add ((d.fs.eraseIdx i).eraseIdx j) { f with nm := b } } := by
            rw [HE, HFI.out]
            simp only [← HID.out, ← HJ.out]
          have s1 := HO.out.size
          have s2 := HO2.out.size
          have s3 := HO3.out.size
          have s4 := HZ2.out
          have s5 := HO4.out.size
          have hg : ∀ k, k = gd → X k := fun k hk => hk ▸ HAT.out.own
          refine ⟨by rw [HE]; rfl, (HOA.out.trans (HO3.out.mono fun k hk => .inl (hg k hk))).trans (HO4.out.mono fun k hk => .inl (hg k hk)), ?_⟩
          rw [he]
          have := HD4.out
          simp only [tick_fs] at this ⊢
          refine this.same (fun k hk => ?_) fun _ _ => rfl
          rcases hk with ((hk | hk) | hk) | hk
          · exact .inl hk
          · exact .inr ⟨by omega, by omega⟩
          · exact .inr ⟨by omega, by omega⟩
          · exact .inr ⟨by omega, by omega⟩
end Go.Proofs.Ytgiipkmkmomofaa.M
