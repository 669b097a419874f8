/- The program's disk: a call that is stopped, or done. The program's disk: what Append leaves. The program's disk: Append. The program's disk: Append as it is called; Sync. The program's disk: Cut. The program's disk: Rename. The program's disk: Sync. The program's disk: is one named twice? The program's disk: Remove. The program's disk: Rename, Remove, Cut as they are called. The program's disk: Crash. What stays true of a disk, whatever is done to it. A server's hard state as plain lists: slots as bytes, what is newest, a save. A log in segments, over plain lists. -/
import Derived.Test.YtamgjlegcegmeaaGreatDoorSD21
import Derived.Test.YtamgjlegcegmeaaGreatDoorSD22
import Derived.Test.YtamgjlegcegmeaaGreatDoorSD20
import Derived.Test.YtamgjlegcegmeaaGreatDoorSD9
import Derived.Test.YtamgjlegcegmeaaGreatDoorSD10
import Derived.Test.YtamgjlegcegmeaaGreatDoorSD1
import Derived.Test.YtamgjlegcegmeaaGreatDoorSD2
/- Part: ProjG. -/
namespace Go.Proofs.YtamgjlegcegmeaaGreatDoor.M
open Go.RowKit Go.Maps
open D (Fl Dk)

theorem rest_stopped {d : Dk} (h : d.stopped = true) : restOf d = 0 := by
  unfold D.Dk.stopped at h
  simp only [Bool.and_eq_true, beq_iff_eq] at h
  unfold restOf
  rw [if_pos h.1, h.2]; rfl

theorem rest_not {d : Dk} (h : d.stopped = false) : (restOf d = -1 ∧ d.tick = d) ∨ (0 < restOf d ∧ restOf d ≠ -1 ∧ restOf d = (d.calls : Int) ∧ restOf d.tick = restOf d - 1) := by
  unfold D.Dk.stopped at h
  unfold restOf D.Dk.tick
  cases he : d.ends with
  | false => left; simp
  | true =>
    rw [he] at h
    simp at h
    right
    simp only [if_true, h, not_false_eq_true, and_self, ne_eq, true_and, if_true]
    refine ⟨by omega, by omega, by omega⟩

theorem PDAt.tick {w : World} {X : Nat → Prop} {gd gm : Nat} {d : Dk} {M : DataW Nat} {E : ByteArray → Nat × Value} (h : PDAt w X gd d d.free gm M E) (ht : d.tick = d) : PDAt w X gd d.tick d.tick.free gm M E := by rw [ht]; exact h

/-- A world behind 'work' has lowered the rest. -/
theorem PDsk.ticked {w : World} {X : Nat → Prop} {gd : Nat} {d : Dk} (h : PDsk w X gd d) {r : Int} (hr : r = restOf d.tick) {w' : World} (hw : w' = w.setCell ⟨gd, 1, none⟩ (.int .i64 r)) : Only X w w' ∧ w'.heap.size = w.heap.size ∧ PDsk w' X gd d.tick := by
  subst hw hr
  obtain ⟨gm, M, E, h⟩ := h
  have hb := heap_setCell_same _ _ 1 _ _ (.int .i64 (restOf d.tick)) h.box
  refine ⟨(Only.refl X w).set (.inl h.foot.1) _, by simp, gm, M, E, h.ticked (tick_fs d) ?_ fun k hk => Below.heap_setCell _ _ _ _ (by simpa using hk)⟩
  rw [hb]
  simp [D.Dk.free, tick_room, tick_fs]

theorem PPost.after {w w1 w' : World} {X : Nat → Prop} {gd : Nat} {r : Int × Dk} {e : Ending} (h1 : Only X w w1) (hs : w1.heap.size = w.heap.size) (h : PPost w1 X gd r e w') : PPost w X gd r e w' := by
  obtain ⟨a, b, c⟩ := h
  refine ⟨a, h1.trans (b.mono fun k hk => .inl hk), c.same (fun k hk => ?_) fun _ _ => rfl⟩
  rcases hk with hk | hk
  · exact .inl hk
  · exact .inr ⟨by omega, hk.2⟩

set_option maxRecDepth 20000 in
set_option maxHeartbeats 1600000 in
/-- One of the calls that change a disk: the closure's contract is asked of the disk behind the count. -/
theorem Work_any (n : Nat) (caps : Array Value) (he : ∀ (args : Array Value) (w : World), (callFunc n args).run Tryz.prog w = .ok (.enter n args) w) (d : Dk) (X : Nat → Prop) (gd : Nat) (r : Int × Dk) (w : World) (hd : PDsk w X gd d) (hc : d.calls ≤ 9223372036854775807)
    (hdo : ∀ w1, Only X w w1 → w1.heap.size = w.heap.size → PDsk w1 X gd d.tick → d.stopped = false → Calls Tryz.prog n caps w1 (PPost w1 X gd r)) :
    Calls Tryz.prog 56 #[.pointer (some ⟨gd, 0, none⟩), .func (.func n) #[] caps] w (PPost w X gd (if d.stopped then (32, d) else r)) := by
  have HD := Lib.hid hd
  have HDO := Lib.hid hdo
  obtain ⟨gm, M, E, hat⟩ := hd
  obtain ⟨⟨-, c1, -⟩, ⟨-, f1, -⟩, hz⟩ := hat.cells
  have HAT := Lib.hid hat
  clear hat hdo
  cases hst : d.stopped with
  | true =>
    rw [rest_stopped hst] at c1
    have HST := Lib.hid hst
    clear hst
    go_enter Tryz.func56, Tryz.ntmps56
    go_wp2_with fail
    go_ret
    exact ⟨rfl, Only.refl _ _, HD.out.up⟩
  | false =>
    rcases rest_not hst with ⟨h1, h2⟩ | ⟨h1, h2, h3, h4⟩
    · rw [h1] at c1
      have HC : Hid (Calls Tryz.prog n caps w (PPost w X gd r)) := Lib.hid (HDO.out w (Only.refl _ _) rfl (by rw [h2]; exact HD.out) hst)
      clear h1 h2 hst
      go_enter Tryz.func56, Tryz.ntmps56
      go_wp2_with fail
      refine HC.out.mono ?_
      rintro e w' ⟨rfl, ho, hd2⟩
      have HO := Lib.hid ho
      have HD2 := Lib.hid hd2
      clear ho hd2
      go_wp2_with fail
      go_ret
      exact ⟨rfl, HO.out, HD2.out⟩
    · obtain ⟨x, hx⟩ : ∃ x, x = restOf d := ⟨_, rfl⟩
      rw [← hx] at c1 h1 h2 h3 h4
      have q1 : x ≤ 9223372036854775807 := by omega
      have q2 : (x == 0) = false := by simp; omega
      have q3 : (x == -1) = false := by simp; omega
      have HC : Hid (∀ w1, w1 = w.setCell ⟨gd, 1, none⟩ (.int .i64 (x - 1)) → Only X w w1 ∧ w1.heap.size = w.heap.size ∧ Calls Tryz.prog n caps w1 (PPost w1 X gd r)) := Lib.hid fun w1 hw => by
        obtain ⟨a1, a2, a3⟩ := HD.out.ticked h4.symm hw
        exact ⟨a1, a2, HDO.out w1 a1 a2 a3 hst⟩
      have q4 : 0 < x := h1
      clear h2 h3 h4 hst hx h1
      go_enter Tryz.func56, Tryz.ntmps56
      go_wp2_with fail
      obtain ⟨a1, a2, a3⟩ := HC.out _ rfl
      refine a3.mono ?_
      rintro e w' hp
      have HP := Lib.hid (hp.after a1 a2)
      obtain ⟨rfl, -, -⟩ := hp
      clear a1 a2 a3
      go_wp2_with fail
      go_ret
      exact HP.out
end Go.Proofs.YtamgjlegcegmeaaGreatDoor.M

/- Part: ProjI. -/
namespace Go.Proofs.YtamgjlegcegmeaaGreatDoor.M
open Go.RowKit Go.Maps
open D (Fl Dk)

theorem used_layAt (fs : List Fl) (i : Nat) (l : List UInt8) (hi : i < fs.length) : D.used (D.layAt fs i l) = D.used fs + l.length := by
  have h := D.used_modify fs i (fun f => { f with b := f.b ++ l }) hi
  unfold D.layAt
  simp only [List.length_append] at h
  omega

/-- Bytes laid behind a file's, and the disk's free bytes less. -/
theorem lay_done {W W2 W3 : World} {Y : Nat → Prop} {gd gm : Nat} {d : Dk} {fr left : Int} {M : DataW Nat} {E : ByteArray → Nat × Value} {f : Fl} {bs : List (List UInt8)} (h : PDAt W Y gd d fr gm M E) (hY : ∀ k, Y k → k < W.heap.size) (hr : D.Rising d.fs) (hf : f ∈ d.fs)
    (hp : PutAt W (E f.nm).1 (E f.nm).2 f bs bs.length W2) (hw3 : W3 = W2.setCell ⟨gd, 0, none⟩ (.int .i64 left)) :
    (W2.frozen? ⟨gd, 0, none⟩ = false ∧ gd < W2.heap.size ∧ W2.cell? ⟨gd, 0, none⟩ = some (.int .i64 fr)) ∧ Only Y W W3 ∧ ∃ E', PDAt W3 (More Y W W3) gd { d with fs := D.layAt d.fs (D.find d.fs f.nm) bs.flatten } left gm M E' := by
  obtain ⟨-, ho, v, hfa, hno⟩ := hp
  rw [List.take_length] at hfa
  obtain ⟨k1, k2, k3⟩ := h.kinds
  have ht : D.isThere d.fs f.nm = true := D.isThere_mem.2 ⟨f, hf, rfl⟩
  have hgz := hY gd h.foot.1
  have hold : ∀ k, k < W.heap.size → k ≠ (E f.nm).1 → (E f.nm).2.ownBlock ≠ some k → W2.heap[k]? = W.heap[k]? := fun k hk h1 h2 => ho.block k hk fun h3 => by
    rcases h3 with h3 | h3
    · exact h1 h3
    · exact h2 h3
  have hb2 : W2.heap[gd]? = some (.cells #[.int .i64 fr, .int .i64 (restOf d), .map (some gm)] 55) := (hold gd hgz (fun e => (k2 f hf).1 e.symm) fun e => (k3 f hf gd e).1 rfl).trans h.box
  have hY2 : ∀ k, More Y W W2 k → k < W2.heap.size := fun k hk => by
    rcases hk with hk | hk
    · exact Nat.lt_of_lt_of_le (hY k hk) ho.size
    · exact hk.2
  have hnm : (D.layAt d.fs (D.find d.fs f.nm) bs.flatten).map (·.nm) = d.fs.map (·.nm) := D.names_modify _ _ _ fun _ => rfl
  have hturn := h.turned hr ht (d' := { d with fs := D.layAt d.fs (D.find d.fs f.nm) bs.flatten }) (v' := v) (f' := { f with b := f.b ++ bs.flatten }) (w' := W2) (Y := More Y W W2) hY (fun k hk => .inl hk) rfl hnm
    (fun g hg => by
      rcases D.mem_modify hr hg with h1 | ⟨f0, h1, h2, h3⟩
      · exact .inl h1
      · have := hr.uniq h1 hf h2
        subst this
        exact .inr h3)
    rfl hfa (fun k hk => by
      rcases hno with h1 | ⟨g, h1, h2⟩
      · exact .inl (by rw [← h1]; exact hk)
      · rw [h1] at hk; cases hk
        have : k < W2.heap.size := (hfa.2.lt k h1).2
        exact .inr ⟨.inr ⟨h2, this⟩, h2⟩) hold
  have hb3 := heap_setCell_same _ _ 0 _ _ (.int .i64 left) hb2
  subst hw3
  refine ⟨⟨frozen_of_row W2 gd 0 _ _ hb2, lt_of_heap hb2, cell_of_row W2 gd 0 _ _ _ hb2⟩, ?_, (fun t => if t = f.nm then ((E f.nm).1, v) else E t), ?_⟩
  · refine (show Only Y W W2 from ⟨ho.os, ho.tape, ho.output, ho.size, fun k hk hn => ho.block k hk fun h3 => ?_⟩).set (.inl h.foot.1) _
    rcases h3 with h3 | h3
    · exact hn (h3 ▸ (h.foot.2.2 f hf).1)
    · exact hn ((h.foot.2.2 f hf).2 k h3)
  · exact (hturn.ticked (d' := { d with fs := D.layAt d.fs (D.find d.fs f.nm) bs.flatten }) (fr' := left) rfl (by rw [hb3]; simp [restOf]) (fun k hk => Below.heap_setCell _ _ _ _ (by simpa using hk))).same (fun k hk => by
      rcases hk with hk | hk
      · exact .inl hk
      · exact .inr ⟨hk.1, by simpa using hk.2⟩) fun _ _ => rfl

/-- What the closure of Append does. -/
def appendB (e : Dk) (s : ByteArray) (bs : List (List UInt8)) : Int × Dk :=
  if D.okName s = false then (30, e)
  else if (bs.flatten.length : Int) > e.free ∨ (D.isThere e.fs s = false ∧ 4096 ≤ e.fs.length) then (31, e)
  else (0, { e with fs := D.layAt (if D.isThere e.fs s then e.fs else D.add e.fs ⟨s, [], 0⟩) (D.find (if D.isThere e.fs s then e.fs else D.add e.fs ⟨s, [], 0⟩) s) bs.flatten })

theorem append_eq (d : Dk) (s : ByteArray) (bs : List (List UInt8)) : D.append d s bs = if d.stopped then (32, d) else appendB d.tick s bs := rfl

/-- A new file in the map. -/
theorem new_done {W W1 W2 : World} {X : Nat → Prop} {gd gm n : Nat} {d : Dk} {fr : Int} {M : DataW Nat} {E : ByteArray → Nat × Value} {s : ByteArray} (h : PDAt W X gd d fr gm M E) (hX : ∀ k, X k → k < W.heap.size) (hs : D.isThere d.fs s = false)
    (h1 : W1 = W.alloc (.cells #[.slice none 0 0, .int .i64 0] 107)) (hm : W2.ownsMap Tryz.prog 9 ptrElem gm n (M.put (.string s.data.toList) (.held W.heap.size))) (hg : W1.grownBy W2 (some gm)) (hz : W2.heap.size = W.heap.size + 1) :
    Only X W W2 ∧ PDAt W2 (fun k => X k ∨ k = W.heap.size) gd { d with fs := D.add d.fs ⟨s, [], 0⟩ } fr gm (M.put (.string s.data.toList) (.held W.heap.size)) (fun t => if t = s then (W.heap.size, .slice none 0 0) else E t) ∧ (∀ k, X k ∨ k = W.heap.size → k < W2.heap.size) := by
  subst h1
  obtain ⟨k1, k2, k3⟩ := h.kinds
  have hold : ∀ k, k < W.heap.size → k ≠ gm → W2.heap[k]? = W.heap[k]? := fun k hk hne => (hg.block k (by simp; omega) (by simpa using hne)).trans (Below.heap_alloc _ _ _ hk)
  have hgmlt := hX gm h.foot.2.1
  have hnew : W2.heap[W.heap.size]? = some (.cells #[.slice none 0 0, .int .i64 0] 107) := (hg.block W.heap.size (by simp) (by simp; omega)).trans (heap_alloc_new _ _)
  refine ⟨⟨hg.os, hg.tape, hg.output, by omega, fun k hk hne => hold k hk fun e => hne (e ▸ h.foot.2.1)⟩, ?_, fun k hk => by
    rcases hk with hk | hk
    · have := hX k hk; omega
    · omega⟩
  have hfl : ∀ f ∈ d.fs, (E f.nm).1 < W.heap.size := fun f hf => hX _ (h.foot.2.2 f hf).1
  exact h.added (x := ⟨s, [], 0⟩) (Y := fun k => X k ∨ k = W.heap.size) hs rfl (fun _ hk => .inl hk) hm ((hold gd (hX gd h.foot.1) k1.symm).trans h.box) ⟨hnew, World.ownsRow_nil _ _ _ _⟩ ⟨.inr rfl, fun k hk => by cases hk⟩
    (fun f hf => ⟨by have := hfl f hf; omega, fun k hk => by cases hk⟩) fun k hk h1 h2 => hold k (hX k hk) h2
end Go.Proofs.YtamgjlegcegmeaaGreatDoor.M

/- Part: ProjJ. -/
namespace Go.Proofs.YtamgjlegcegmeaaGreatDoor.M
open Go.RowKit Go.Maps
open D (Fl Dk)

theorem PPost.of {w w1 w' : World} {X : Nat → Prop} {gd : Nat} {n : Int} {d : Dk} {e : Ending} (h1 : Only X w w1) (he : e = .returned (.int .i64 n)) (h2 : Only X w1 w') (h3 : PDsk w' (More X w1 w') gd d) : PPost w X gd (n, d) e w' :=
  ⟨he, h1.then h2, h3.same (fun k hk => by
    rcases hk with hk | hk
    · exact .inl hk
    · exact .inr ⟨Nat.le_trans h1.size hk.1, hk.2⟩) fun _ _ => rfl⟩

set_option maxRecDepth 20000 in
set_option maxHeartbeats 6400000 in
theorem AppendC_any (d : Dk) (X : Nat → Prop) (gd bn bd bb : Nat) (s : ByteArray) (bs : List (List UInt8)) (F : Nat → Prop) (vb : Value) (w : World) (hd : PDskIn w X gd d) (hg : Good d) (hs : s.size ≤ 9223372036854775807)
    (hv : RepBl w F bs vb) (hF : ∀ k, F k → k < w.heap.size ∧ ¬ X k) (hu : D.used d.fs + bs.flatten.length ≤ 1099511627776)
    (c1 : w.cell? ⟨bn, 0, none⟩ = some (.string s)) (c2 : w.cell? ⟨bd, 0, none⟩ = some (.pointer (some ⟨gd, 0, none⟩))) (c3 : w.cell? ⟨bb, 0, none⟩ = some vb) (hbx : (bn < w.heap.size ∧ ¬ X bn) ∧ (bd < w.heap.size ∧ ¬ X bd) ∧ (bb < w.heap.size ∧ ¬ X bb)) :
    Calls Tryz.prog 78 #[.pointer (some ⟨bn, 0, none⟩), .pointer (some ⟨bd, 0, none⟩), .pointer (some ⟨bb, 0, none⟩)] w (PPost w X gd (appendB d s bs)) := by
  obtain ⟨na, nc, rfl, hnl⟩ := hv.slice
  have HV := Lib.hid hv
  have HF := Lib.hid hF
  have HX := Lib.hid hd.2
  have HD := Lib.hid hd.1
  have HG := Lib.hid hg
  have HS := Lib.hid hs
  have HU := Lib.hid hu
  have HBX := Lib.hid hbx
  have HC1 := Lib.hid c1
  have HC2 := Lib.hid c2
  have HC3 := Lib.hid c3
  obtain ⟨⟨b1, -⟩, ⟨b2, -⟩, b3, -⟩ := hbx
  clear hv hF hd hg hs hu
  go_enter Tryz.func78, Tryz.ntmps78
  go_wp2_with fail
  refine (IsName_any s _ HS.out).mono ?_
  rintro e w1 ⟨rfl, hb1⟩
  have HO1 : Hid (Only X w w1) := Lib.hid ((Only.of_below hb1).mono fun _ h => h)
  have HD1 : Hid (PDskIn w1 X gd d) := Lib.hid ⟨HD.out.same (fun _ h => h) fun k hk => hb1.block k (HX.out k hk), fun k hk => Nat.lt_of_lt_of_le (HX.out k hk) hb1.size⟩
  have b1 : bn < w1.heap.size := Nat.lt_of_lt_of_le b1 hb1.size
  have b2 : bd < w1.heap.size := Nat.lt_of_lt_of_le b2 hb1.size
  have b3 : bb < w1.heap.size := Nat.lt_of_lt_of_le b3 hb1.size
  clear hb1 c1 c2 c3
  cases hok : D.okName s with
  | false =>
    have HE : Hid (appendB d s bs = (30, d)) := Lib.hid (by unfold appendB; rw [if_pos hok])
    clear hok
    go_wp2_with fail
    go_ret
    rw [HE.out]
    exact PPost.of HO1.out rfl (Only.refl _ _) HD1.out.1.up
  | true =>
    have HOK := Lib.hid hok
    obtain ⟨gm, M, E, hat⟩ := HD1.out.1
    obtain ⟨⟨d0, -, d2⟩, ⟨f0, -, -⟩, hz⟩ := hat.cells
    have c1 := (cell_only HO1.out HBX.out.1.1 HBX.out.1.2 0).trans HC1.out
    have c2 := (cell_only HO1.out HBX.out.2.1.1 HBX.out.2.1.2 0).trans HC2.out
    have c3 := (cell_only HO1.out HBX.out.2.2.1 HBX.out.2.2.2 0).trans HC3.out
    have HAT := Lib.hid hat
    have HV1 : Hid (RepBl w1 F bs (.slice na bs.length nc)) := Lib.hid (HV.out.same (fun _ h => h) fun k hk => HO1.out.block k (HF.out k hk).1 (HF.out k hk).2)
    have HF1 : Hid (∀ k, F k → k < w1.heap.size ∧ ¬ X k) := Lib.hid fun k hk => ⟨Nat.lt_of_lt_of_le (HF.out k hk).1 HO1.out.size, (HF.out k hk).2⟩
    obtain ⟨fr, hfr⟩ : ∃ fr, fr = d.free := ⟨_, rfl⟩
    rw [← hfr] at d0 HAT
    have HFR := Lib.hid hfr
    have hfr0 : 0 ≤ fr := by rw [hfr]; exact HG.out.1.2.2.1
    have hfr1 : fr ≤ 9223372036854775807 := by
      have := HG.out.1.2.2.2.2
      rw [hfr]
      unfold D.Dk.free
      omega
    have hfit : ∀ n, Calls Tryz.prog 80 #[.int .i64 fr, .slice na bs.length nc] (w1.drewN n) fun e w' => e = .returned (fitR fr bs) ∧ w' = w1.drewN n := fun n => (Fit_any fr bs F (.slice na bs.length nc) (w1.drewN n) hfr0 hfr1 (HV1.out.same (fun _ h => h) fun _ _ => rfl) (fun k hk => (HF1.out k hk).1)).mono fun e w' h => ⟨h.1, h.2.symm⟩
    clear hok hat hfr
    go_wp2_with fail
    by_cases hfit1 : (bs.flatten.length : Int) ≤ fr
    · have hfe : fitR fr bs = .tuple #[.int .i64 (fr - bs.flatten.length), .bool true] := by unfold fitR; rw [if_pos hfit1]
      rw [hfe] at hfit
      have HFT := Lib.hid hfit
      clear hfit
      obtain ⟨left, hleft⟩ : ∃ left, left = fr - (bs.flatten.length : Int) := ⟨_, rfl⟩
      rw [← hleft] at HFT
      have HLEFT := Lib.hid hleft
      have HFIT := Lib.hid hfit1
      clear hfe hfit1 hleft
      go_quiet ((go_at_call 80; exact Calls.quiet_of_same (HFT.out _)))
      generalize hW2 : World.drewN w1 _ = W2
      have HO2 : Hid (Only X w W2) := Lib.hid (by rw [← hW2]; exact HO1.out.then (Only.drewN _ _ _))
      have HE2 : Hid (W2.heap = w1.heap) := Lib.hid (by rw [← hW2]; rfl)
      clear hW2
      have c1 : W2.cell? ⟨bn, 0, none⟩ = some (.string s) := (World.cell?_of_block (a := ⟨bn, 0, none⟩) (by rw [HE2.out])).trans c1
      have c2 : W2.cell? ⟨bd, 0, none⟩ = some (.pointer (some ⟨gd, 0, none⟩)) := (World.cell?_of_block (a := ⟨bd, 0, none⟩) (by rw [HE2.out])).trans c2
      have c3 : W2.cell? ⟨bb, 0, none⟩ = some (.slice na bs.length nc) := (World.cell?_of_block (a := ⟨bb, 0, none⟩) (by rw [HE2.out])).trans c3
      have d2 : W2.cell? ⟨gd, 2, none⟩ = some (.map (some gm)) := (World.cell?_of_block (a := ⟨gd, 2, none⟩) (by rw [HE2.out])).trans d2
      have b1 : bn < W2.heap.size := by rw [HE2.out]; exact b1
      have b2 : bd < W2.heap.size := by rw [HE2.out]; exact b2
      have b3 : bb < W2.heap.size := by rw [HE2.out]; exact b3
      have hz : gd < W2.heap.size := by rw [HE2.out]; exact hz
      have hlk : ∀ n, (Instr.lookup 53 (.map (some gm)) (.string s) false).run Tryz.prog (W2.drewN n) = .ok (ptrOf d E s) (W2.drewN n) := fun n => HAT.out.look HS.out (w' := W2.drewN n) (by show W2.heap[gm]? = _; rw [HE2.out])
      clear d0 f0
      go_wp2_with fail
      go_quiet (fail)
      clear hlk
      generalize hW3 : World.drewN W2 _ = W3
      have HO3 : Hid (Only X w W3) := Lib.hid (by rw [← hW3]; exact HO2.out.then (Only.drewN _ _ _))
      have HE3 : Hid (W3.heap = w1.heap) := Lib.hid (by rw [← hW3]; exact HE2.out)
      clear hW3 HO2 HE2
      have c1 : W3.cell? ⟨bn, 0, none⟩ = some (.string s) := (cell_only HO3.out HBX.out.1.1 HBX.out.1.2 0).trans HC1.out
      have c2 : W3.cell? ⟨bd, 0, none⟩ = some (.pointer (some ⟨gd, 0, none⟩)) := (cell_only HO3.out HBX.out.2.1.1 HBX.out.2.1.2 0).trans HC2.out
      have c3 : W3.cell? ⟨bb, 0, none⟩ = some (.slice na bs.length nc) := (cell_only HO3.out HBX.out.2.2.1 HBX.out.2.2.2 0).trans HC3.out
      have hat3 : PDAt W3 X gd d fr gm M E := HAT.out.same (fun _ h => h) fun k _ => by rw [HE3.out]
      obtain ⟨⟨d0, -, d2⟩, ⟨f0, -, -⟩, hz⟩ := hat3.cells
      have HX3 : Hid (∀ k, X k → k < W3.heap.size) := Lib.hid fun k hk => by rw [HE3.out]; exact HD1.out.2 k hk
      have b1 : bn < W3.heap.size := Nat.lt_of_lt_of_le HBX.out.1.1 HO3.out.size
      have b2 : bd < W3.heap.size := Nat.lt_of_lt_of_le HBX.out.2.1.1 HO3.out.size
      have b3 : bb < W3.heap.size := Nat.lt_of_lt_of_le HBX.out.2.2.1 HO3.out.size
      have HV3 : Hid (RepBl W3 F bs (.slice na bs.length nc)) := Lib.hid (HV.out.same (fun _ h => h) fun k hk => HO3.out.block k (HF.out k hk).1 (HF.out k hk).2)
      have HF3 : Hid (∀ k, F k → k < W3.heap.size ∧ ¬ X k) := Lib.hid fun k hk => ⟨Nat.lt_of_lt_of_le (HF.out k hk).1 HO3.out.size, (HF.out k hk).2⟩
      have HAT3 := Lib.hid hat3
      clear hat3 HV1 HF1 HAT HD1 HO1 HE3 HFT
      cases ht : D.isThere d.fs s with
      | true =>
        obtain ⟨f, hf, rfl⟩ := D.isThere_mem.1 ht
        have hp : ptrOf d E f.nm = .pointer (some ⟨(E f.nm).1, 0, none⟩) := by unfold ptrOf; rw [ht]; rfl
        rw [hp]
        have HE : Hid (appendB d f.nm bs = (0, { d with fs := D.layAt d.fs (D.find d.fs f.nm) bs.flatten })) := Lib.hid (by
          unfold appendB
          rw [if_neg (by rw [HOK.out]; simp), if_neg (fun h => by
            rcases h with h | ⟨h, _⟩
            · have := HFIT.out
              have := HFR.out
              omega
            · rw [ht] at h; cases h)]
          rw [ht]; rfl)
        have HFA := Lib.hid (HAT3.out.each f hf)
        have hft := HAT3.out.foot.2.2 f hf
        have HFF : Hid (∀ k, F k → k < W3.heap.size ∧ k ≠ (E f.nm).1 ∧ (E f.nm).2.ownBlock ≠ some k) := Lib.hid fun k hk => ⟨(HF3.out k hk).1, fun e => (HF3.out k hk).2 (e ▸ hft.1), fun e => (HF3.out k hk).2 (hft.2 k e)⟩
        have HBU : Hid (f.b.length + bs.flatten.length ≤ 140737488355328) := Lib.hid (by
          have := D.used_mem hf
          have := HU.out
          omega)
        have HPA : Hid (∀ W4, PutAt W3 (E f.nm).1 (E f.nm).2 f bs bs.length W4 → (W4.frozen? ⟨gd, 0, none⟩ = false ∧ gd < W4.heap.size ∧ W4.cell? ⟨gd, 0, none⟩ = some (.int .i64 fr) ∧ W4.cell? ⟨bd, 0, none⟩ = some (.pointer (some ⟨gd, 0, none⟩)) ∧ bd < W4.heap.size) ∧ PPost w X gd (appendB d f.nm bs) (.returned (.int .i64 0)) (W4.setCell ⟨gd, 0, none⟩ (.int .i64 left))) := Lib.hid fun W4 hput => by
          obtain ⟨⟨q1, q2, q3⟩, q4, E', q5⟩ := lay_done (left := left) HAT3.out HX3.out HG.out.2.1 hf hput rfl
          have ho4 : Only X W3 W4 := ⟨hput.2.1.os, hput.2.1.tape, hput.2.1.output, hput.2.1.size, fun k hk hn => hput.2.1.block k hk fun h3 => by
            rcases h3 with h3 | h3
            · exact hn (h3 ▸ hft.1)
            · exact hn (hft.2 k h3)⟩
          have ho5 := HO3.out.then ho4
          refine ⟨⟨q1, q2, q3, (cell_only ho5 HBX.out.2.1.1 HBX.out.2.1.2 0).trans HC2.out, Nat.lt_of_lt_of_le HBX.out.2.1.1 ho5.size⟩, ?_⟩
          rw [HE.out]
          refine PPost.of HO3.out rfl q4 ⟨gm, M, E', ?_⟩
          have e : ({ d with fs := D.layAt d.fs (D.find d.fs f.nm) bs.flatten } : Dk).free = left := by
            rw [HLEFT.out, HFR.out]
            unfold D.Dk.free
            simp only
            rw [used_layAt _ _ _ (D.find_lt ht)]
            omega
          rw [e]
          exact q5
        obtain ⟨b, hb⟩ : ∃ b, b = (E f.nm).1 := ⟨_, rfl⟩
        rw [← hb] at HFA HFF HPA ⊢
        clear hb hft hf ht hp d0 f0
        go_wp2_with fail
        refine (Lay_any b _ f bs F _ _ HFA.out HV3.out HFF.out HBU.out).mono ?_
        rintro e W4 ⟨rfl, hput⟩
        obtain ⟨⟨q1, q2, q3, q4, q5⟩, q6⟩ := HPA.out W4 hput
        have HP := Lib.hid q6
        clear hput q6
        go_wp2_with fail
        go_ret
        exact HP.out
      | false =>
        have hp : ptrOf d E s = .pointer none := by unfold ptrOf; rw [ht]; rfl
        rw [hp]
        have hlen := fun ty => HAT3.out.len (w' := W3) rfl ty
        by_cases hfull : 4096 ≤ d.fs.length
        · have q1 : (4096 : Int) ≤ (d.fs.length : Int) := by omega
          have HE : Hid (appendB d s bs = (31, d)) := Lib.hid (by
            unfold appendB
            rw [if_neg (by rw [HOK.out]; simp), if_pos (.inr ⟨ht, hfull⟩)])
          clear hp ht hfull d0 f0
          go_wp2_with fail
          go_ret
          rw [HE.out]
          exact PPost.of HO3.out rfl (Only.refl _ _) ⟨gm, M, E, by rw [← HFR.out]; exact HAT3.out.same (fun _ h => .inl h) fun _ _ => rfl⟩
        · have q1 : decide ((4096 : Int) ≤ (d.fs.length : Int)) = false := by simp; omega
          have HT := Lib.hid ht
          have HNF := Lib.hid hfull
          clear hp ht hfull d0 f0
          go_wp2_with fail
          obtain ⟨W4, hW4⟩ : ∃ W4, W4 = W3.alloc (.cells #[.slice none 0 0, .int .i64 0] 107) := ⟨_, rfl⟩
          have c1 : W4.cell? ⟨bn, 0, none⟩ = some (.string s) := by rw [hW4, World.cell?_alloc_past _ _ _ b1]; exact c1
          have c2 : W4.cell? ⟨bd, 0, none⟩ = some (.pointer (some ⟨gd, 0, none⟩)) := by rw [hW4, World.cell?_alloc_past _ _ _ b2]; exact c2
          have d2 : W4.cell? ⟨gd, 2, none⟩ = some (.map (some gm)) := by rw [hW4, World.cell?_alloc_past _ _ _ hz]; exact d2
          rw [← hW4]
          have HW4 := Lib.hid hW4
          have HOWN : Hid (W4.drew.ownsMap Tryz.prog 9 ptrElem gm d.fs.length M) := Lib.hid (by rw [hW4]; exact HAT3.out.map.alloc _)
          clear hW4
          go_still_tail 6, (by kernel_rfl)
          have HMX : Hid (d.fs.length < maxLen) := Lib.hid (by unfold maxLen; have := HNF.out; omega)
          have HKEY := Lib.hid (key_of HS.out)
          go_wp2_with (at_mapUpdate; refine wpList_mapUpdate_in _ rfl _ _ _ 53 rfl 9 79 law9 Tryz.underlying53 ptrElem gm _ M rfl HOWN.out HMX.out _ _ _ rfl rfl HKEY.out (.held W3.heap.size) [] rfl ?_)
          intro w5 hown5 hturn5
          have hz5 : w5.heap.size = W3.heap.size + 1 := by
            obtain ⟨es, c, es', c', h1, h2⟩ := hturn5
            rw [h2]; simp [Go.ChangeMaps.setBlock]; rw [HW4.out]; simp
          have hg5 := hturn5.grown
          obtain ⟨n1, n2, n3⟩ := new_done HAT3.out HX3.out HT.out HW4.out hown5 ⟨hg5.os, hg5.tape, hg5.output, hg5.size, hg5.block⟩ hz5
          have HO5 : Hid (Only X w w5) := Lib.hid (HO3.out.then n1)
          have hnb := HO3.out.size
          obtain ⟨nb, hnbe⟩ : ∃ nb, nb = W3.heap.size := ⟨_, rfl⟩
          rw [← hnbe] at n2 n3 hz5 hnb ⊢
          have HNB : Hid (w.heap.size ≤ nb ∧ nb < w5.heap.size) := Lib.hid ⟨hnb, by omega⟩
          have hmem : (⟨s, [], 0⟩ : Fl) ∈ D.add d.fs ⟨s, [], 0⟩ := D.mem_add.2 (.inl rfl)
          have hfa := n2.each _ hmem
          simp only [if_true] at hfa
          have hr5 : D.Rising (D.add d.fs ⟨s, [], 0⟩) := HG.out.2.1.add (x := ⟨s, [], 0⟩) (D.isThere_not.1 HT.out)
          have HFF : Hid (∀ k, F k → k < w5.heap.size ∧ k ≠ nb ∧ (Value.slice none 0 0).ownBlock ≠ some k) := Lib.hid fun k hk => ⟨Nat.lt_of_lt_of_le (HF.out k hk).1 HO5.out.size, fun e => by have := (HF.out k hk).1; omega, fun e => by cases e⟩
          have HV5 : Hid (RepBl w5 F bs (.slice na bs.length nc)) := Lib.hid (HV.out.same (fun _ h => h) fun k hk => HO5.out.block k (HF.out k hk).1 (HF.out k hk).2)
          have HBU : Hid ((⟨s, [], 0⟩ : Fl).b.length + bs.flatten.length ≤ 140737488355328) := Lib.hid (by
            have := HU.out
            show 0 + bs.flatten.length ≤ _
            omega)
          have HE : Hid (appendB d s bs = (0, { d with fs := D.layAt (D.add d.fs ⟨s, [], 0⟩) (D.find (D.add d.fs ⟨s, [], 0⟩) s) bs.flatten })) := Lib.hid (by
            unfold appendB
            rw [if_neg (by rw [HOK.out]; simp), if_neg (fun h => by
              rcases h with h | ⟨_, h⟩
              · have := HFIT.out
                have := HFR.out
                omega
              · exact HNF.out h)]
            rw [HT.out]; rfl)
          have HPA : Hid (∀ W6, PutAt w5 nb (.slice none 0 0) ⟨s, [], 0⟩ bs bs.length W6 → (W6.frozen? ⟨gd, 0, none⟩ = false ∧ gd < W6.heap.size ∧ W6.cell? ⟨gd, 0, none⟩ = some (.int .i64 fr) ∧ W6.cell? ⟨bd, 0, none⟩ = some (.pointer (some ⟨gd, 0, none⟩)) ∧ bd < W6.heap.size) ∧ PPost w X gd (appendB d s bs) (.returned (.int .i64 0)) (W6.setCell ⟨gd, 0, none⟩ (.int .i64 left))) := Lib.hid fun W6 hput => by
            have hput2 : PutAt w5 ((fun t => if t = s then (nb, Value.slice none 0 0) else E t) (⟨s, [], 0⟩ : Fl).nm).1 ((fun t => if t = s then (nb, Value.slice none 0 0) else E t) (⟨s, [], 0⟩ : Fl).nm).2 ⟨s, [], 0⟩ bs bs.length W6 := by
              simp only [if_true]; exact hput
            obtain ⟨⟨q1, q2, q3⟩, q4, E', q5⟩ := lay_done (left := left) n2 n3 hr5 hmem hput2 rfl
            have ho6 : Only X w W6 := HO5.out.trans ⟨hput.2.1.os, hput.2.1.tape, hput.2.1.output, hput.2.1.size, fun k hk hn => hput.2.1.block k hk fun h3 => by
              rcases h3 with h3 | h3
              · exact hn (h3 ▸ .inr HNB.out)
              · cases h3⟩
            have hsub : ∀ k, X k ∨ k = nb → More X w w5 k := fun k hk => by
              rcases hk with hk | hk
              · exact .inl hk
              · exact .inr (hk ▸ HNB.out)
            refine ⟨⟨q1, q2, q3, (cell_only ho6 HBX.out.2.1.1 HBX.out.2.1.2 0).trans HC2.out, Nat.lt_of_lt_of_le HBX.out.2.1.1 ho6.size⟩, ?_⟩
            rw [HE.out]
            have e : ({ d with fs := D.layAt (D.add d.fs ⟨s, [], 0⟩) (D.find (D.add d.fs ⟨s, [], 0⟩) s) bs.flatten } : Dk).free = left := by
              rw [HLEFT.out, HFR.out]
              unfold D.Dk.free
              simp only
              rw [used_layAt _ _ _ (D.find_lt (D.isThere_mem.2 ⟨_, hmem, rfl⟩)), D.used_add]
              simp
              omega
            refine ⟨rfl, HO5.out.trans (q4.mono hsub), gm, M.put (.string s.data.toList) (.held nb), E', ?_⟩
            rw [e]
            exact q5.same (fun k hk => by
              rcases hk with hk | hk
              · rcases hsub k hk with h | h
                · exact .inl h
                · exact .inr ⟨h.1, Nat.lt_of_lt_of_le h.2 q4.size⟩
              · exact .inr ⟨Nat.le_trans HO5.out.size hk.1, hk.2⟩) fun _ _ => rfl
          have c3 : w5.cell? ⟨bb, 0, none⟩ = some (.slice na bs.length nc) := (cell_only HO5.out HBX.out.2.2.1 HBX.out.2.2.2 0).trans HC3.out
          have b3 : bb < w5.heap.size := Nat.lt_of_lt_of_le HBX.out.2.2.1 HO5.out.size
          have HFA := Lib.hid hfa
          clear hfa hmem hr5 n1 n2 n3 hown5 hturn5 hg5 hz5 hnbe hnb hz b1 b2 hlen
          go_wp2_with fail
          refine (Lay_any nb _ ⟨s, [], 0⟩ bs F _ _ HFA.out HV5.out HFF.out HBU.out).mono ?_
          rintro e W6 ⟨rfl, hput⟩
          obtain ⟨⟨q1, q2, q3, q4, q5⟩, q6⟩ := HPA.out W6 hput
          have HP := Lib.hid q6
          clear hput q6
          go_wp2_with fail
          go_ret
          exact HP.out
    · have hfe : fitR fr bs = .tuple #[.int .i64 0, .bool false] := by unfold fitR; rw [if_neg hfit1]
      rw [hfe] at hfit
      have HFT := Lib.hid hfit
      clear hfit
      have HE : Hid (appendB d s bs = (31, d)) := Lib.hid (by
        unfold appendB
        rw [if_neg (by rw [HOK.out]; simp), if_pos (.inl (by have := HFR.out; omega))])
      clear hfe hfit1
      go_quiet ((go_at_call 80; exact Calls.quiet_of_same (HFT.out _)))
      go_wp2_with fail
      go_ret
      rw [HE.out]
      exact PPost.of HO1.out rfl (Only.drewN _ _ _) (HD1.out.1.same (fun _ h => .inl h) fun _ _ => rfl)
end Go.Proofs.YtamgjlegcegmeaaGreatDoor.M

/- Part: ProjK. -/
namespace Go.Proofs.YtamgjlegcegmeaaGreatDoor.M
open Go.RowKit Go.Maps
open D (Fl Dk)

theorem Good.tick {d : Dk} (h : Good d) : Good d.tick := by
  obtain ⟨⟨h1, h2, h3, h4, h5⟩, h6, h7⟩ := h
  refine ⟨⟨by rw [tick_fs]; exact h1, Nat.le_trans (tick_calls d) h2, ?_, by rw [tick_room]; exact h4, by rw [tick_room]; exact h5⟩, by rw [tick_fs]; exact h6, by rw [tick_fs]; exact h7⟩
  unfold D.Dk.free at h3 ⊢
  rw [tick_room, tick_fs]; exact h3

theorem PPost.wrap {w W w' : World} {X : Nat → Prop} {gd : Nat} {r : Int × Dk} {e : Ending} (h1 : Only X w W) (h : PPost W X gd r e w') : PPost w X gd r e w' := by
  obtain ⟨a, b, c⟩ := h
  exact PPost.of h1 a b c

/-- One file turned in place. -/
theorem file_done {W W2 : World} {X : Nat → Prop} {gd gm : Nat} {d : Dk} {fr : Int} {M : DataW Nat} {E : ByteArray → Nat × Value} {f : Fl} (h : PDAt W X gd d fr gm M E) (hX : ∀ k, X k → k < W.heap.size) (hr : D.Rising d.fs) (hf : f ∈ d.fs)
    (g : Fl → Fl) (hg : ∀ f, (g f).nm = f.nm) {v' : Value} (hat : FileAt W2 (E f.nm).1 v' (g f)) (hv : v'.ownBlock = (E f.nm).2.ownBlock) (ho : Only (fun k => k = (E f.nm).1) W W2) :
    Only X W W2 ∧ ∃ E', PDAt W2 X gd { d with fs := d.fs.modify (D.find d.fs f.nm) g } fr gm M E' := by
  have ht : D.isThere d.fs f.nm = true := D.isThere_mem.2 ⟨f, hf, rfl⟩
  refine ⟨ho.mono fun k hk => hk ▸ (h.foot.2.2 f hf).1, fun t => if t = f.nm then ((E f.nm).1, v') else E t, ?_⟩
  exact h.turned hr ht (d' := { d with fs := d.fs.modify (D.find d.fs f.nm) g }) (v' := v') (f' := g f) (w' := W2) (Y := X) hX (fun k hk => hk) rfl (D.names_modify _ _ _ hg)
    (fun g2 hg2 => by
      rcases D.mem_modify hr hg2 with h1 | ⟨f0, h1, h2, h3⟩
      · exact .inl h1
      · have := hr.uniq h1 hf h2
        subst this
        exact .inr h3)
    (hg f) hat (fun k hk => .inl (by rw [← hv]; exact hk)) fun k hk h1 _ => ho.block k hk h1

set_option maxRecDepth 40000 in
theorem en41 : ∀ (args : Array Value) (w : World), (callFunc 78 args).run Tryz.prog w = .ok (.enter 78 args) w := fun _ _ => rfl
set_option maxRecDepth 40000 in
theorem en44 : ∀ (args : Array Value) (w : World), (callFunc 85 args).run Tryz.prog w = .ok (.enter 85 args) w := fun _ _ => rfl
set_option maxRecDepth 40000 in
theorem en49 : ∀ (args : Array Value) (w : World), (callFunc 57 args).run Tryz.prog w = .ok (.enter 57 args) w := fun _ _ => rfl
set_option maxRecDepth 40000 in
theorem en51 : ∀ (args : Array Value) (w : World), (callFunc 100 args).run Tryz.prog w = .ok (.enter 100 args) w := fun _ _ => rfl

theorem cell_new1 (w : World) (v : Value) (t : TypeId) {g : Nat} (hg : g = w.heap.size) : (w.alloc (.cells #[v] t)).cell? ⟨g, 0, none⟩ = some v := by
  subst hg
  have h := cell_of_row _ w.heap.size 0 _ t _ (heap_alloc_new w (.cells #[v] t))
  exact h

theorem cell_past {w : World} {g j : Nat} {v : Value} (o : Obj) (h : w.cell? ⟨g, j, none⟩ = some v) (hg : g < w.heap.size) : (w.alloc o).cell? ⟨g, j, none⟩ = some v := by rw [World.cell?_alloc_past _ _ _ hg]; exact h

set_option maxRecDepth 20000 in
set_option maxHeartbeats 1600000 in
theorem PAppend_any (d : Dk) (X : Nat → Prop) (gd : Nat) (s : ByteArray) (bs : List (List UInt8)) (F : Nat → Prop) (vb : Value) (w : World) (hd : PDskIn w X gd d) (hg : Good d) (hs : s.size ≤ 9223372036854775807)
    (hv : RepBl w F bs vb) (hF : ∀ k, F k → k < w.heap.size ∧ ¬ X k) (hu : D.used d.fs + bs.flatten.length ≤ 1099511627776) :
    Calls Tryz.prog 54 #[.pointer (some ⟨gd, 0, none⟩), .string s, vb] w (PPost w X gd (D.append d s bs)) := by
  obtain ⟨na, nc, rfl, hnl⟩ := hv.slice
  have HV := Lib.hid hv
  have HF := Lib.hid hF
  have HD := Lib.hid hd
  have HG := Lib.hid hg
  clear hv hF hd hg
  obtain ⟨W, hW⟩ : ∃ W, W = ((w.alloc (.cells #[.pointer (some ⟨gd, 0, none⟩)] 24)).alloc (.cells #[.string s] 9)).alloc (.cells #[.slice na bs.length nc] 68) := ⟨_, rfl⟩
  have HO : Hid (Only X w W) := Lib.hid (by rw [hW]; exact (((Only.refl X w).alloc _).alloc _).alloc _)
  have HB : Hid (Below w.heap.size w W) := Lib.hid (by rw [hW]; exact (((Below.refl _ w).alloc (by omega) _).alloc (by simp) _).alloc (by simp; omega) _)
  have HSZ : Hid (W.heap.size = w.heap.size + 3) := Lib.hid (by rw [hW]; simp)
  have HC : Hid (W.cell? ⟨w.heap.size, 0, none⟩ = some (.pointer (some ⟨gd, 0, none⟩)) ∧ W.cell? ⟨w.heap.size + 1, 0, none⟩ = some (.string s) ∧ W.cell? ⟨w.heap.size + 1 + 1, 0, none⟩ = some (.slice na bs.length nc)) := Lib.hid (by
    rw [hW]
    refine ⟨cell_past _ (cell_past _ (cell_new1 _ _ _ rfl) (by simp)) (by simp; omega), cell_past _ (cell_new1 _ _ _ (by simp)) (by simp), cell_new1 _ _ _ (by simp)⟩)
  have hwk := Work_any 78 #[.pointer (some ⟨w.heap.size + 1, 0, none⟩), .pointer (some ⟨w.heap.size, 0, none⟩), .pointer (some ⟨w.heap.size + 1 + 1, 0, none⟩)] en41 d X gd (appendB d.tick s bs) W
    (HD.out.1.same (fun _ h => h) fun k hk => HB.out.block k (HD.out.2 k hk)) HG.out.1.2.1 (fun w1 ho hz hd1 hst => by
      have hnx : ∀ k, w.heap.size ≤ k → ¬ X k := fun k hk hx => by have := HD.out.2 k hx; omega
      have hsz := HSZ.out
      exact AppendC_any d.tick X gd _ _ _ s bs F _ w1 ⟨hd1, fun k hk => by have := HD.out.2 k hk; omega⟩ HG.out.tick hs
        (HV.out.same (fun _ h => h) fun k hk => (ho.block k (by have := (HF.out k hk).1; omega) (HF.out k hk).2).trans (HB.out.block k (HF.out k hk).1)) (fun k hk => ⟨by have := (HF.out k hk).1; omega, (HF.out k hk).2⟩) (by rw [tick_fs]; exact hu)
        ((cell_only ho (by omega) (hnx _ (by omega)) 0).trans HC.out.2.1) ((cell_only ho (by omega) (hnx _ (by omega)) 0).trans HC.out.1) ((cell_only ho (by omega) (hnx _ (by omega)) 0).trans HC.out.2.2)
        ⟨⟨by omega, hnx _ (by omega)⟩, ⟨by omega, hnx _ (by omega)⟩, by omega, hnx _ (by omega)⟩)
  rw [← append_eq] at hwk
  have HWK := Lib.hid hwk
  have HWE := Lib.hid hW
  clear hwk hW
  go_enter Tryz.func54, Tryz.ntmps54
  go_wp2_with fail
  rw [← HWE.out]
  refine HWK.out.mono ?_
  intro e w' hp
  have HP := Lib.hid (hp.wrap HO.out)
  obtain ⟨rfl, -, -⟩ := hp
  go_wp2_with fail
  go_ret
  exact HP.out
end Go.Proofs.YtamgjlegcegmeaaGreatDoor.M

/- Part: ProjM. -/
namespace Go.Proofs.YtamgjlegcegmeaaGreatDoor.M
open Go.RowKit Go.Maps
open D (Fl Dk)

section
variable {P : Program} {ops : Array Oper} {Q : Exit → Act → World → Prop} {md : Region.Mode} {S : World → Prop} {fuel : Nat} {listed : Array Bool} {a : Act} {w : World} {i j : Nat} {oi oj : Oper}

/-- One of two operations comes up next, whichever. -/
theorem H_either (hr : Region.ready md ops listed = [i, j]) (hi : ops[i]? = some oi) (hj : ops[j]? = some oj) (hwi : Region.wanted oi (yielded ops a.tmps) = true) (hwj : Region.wanted oj (yielded ops a.tmps) = true)
    (h1 : oi.wp P a w (fun a' w' => S w' ∧ wpAnyH P md ops Q S fuel (listed.setIfInBounds i true) a' w') Q)
    (h2 : oj.wp P a w (fun a' w' => S w' ∧ wpAnyH P md ops Q S fuel (listed.setIfInBounds j true) a' w') Q) : wpAnyH P md ops Q S (fuel + 1) listed a w :=
  wpAnyH_ready hr (by simp) (AllReadyH.cons hi (fun K' hK => by rw [if_pos hwi]; exact Oper.wp_mono (fun a w h => hK.out a w h.1 fun _ => h.2) h1)
    (AllReadyH.cons hj (fun K' hK => by rw [if_pos hwj]; exact Oper.wp_mono (fun a w h => hK.out a w h.1 fun _ => h.2) h2) AllReadyH.nil))
end

def cutB (e : Dk) (s : ByteArray) (n : Int) : Int × Dk :=
  match e.fs[D.find e.fs s]? with
  | none => (30, e)
  | some f =>
    if n < 0 ∨ (f.b.length : Int) < n then (2, e)
    else (0, { e with fs := e.fs.modify (D.find e.fs s) fun f => { f with b := f.b.take n.toNat, safe := min f.safe n.toNat } })

theorem cut_eq (d : Dk) (s : ByteArray) (n : Int) : D.cut d s n = if d.stopped then (32, d) else cutB d.tick s n := rfl

theorem get_find {fs : List Fl} (hr : D.Rising fs) {f : Fl} (hf : f ∈ fs) : fs[D.find fs f.nm]? = some f := by
  have ht : D.isThere fs f.nm = true := D.isThere_mem.2 ⟨f, hf, rfl⟩
  have hl := D.find_lt ht
  rw [List.getElem?_eq_getElem hl]
  congr 1
  exact hr.uniq (List.getElem_mem hl) hf (D.find_nm hl)

set_option maxRecDepth 20000 in
set_option maxHeartbeats 3200000 in
theorem CutC_any (d : Dk) (X : Nat → Prop) (gd bd bn bk : Nat) (s : ByteArray) (n : Int) (w : World) (hd : PDskIn w X gd d) (hg : Good d) (hs : s.size ≤ 9223372036854775807) (hn1 : -9223372036854775808 ≤ n) (hn2 : n ≤ 9223372036854775807)
    (c1 : w.cell? ⟨bd, 0, none⟩ = some (.pointer (some ⟨gd, 0, none⟩))) (c2 : w.cell? ⟨bn, 0, none⟩ = some (.string s)) (c3 : w.cell? ⟨bk, 0, none⟩ = some (.int .i64 n)) (hbx : (bd < w.heap.size ∧ ¬ X bd) ∧ (bn < w.heap.size ∧ ¬ X bn) ∧ (bk < w.heap.size ∧ ¬ X bk)) :
    Calls Tryz.prog 100 #[.pointer (some ⟨bd, 0, none⟩), .pointer (some ⟨bn, 0, none⟩), .pointer (some ⟨bk, 0, none⟩)] w (PPost w X gd (cutB d s n)) := by
  have HX := Lib.hid hd.2
  have HD := Lib.hid hd.1
  have HG := Lib.hid hg
  have HBX := Lib.hid hbx
  obtain ⟨gm, M, E, hat⟩ := hd.1
  obtain ⟨⟨-, -, d2⟩, -, hz⟩ := hat.cells
  have hlk : ∀ m, (Instr.lookup 53 (.map (some gm)) (.string s) false).run Tryz.prog (w.drewN m) = .ok (ptrOf d E s) (w.drewN m) := fun m => hat.look hs (w' := w.drewN m) rfl
  have HAT := Lib.hid hat
  have HC1 := Lib.hid c1
  have HC3 := Lib.hid c3
  obtain ⟨⟨b1, -⟩, ⟨b2, -⟩, b3, -⟩ := hbx
  clear hd hg hat
  go_enter Tryz.func100, Tryz.ntmps100
  go_wp2_with fail
  go_quiet (fail)
  clear hlk
  generalize hW1 : World.drewN w _ = W1
  have HO1 : Hid (Only X w W1) := Lib.hid (by rw [← hW1]; exact Only.drewN _ _ _)
  have HH1 : Hid (W1.heap = w.heap) := Lib.hid (by rw [← hW1]; rfl)
  clear hW1
  have hat1 : PDAt W1 X gd d d.free gm M E := HAT.out.same (fun _ h => h) fun k _ => by rw [HH1.out]
  have c1 := (cell_only HO1.out HBX.out.1.1 HBX.out.1.2 0).trans c1
  have c3 := (cell_only HO1.out HBX.out.2.2.1 HBX.out.2.2.2 0).trans c3
  cases ht : D.isThere d.fs s with
  | false =>
    have hp : ptrOf d E s = .pointer none := by unfold ptrOf; rw [ht]; rfl
    rw [hp]
    have HE : Hid (cutB d s n = (30, d)) := Lib.hid (by
      unfold cutB
      rw [List.getElem?_eq_none (D.find_ge ht)])
    have HA := Lib.hid hat1
    clear ht hp hat1
    go_wp2_with fail
    go_ret
    rw [HE.out]
    exact PPost.of HO1.out rfl (Only.refl _ _) ⟨gm, M, E, HA.out.same (fun _ h => .inl h) fun _ _ => rfl⟩
  | true =>
    obtain ⟨f, hf, rfl⟩ := D.isThere_mem.1 ht
    have hp : ptrOf d E f.nm = .pointer (some ⟨(E f.nm).1, 0, none⟩) := by unfold ptrOf; rw [ht]; rfl
    rw [hp]
    have hgf := get_find HG.out.2.1 hf
    have hfa := hat1.each f hf
    obtain ⟨e0, -, -, -, ez, va, vc, hv, hvl, hvc⟩ := hfa.cells
    have HOWN := Lib.hid (fun (g : Nat) (hg : g = (E f.nm).1) (W2 : World) (v' : Value) (m : Nat) (hm : m ≤ f.b.length) (h1 : FileAt W2 g v' { f with b := f.b.take m, safe := min f.safe m }) (h2 : v'.ownBlock = (E f.nm).2.ownBlock) (h3 : Only (fun k => k = g) W1 W2) =>
      file_done (f := f) hat1 (fun k hk => by rw [HH1.out]; exact HX.out k hk) HG.out.2.1 hf (fun f => { f with b := f.b.take m, safe := min f.safe m }) (fun _ => rfl) (v' := v') (by rw [← hg]; exact h1) h2 (by rw [← hg]; exact h3))
    have hbd : (E f.nm).1 ≠ gd := (hat1.kinds.2.1 f hf).1
    obtain ⟨g, hgb⟩ : ∃ g, g = (E f.nm).1 := ⟨_, rfl⟩
    rw [← hgb] at e0 ez hfa hbd ⊢
    rw [hv] at e0
    obtain ⟨len, hlen⟩ : ∃ len, len = f.b.length := ⟨_, rfl⟩
    rw [← hlen] at e0 hvl
    have HFA := Lib.hid hfa
    have HA := Lib.hid hat1
    have HF := Lib.hid hf
    have HLEN := Lib.hid hlen
    have HSAFE := Lib.hid (HG.out.2.2 f hf)
    have HGF := Lib.hid hgf
    have HHV := Lib.hid hv
    have HGB := Lib.hid hgb
    obtain ⟨⟨d0, -, -⟩, ⟨f0, -, -⟩, hz1⟩ := hat1.cells
    have b1 : bd < W1.heap.size := by rw [HH1.out]; exact b1
    have b3 : bk < W1.heap.size := by rw [HH1.out]; exact b3
    clear ht hp hf hgf hfa hat1 hlen hv hgb
    by_cases hneg : n < 0
    · have HE : Hid (cutB d f.nm n = (2, d)) := Lib.hid (by
        unfold cutB
        rw [HGF.out]
        simp only
        rw [if_pos (.inl hneg)])
      go_wp2_with fail
      go_quiet (fail)
      go_wp2_with fail
      go_ret
      rw [HE.out]
      exact PPost.of HO1.out rfl (Only.drewN _ _ _) ⟨gm, M, E, HA.out.same (fun _ h => .inl h) fun _ _ => rfl⟩
    · have hneg2 : decide (n < 0) = false := by simp; omega
      by_cases hbig : (len : Int) < n
      · have HE : Hid (cutB d f.nm n = (2, d)) := Lib.hid (by
          unfold cutB
          rw [HGF.out]
          simp only
          rw [if_pos (.inr (by rw [← HLEN.out]; exact hbig))])
        clear hneg
        go_wp2_with fail
        go_quiet (fail)
        go_wp2_with fail
        go_ret
        rw [HE.out]
        exact PPost.of HO1.out rfl (Only.drewN _ _ _) ⟨gm, M, E, HA.out.same (fun _ h => .inl h) fun _ _ => rfl⟩
      · have hbig2 : decide ((len : Int) < n) = false := by simp; omega
        obtain ⟨m, rfl⟩ : ∃ m : Nat, n = (m : Int) := ⟨n.toNat, by omega⟩
        have HM : Hid (m ≤ len) := Lib.hid (by omega)
        clear hneg hbig
        have hb3 : decide (len < m) = false := by have := HM.out; simp; omega
        go_wp2_with fail
        go_quiet (fail)
        go_wp2_with fail
        generalize hW2 : World.drewN W1 _ = W2
        have HO2 : Hid (Only X w W2) := Lib.hid (by rw [← hW2]; exact HO1.out.then (Only.drewN _ _ _))
        have HH2 : Hid (W2.heap = W1.heap) := Lib.hid (by rw [← hW2]; rfl)
        have HW2 : Hid (∀ w', Only (fun j => j = g ∨ j = gd) W2 w' → Only (fun j => j = g ∨ j = gd) W1 w') := Lib.hid fun w' h => by rw [← hW2] at h; exact (show Only (fun j => j = g ∨ j = gd) W1 (World.drewN W1 _) from Only.drewN _ _ _).then h
        have HW2g : Hid (∀ w', Only (fun j => j = g) W2 w' → Only (fun j => j = g) W1 w') := Lib.hid fun w' h => by rw [← hW2] at h; exact (show Only (fun j => j = g) W1 (World.drewN W1 _) from Only.drewN _ _ _).then h
        clear hW2 hneg2 hbig2 hb3
        have hgX : X g := by rw [HGB.out]; exact (HA.out.foot.2.2 f HF.out).1
        have hgdX : X gd := HA.out.foot.1
        have hbdz : bd < W2.heap.size := by rw [HH2.out]; exact b1
        have hbkz : bk < W2.heap.size := by rw [HH2.out]; exact b3
        have hgdz : gd < W2.heap.size := by rw [HH2.out]; exact hz1
        have hFA2 : FileAt W2 g (E f.nm).2 f := HFA.out.same (by rw [HH2.out]) fun k _ => by rw [HH2.out]
        have HFA2 : Hid (FileAt W2.drew g (E f.nm).2 f) := Lib.hid (hFA2.same rfl fun _ _ => rfl)
        have hmle : m ≤ f.b.length := by rw [← HLEN.out]; exact HM.out
        -- what the whole leaves
        have HFIN : Hid (∀ (w3 : World) (v' : Value), v'.ownBlock = (E f.nm).2.ownBlock → FileAt w3 g v' { f with b := f.b.take m, safe := min f.safe m } → Only (fun j => j = g) W2 w3 → w3.heap.size = W2.heap.size → PPost w X gd (cutB d f.nm (m : Int)) (.returned (.int .i64 0)) (w3.setCell ⟨gd, 0, none⟩ (.int .i64 (d.free + ((len - m : Nat) : Int))))) := Lib.hid fun w3 v' hv' hfa' ho3 hz3 => by
          obtain ⟨q1, E', q2⟩ := HOWN.out g HGB.out w3 v' m hmle hfa' hv' (HW2g.out w3 ho3)
          have hb := q2.box
          have hb2 := heap_setCell_same _ _ 0 _ _ (.int .i64 (d.free + ((len - m : Nat) : Int))) hb
          have hE : cutB d f.nm (m : Int) = (0, { d with fs := d.fs.modify (D.find d.fs f.nm) fun f => { f with b := f.b.take m, safe := min f.safe m } }) := by
            unfold cutB
            rw [HGF.out]
            simp only
            rw [if_neg (by omega)]
            simp
          rw [hE]
          refine PPost.of HO1.out rfl (q1.set (.inl hgdX) _) ⟨gm, M, E', ?_⟩
          have hfr : ({ d with fs := d.fs.modify (D.find d.fs f.nm) fun f => { f with b := f.b.take m, safe := min f.safe m } } : Dk).free = d.free + ((len - m : Nat) : Int) := by
            have hfl : D.find d.fs f.nm < d.fs.length := D.find_lt (D.isThere_mem.2 ⟨f, HF.out, rfl⟩)
            have hu := D.used_modify d.fs (D.find d.fs f.nm) (fun f => { f with b := f.b.take m, safe := min f.safe m }) hfl
            have hg2 : d.fs[D.find d.fs f.nm] = f := by
              have := HGF.out
              rw [List.getElem?_eq_getElem hfl] at this
              simpa using this
            rw [hg2] at hu
            simp only [List.length_take, Nat.min_eq_left hmle] at hu
            unfold D.Dk.free
            simp only
            have := HLEN.out
            omega
          rw [hfr]
          exact (q2.ticked (d' := { d with fs := d.fs.modify (D.find d.fs f.nm) fun f => { f with b := f.b.take m, safe := min f.safe m } }) rfl (by rw [hb2]; simp [restOf]) fun k hk => Below.heap_setCell _ _ _ _ (by simpa using hk)).same (fun _ h => .inl h) fun _ _ => rfl
        have hsum : d.free + ((len - m : Nat) : Int) ≤ 9223372036854775807 ∧ 0 ≤ d.free := by
          have h1 := HG.out.1.2.2.2.2
          have h2 := D.used_mem HF.out
          have h3 := HG.out.1.2.2.1
          have h4 := HLEN.out
          unfold D.Dk.free at *
          omega
        obtain ⟨fr, hfr⟩ : ∃ fr, fr = d.free := ⟨_, rfl⟩
        rw [← hfr] at hsum d0
        rw [← hfr] at HFIN
        obtain ⟨r, hr⟩ : ∃ r, r = len - m := ⟨_, rfl⟩
        rw [← hr] at hsum
        rw [← hr] at HFIN
        have HR := Lib.hid hr
        have hsum1 := hsum.1
        have hsum2 : 0 ≤ fr + (r : Int) := by omega
        have hwr : IntKind.i64.wrap (fr + (r : Int)) = fr + (r : Int) := IntWalk.i64_in _ (by omega)
        have hne1 : ¬ (bd = g ∨ bd = gd) := fun h => by
          rcases h with h | h
          · exact HBX.out.1.2 (h ▸ hgX)
          · exact HBX.out.1.2 (h ▸ hgdX)
        have hne3 : ¬ (bk = g ∨ bk = gd) := fun h => by
          rcases h with h | h
          · exact HBX.out.2.2.2 (h ▸ hgX)
          · exact HBX.out.2.2.2 (h ▸ hgdX)
        have hgg : gd ≠ g := fun h => hbd h.symm
        refine wp_region_held (S := fun w' => Only (fun j => j = g ∨ j = gd) W2 w') (by kernel_rfl) ?_
        have hS : Only (fun j => j = g ∨ j = gd) W2 W2.drew := ⟨rfl, rfl, rfl, Nat.le_refl _, fun _ _ _ => rfl⟩
        have r1 : ∀ w', Only (fun j => j = g ∨ j = gd) W2 w' → w'.cell? ⟨bd, 0, none⟩ = some (.pointer (some ⟨gd, 0, none⟩)) := fun w' hw' => ((cell_only hw' hbdz hne1 0).trans (World.cell?_of_block (a := ⟨bd, 0, none⟩) (by rw [HH2.out]))).trans c1
        have r3 : ∀ w', Only (fun j => j = g ∨ j = gd) W2 w' → w'.cell? ⟨bk, 0, none⟩ = some (.int .i64 (m : Int)) := fun w' hw' => ((cell_only hw' hbkz hne3 0).trans (World.cell?_of_block (a := ⟨bk, 0, none⟩) (by rw [HH2.out]))).trans c3
        have k0 : W2.drew.cell? ⟨gd, 0, none⟩ = some (.int .i64 fr) := (World.cell?_of_block (a := ⟨gd, 0, none⟩) (show W2.heap[gd]? = W1.heap[gd]? by rw [HH2.out])).trans d0
        have HK0 := Lib.hid k0
        have HFZ : Hid (W2.frozen? ⟨gd, 0, none⟩ = false) := Lib.hid (by
          have e : W2.frozen? ⟨gd, 0, none⟩ = W1.frozen? ⟨gd, 0, none⟩ := by simp [World.frozen?, HH2.out]
          rw [e]; exact f0)
        have HGG := Lib.hid hgg
        have HCALL : Hid (∀ e (w3 : World), (e = Ending.returned (.int .i64 ((f.b.length - m : Nat) : Int)) ∧ Only (fun k => k = g) W2.drew w3 ∧ w3.heap.size = W2.drew.heap.size ∧ ∃ v', v'.ownBlock = (E f.nm).2.ownBlock ∧ FileAt w3 g v' { f with b := f.b.take m, safe := min f.safe m }) →
            e = .returned (.int .i64 (r : Int)) ∧ Only (fun j => j = g ∨ j = gd) W2 w3 ∧ w3.cell? ⟨gd, 0, none⟩ = some (.int .i64 fr) ∧ w3.frozen? ⟨gd, 0, none⟩ = false ∧ gd < w3.heap.size ∧ PPost w X gd (cutB d f.nm (m : Int)) (.returned (.int .i64 0)) (w3.setCell ⟨gd, 0, none⟩ (.int .i64 (fr + (r : Int))))) := Lib.hid fun e w3 h => by
          obtain ⟨rfl, h1, h2, v', h3, h4⟩ := h
          have ho : Only (fun k => k = g) W2 w3 := ⟨h1.os, h1.tape, h1.output, h1.size, h1.block⟩
          have hbk := ho.block gd hgdz HGG.out
          refine ⟨by rw [HR.out, HLEN.out], ho.mono (fun k hk => .inl hk), (cell_only ho hgdz HGG.out 0).trans HK0.out, ?_, by rw [h2]; exact hgdz, HFIN.out w3 v' h3 h4 ho h2⟩
          have e : w3.frozen? ⟨gd, 0, none⟩ = W2.frozen? ⟨gd, 0, none⟩ := by simp [World.frozen?, hbk]
          rw [e]; exact HFZ.out
        clear hsum hne1 hne3 hgg d0 f0 hr hfr c1 c3 hvl hgX hgdX hFA2 e0 ez
        refine H_take (i := 0) (v := ?_) rfl (by as_aux_lemma => kernel_rfl) (by as_aux_lemma => kernel_rfl) (by as_aux_lemma => kernel_rfl) (fun _ _ _ h => h) (by rfl) hS ?_ ?_
        rotate_left
        · intro w' hw'; go_simp; with_reducible rfl
        go_simp
        refine H_take (i := 1) (v := ?_) rfl (by as_aux_lemma => kernel_rfl) (by as_aux_lemma => kernel_rfl) (by as_aux_lemma => kernel_rfl) (fun _ _ _ h => h) (by rfl) hS ?_ ?_
        rotate_left
        · intro w' hw'; go_simp; with_reducible rfl
        go_simp
        refine H_take (i := 2) (v := ?_) rfl (by as_aux_lemma => kernel_rfl) (by as_aux_lemma => kernel_rfl) (by as_aux_lemma => kernel_rfl) (fun _ _ _ h => h) (by rfl) hS ?_ ?_
        rotate_left
        · intro w' hw'; go_simp; with_reducible rfl
        go_simp
        refine H_take (i := 4) (v := ?_) rfl (by as_aux_lemma => kernel_rfl) (by as_aux_lemma => kernel_rfl) (by as_aux_lemma => kernel_rfl) (fun _ _ _ h => h) (by rfl) hS ?_ ?_
        rotate_left
        · intro w' hw'; go_simp; with_reducible rfl
        go_simp
        refine H_take (i := 5) (v := ?_) rfl (by as_aux_lemma => kernel_rfl) (by as_aux_lemma => kernel_rfl) (by as_aux_lemma => kernel_rfl) (fun _ _ _ h => h) (by rfl) hS ?_ ?_
        rotate_left
        · intro w' hw'; go_simp; with_reducible rfl
        go_simp
        refine H_either (i := 3) (j := 6) (by as_aux_lemma => kernel_rfl) rfl rfl (by rfl) (by rfl) ?_ ?_
        · go_simp
          refine H_one (i := 6) (by as_aux_lemma => kernel_rfl) rfl (by rfl) ?_
          go_simp
          refine (FCut_any g _ f m _ HFA2.out hmle HSAFE.out).mono ?_
          intro e w3 hpost
          obtain ⟨rfl, ho3, k3, f3, z3, hp⟩ := HCALL.out e w3 hpost
          have HP := Lib.hid hp
          clear hpost hp hS
          refine ⟨ho3, ?_⟩
          go_simp
          refine H_take (i := 7) (v := ?_) rfl (by as_aux_lemma => kernel_rfl) (by as_aux_lemma => kernel_rfl) (by as_aux_lemma => kernel_rfl) (fun _ _ _ h => h) (by rfl) ho3 ?_ ?_
          rotate_left
          · intro w' hw'; go_simp; with_reducible rfl
          go_simp
          refine H_take (i := 8) (v := ?_) rfl (by as_aux_lemma => kernel_rfl) (by as_aux_lemma => kernel_rfl) (by as_aux_lemma => kernel_rfl) (fun _ _ _ h => h) (by rfl) ho3 ?_ ?_
          rotate_left
          · intro w' hw'; go_simp; with_reducible rfl
          go_simp
          refine H_take (i := 9) (v := ?_) rfl (by as_aux_lemma => kernel_rfl) (by as_aux_lemma => kernel_rfl) (by as_aux_lemma => kernel_rfl) (fun _ _ _ h => h) (by rfl) ho3 ?_ ?_
          rotate_left
          · intro w' hw'; go_simp; with_reducible rfl
          go_simp
          refine H_one (i := 10) (by as_aux_lemma => kernel_rfl) rfl (by rfl) ?_
          go_simp
          refine ⟨ho3.set (.inl (.inr rfl)) _, ?_⟩
          refine wpAnyH_done (by as_aux_lemma => kernel_rfl) ?_ _
          clear r1 r3 ho3 k3 f3 z3
          go_wp2_with fail
          go_ret
          exact HP.out
        · go_simp
          refine (FCut_any g _ f m _ HFA2.out hmle HSAFE.out).mono ?_
          intro e w3 hpost
          obtain ⟨rfl, ho3, k3, f3, z3, hp⟩ := HCALL.out e w3 hpost
          have HP := Lib.hid hp
          clear hpost hp hS
          refine ⟨ho3, ?_⟩
          go_simp
          refine H_one (i := 3) (by as_aux_lemma => kernel_rfl) rfl (by rfl) ?_
          go_simp
          refine H_take (i := 7) (v := ?_) rfl (by as_aux_lemma => kernel_rfl) (by as_aux_lemma => kernel_rfl) (by as_aux_lemma => kernel_rfl) (fun _ _ _ h => h) (by rfl) ho3 ?_ ?_
          rotate_left
          · intro w' hw'; go_simp; with_reducible rfl
          go_simp
          refine H_take (i := 8) (v := ?_) rfl (by as_aux_lemma => kernel_rfl) (by as_aux_lemma => kernel_rfl) (by as_aux_lemma => kernel_rfl) (fun _ _ _ h => h) (by rfl) ho3 ?_ ?_
          rotate_left
          · intro w' hw'; go_simp; with_reducible rfl
          go_simp
          refine H_take (i := 9) (v := ?_) rfl (by as_aux_lemma => kernel_rfl) (by as_aux_lemma => kernel_rfl) (by as_aux_lemma => kernel_rfl) (fun _ _ _ h => h) (by rfl) ho3 ?_ ?_
          rotate_left
          · intro w' hw'; go_simp; with_reducible rfl
          go_simp
          refine H_one (i := 10) (by as_aux_lemma => kernel_rfl) rfl (by rfl) ?_
          go_simp
          refine ⟨ho3.set (.inl (.inr rfl)) _, ?_⟩
          refine wpAnyH_done (by as_aux_lemma => kernel_rfl) ?_ _
          clear r1 r3 ho3 k3 f3 z3
          go_wp2_with fail
          go_ret
          exact HP.out
end Go.Proofs.YtamgjlegcegmeaaGreatDoor.M

/- Part: ProjN. -/
namespace Go.Proofs.YtamgjlegcegmeaaGreatDoor.M
open Go.RowKit Go.Maps
open D (Fl Dk)

def renameB (e : Dk) (a b : ByteArray) : Int × Dk :=
  if D.isThere e.fs a = false ∨ D.okName b = false then (30, e)
  else
    match e.fs[D.find e.fs a]? with
    | none => (30, e)
    | some f =>
      let fs := e.fs.eraseIdx (D.find e.fs a)
      let fs := fs.eraseIdx (D.find fs b)
      (0, { e with fs := D.add fs { f with nm := b } })

theorem rename_eq (d : Dk) (a b : ByteArray) : D.rename d a b = if d.stopped then (32, d) else renameB d.tick a b := rfl

theorem bytesOf_erase {fs : List Fl} (hr : D.Rising fs) (s : ByteArray) : D.used (fs.eraseIdx (D.find fs s)) + (bytesOf fs s).length = D.used fs := by
  cases ht : D.isThere fs s with
  | false =>
    rw [D.erase_beyond ht]
    unfold bytesOf
    rw [find_none ht]; simp
  | true =>
    obtain ⟨f, hf, rfl⟩ := D.isThere_mem.1 ht
    have hl := D.find_lt ht
    have h1 := D.used_erase fs _ hl
    have h2 := get_find hr hf
    rw [List.getElem?_eq_getElem hl] at h2
    unfold bytesOf
    rw [find_some hr hf]
    simp only [Option.some.injEq] at h2
    rw [h2] at h1
    exact h1

theorem turned_facts {w w' : World} {gm : Nat} (h : w.mapTurned w' gm) : w'.heap.size = w.heap.size ∧ (∀ k, k ≠ gm → w'.heap[k]? = w.heap[k]?) ∧ Only (fun k => k = gm) w w' := by
  have hg := h.grown
  have hsz : w'.heap.size = w.heap.size := by
    obtain ⟨es, c, es', c', h1, h2⟩ := h
    rw [h2]; simp [Go.ChangeMaps.setBlock]
  have hk : ∀ k, k ≠ gm → w'.heap[k]? = w.heap[k]? := fun k hk => by
    rcases Nat.lt_or_ge k w.heap.size with h1 | h1
    · exact hg.block k h1 (by simpa using hk)
    · rw [Array.getElem?_eq_none (by omega), Array.getElem?_eq_none (by omega)]
  exact ⟨hsz, hk, hg.os, hg.tape, hg.output, by omega, fun k _ h1 => hk k h1⟩

/-- What Rename leaves. -/
theorem rename_done {W w3 w4 w5 : World} {X : Nat → Prop} {gd gm n n2 : Nat} {d : Dk} {M M' : DataW Nat} {E : ByteArray → Nat × Value} {f : Fl} {b : ByteArray} (h : PDAt W X gd d d.free gm M E) (hr : D.Rising d.fs) (hf : f ∈ d.fs)
    (_hm3 : w3.ownsMap Tryz.prog 9 ptrElem gm n (M.del (.string f.nm.data.toList))) (ho3 : ∀ k, k ≠ gm → w3.heap[k]? = W.heap[k]?)
    (ho4 : ∀ k, k ≠ gd → k ≠ gm → w4.heap[k]? = w3.heap[k]?)
    (h4 : PDAt w4 X gd { d with fs := (d.fs.eraseIdx (D.find d.fs f.nm)).eraseIdx (D.find (d.fs.eraseIdx (D.find d.fs f.nm)) b) } (d.free + ((bytesOf (d.fs.eraseIdx (D.find d.fs f.nm)) b).length : Int)) gm M' E)
    (hm5 : w5.ownsMap Tryz.prog 9 ptrElem gm n2 (M'.put (.string b.data.toList) (.held (E f.nm).1))) (ho5 : ∀ k, k ≠ gm → w5.heap[k]? = w4.heap[k]?) (hok : D.okName b = true) :
    PDsk w5 X gd (renameB d f.nm b).2 ∧ (renameB d f.nm b).1 = 0 := by
  obtain ⟨k1, k2, k3⟩ := h.kinds
  have ht : D.isThere d.fs f.nm = true := D.isThere_mem.2 ⟨f, hf, rfl⟩
  have hE : renameB d f.nm b = (0, { d with fs := D.add ((d.fs.eraseIdx (D.find d.fs f.nm)).eraseIdx (D.find (d.fs.eraseIdx (D.find d.fs f.nm)) b)) { f with nm := b } }) := by
    unfold renameB
    rw [if_neg (by rw [ht, hok]; simp), get_find hr hf]
  have hr1 := hr.erase (D.find d.fs f.nm)
  have hm1 : ∀ g, g ∈ (d.fs.eraseIdx (D.find d.fs f.nm)).eraseIdx (D.find (d.fs.eraseIdx (D.find d.fs f.nm)) b) ↔ (g ∈ d.fs ∧ g.nm ≠ f.nm) ∧ g.nm ≠ b := fun g => by rw [D.mem_erase hr1, D.mem_erase hr]
  have hfa := h.each f hf
  have hkeep : ∀ k, k ≠ gd → k ≠ gm → w5.heap[k]? = W.heap[k]? := fun k h1 h2 => (ho5 k h2).trans ((ho4 k h1 h2).trans (ho3 k h2))
  have hfa5 : FileAt w5 (E f.nm).1 (E f.nm).2 { f with nm := b } := hfa.same (hkeep _ (k2 f hf).1 (k2 f hf).2) fun k hk => hkeep k (k3 f hf k hk).1 (k3 f hf k hk).2.1
  rw [hE]
  refine ⟨⟨gm, M'.put (.string b.data.toList) (.held (E f.nm).1), fun t => if t = b then ((E f.nm).1, (E f.nm).2) else E t, ?_⟩, rfl⟩
  have hfree : ({ d with fs := D.add ((d.fs.eraseIdx (D.find d.fs f.nm)).eraseIdx (D.find (d.fs.eraseIdx (D.find d.fs f.nm)) b)) { f with nm := b } } : Dk).free = d.free + ((bytesOf (d.fs.eraseIdx (D.find d.fs f.nm)) b).length : Int) := by
    have h1 := bytesOf_erase hr1 b
    have h2 := bytesOf_erase hr f.nm
    have h3 : bytesOf d.fs f.nm = f.b := by unfold bytesOf; rw [find_some hr hf]
    rw [h3] at h2
    unfold D.Dk.free
    simp only
    rw [D.used_add]
    simp only
    omega
  rw [hfree]
  exact h4.added (x := { f with nm := b }) (Y := X) (D.isThere_not.2 fun g hg => ((hm1 g).1 hg).2) rfl (fun _ hk => hk) hm5 ((ho5 gd k1.symm).trans h4.box) hfa5 (h.foot.2.2 f hf)
    (fun g hg => by
      have := (hm1 g).1 hg
      exact h.apart f hf g this.1.1 fun e => this.1.2 e.symm) fun k _ _ hk => ho5 k hk

end Go.Proofs.YtamgjlegcegmeaaGreatDoor.M

/- Part: ProjL. -/
namespace Go.Proofs.YtamgjlegcegmeaaGreatDoor.M
open Go.RowKit Go.Maps
open D (Fl Dk)

def syncB (e : Dk) (names : List ByteArray) : Int × Dk :=
  if names.all (D.isThere e.fs) = false then (30, e) else (0, { e with fs := names.foldl (fun fs s => D.syncAt fs (D.find fs s)) e.fs })

theorem sync_eq (d : Dk) (names : List ByteArray) : D.sync d names = if d.stopped then (32, d) else syncB d.tick names := rfl

def syncF (fs : List Fl) (l : List ByteArray) : List Fl := l.foldl (fun fs s => D.syncAt fs (D.find fs s)) fs

theorem syncF_names (l : List ByteArray) : ∀ fs : List Fl, (syncF fs l).map (·.nm) = fs.map (·.nm) := by
  induction l with
  | nil => intro fs; rfl
  | cons s r ih => intro fs; exact (ih _).trans (D.names_modify _ _ _ fun _ => rfl)

theorem used_same {fs gs : List Fl} (h : fs.map (fun f => f.b.length) = gs.map (fun f => f.b.length)) : D.used fs = D.used gs := by unfold D.used; rw [h]

theorem syncF_used (l : List ByteArray) : ∀ fs : List Fl, D.used (syncF fs l) = D.used fs := by
  induction l with
  | nil => intro fs; rfl
  | cons s r ih =>
    intro fs
    refine (ih _).trans (used_same ?_)
    unfold D.syncAt
    apply List.ext_getElem?
    intro j
    rw [List.getElem?_map, List.getElem?_map, List.getElem?_modify]
    cases fs[j]? with
    | none => rfl
    | some f => by_cases hj : D.find fs s = j <;> simp [hj]

theorem isThere_of_names {fs gs : List Fl} (h : fs.map (·.nm) = gs.map (·.nm)) (s : ByteArray) : D.isThere fs s = D.isThere gs s := by
  have hm : ∀ (a b : List Fl), a.map (·.nm) = b.map (·.nm) → D.isThere a s = true → D.isThere b s = true := fun a b e hh => by
    obtain ⟨f, hf, hft⟩ := D.isThere_mem.1 hh
    have : s ∈ b.map (·.nm) := by rw [← e]; exact List.mem_map.2 ⟨f, hf, hft⟩
    obtain ⟨g, hg, hgt⟩ := List.mem_map.1 this
    exact D.isThere_mem.2 ⟨g, hg, hgt⟩
  rw [Bool.eq_iff_iff]
  exact ⟨hm _ _ h, hm _ _ h.symm⟩

/-- The state at the head of the loop. -/
def PSyncAt (w1 : World) (X : Nat → Prop) (gd gm : Nat) (d : Dk) (fr : Int) (M : DataW Nat) (names : List ByteArray) (k : Nat) (wr : World) : Prop :=
  Only X w1 wr ∧ wr.heap.size = w1.heap.size ∧ ∃ E, PDAt wr X gd { d with fs := syncF d.fs (names.take k) } fr gm M E

set_option maxRecDepth 20000 in
set_option maxHeartbeats 3200000 in
theorem SyncC_any (d : Dk) (X : Nat → Prop) (gd bd bn : Nat) (names : List ByteArray) (F : Nat → Prop) (vn : Value) (w : World) (hd : PDskIn w X gd d) (hg : Good d) (hs : ∀ s ∈ names, s.size ≤ 9223372036854775807)
    (hv : RepSl w F names vn) (hF : ∀ k, F k → k < w.heap.size ∧ ¬ X k)
    (c1 : w.cell? ⟨bd, 0, none⟩ = some (.pointer (some ⟨gd, 0, none⟩))) (c2 : w.cell? ⟨bn, 0, none⟩ = some vn) (hbx : (bd < w.heap.size ∧ ¬ X bd) ∧ (bn < w.heap.size ∧ ¬ X bn)) :
    Calls Tryz.prog 57 #[.pointer (some ⟨bd, 0, none⟩), .pointer (some ⟨bn, 0, none⟩)] w (PPost w X gd (syncB d names)) := by
  obtain ⟨na, nc, rfl, hnl⟩ := hv.slice
  have HV := Lib.hid hv
  have HF := Lib.hid hF
  have HX := Lib.hid hd.2
  have HD := Lib.hid hd.1
  have HG := Lib.hid hg
  have HS := Lib.hid hs
  have HBX := Lib.hid hbx
  have HC1 := Lib.hid c1
  obtain ⟨⟨b1, -⟩, b2, -⟩ := hbx
  clear hv hF hd hg hs
  go_enter Tryz.func57, Tryz.ntmps57
  go_wp2_with fail
  refine (Has_any d X gd names F _ w HD.out HV.out (fun k hk => (HF.out k hk).1) HS.out).mono ?_
  rintro e w1 ⟨rfl, rfl⟩
  cases hall : names.all (D.isThere d.fs) with
  | false =>
    have HE : Hid (syncB d names = (30, d)) := Lib.hid (by unfold syncB; rw [if_pos hall])
    clear hall
    go_wp2_with fail
    go_ret
    rw [HE.out]
    exact PPost.of (Only.refl _ _) rfl (Only.refl _ _) HD.out.up
  | true =>
    have HALL := Lib.hid hall
    have HE : Hid (syncB d names = (0, { d with fs := syncF d.fs names })) := Lib.hid (by unfold syncB; rw [if_neg (by rw [hall]; simp)]; rfl)
    obtain ⟨gm, M, E, hat⟩ := HD.out
    have H0 : Hid (PSyncAt w X gd gm d d.free M names 0 w) := Lib.hid ⟨Only.refl _ _, rfl, E, hat⟩
    clear hall hat
    go_wp2_with fail
    go_loopw [4, 11] (fun _ i wr => ∃ k : Nat, k ≤ names.length ∧ i = .int .i64 (k : Int) ∧ PSyncAt w X gd gm d d.free M names k wr) (fun _ i _ => names.length - (intOf i).toNat)
    case atStart => exact ⟨0, Nat.zero_le _, rfl, H0.out⟩
    case round =>
      obtain ⟨k, hk, rfl, ho, hz, E, hat⟩ := hrel
      by_cases hlt : k < names.length
      · have hkk : (k : Int) < (names.length : Int) := by omega
        have hv2 : RepSl wr F names (.slice na names.length nc) := HV.out.same (fun _ h => h) fun j hj => ho.block j (HF.out j hj).1 (HF.out j hj).2
        obtain ⟨b, off, rfl, hFb, hc⟩ := hv2.elem k hlt
        have hbz : b < wr.heap.size := by rw [hz]; exact (HF.out b hFb).1
        obtain ⟨s, hse⟩ : ∃ s, s = names[k] := ⟨_, rfl⟩
        rw [← hse] at hc
        have hmem : s ∈ names := by rw [hse]; exact List.getElem_mem hlt
        have hl := hat.look (HS.out s hmem) (w' := wr) rfl
        obtain ⟨⟨-, -, d2⟩, -, hgz⟩ := hat.cells
        have hr2 : D.Rising (syncF d.fs (names.take k)) := HG.out.2.1.of_names (syncF_names _ _)
        have ht : D.isThere (syncF d.fs (names.take k)) s = true := by
          rw [isThere_of_names (syncF_names _ _)]
          exact List.all_eq_true.1 HALL.out s hmem
        obtain ⟨f, hf, hfs⟩ := D.isThere_mem.1 ht
        have hp : ptrOf { d with fs := syncF d.fs (names.take k) } E s = .pointer (some ⟨(E s).1, 0, none⟩) := by
          unfold ptrOf
          simp only [ht, if_true]
        rw [hp] at hl
        have hfa := hat.each f hf
        rw [hfs] at hfa
        have HNEXT : Hid (∀ w2, FileAt w2 (E s).1 (E s).2 { f with safe := f.b.length } → Only (fun j => j = (E s).1) wr w2 → w2.heap.size = wr.heap.size → PSyncAt w X gd gm d d.free M names (k + 1) w2) := Lib.hid fun w2 h1 h2 h3 => by
          have hx : ∀ j, X j → j < wr.heap.size := fun j hj => by rw [hz]; exact HX.out j hj
          obtain ⟨q1, E', q2⟩ := file_done (f := f) hat hx hr2 hf (fun g => { g with safe := g.b.length }) (fun _ => rfl) (v' := (E s).2) (by rw [hfs]; exact h1) (by rw [hfs]) (by rw [hfs]; exact h2)
          refine ⟨ho.then q1, by omega, E', ?_⟩
          have e : syncF d.fs (names.take (k + 1)) = (syncF d.fs (names.take k)).modify (D.find (syncF d.fs (names.take k)) f.nm) fun g => { g with safe := g.b.length } := by
            rw [List.take_succ_eq_append_getElem hlt, ← hse, hfs]
            unfold syncF
            rw [List.foldl_append]
            rfl
          rw [e]
          exact q2
        have HFA := Lib.hid hfa
        obtain ⟨g, hgb⟩ : ∃ g, g = (E s).1 := ⟨_, rfl⟩
        rw [← hgb] at hl HFA HNEXT
        have c1 : wr.cell? ⟨bd, 0, none⟩ = some (.pointer (some ⟨gd, 0, none⟩)) := (cell_only ho HBX.out.1.1 HBX.out.1.2 0).trans HC1.out
        have b1 : bd < wr.heap.size := Nat.lt_of_lt_of_le HBX.out.1.1 ho.size
        clear hat hf hfs hr2 ht hp hfa hgb hmem hse hv2 ho hz
        go_wp2_with fail
        refine (FSync_any g _ f _ HFA.out).mono ?_
        rintro e w2 ⟨rfl, h2, h3, h1⟩
        have HN := Lib.hid (HNEXT.out w2 h1 h2 h3)
        clear h1 h2 h3
        go_wp2_with fail
        go_roundw
        case rel => exact ⟨k + 1, by omega, by go_num, HN.out⟩
        case measure => simp [intOf]; omega
      · have hkk : ¬ (k : Int) < (names.length : Int) := by omega
        obtain rfl : k = names.length := by omega
        have HP : Hid (PPost w X gd (syncB d names) (.returned (.int .i64 0)) wr) := Lib.hid (by
          rw [HE.out]
          refine PPost.of (Only.refl _ _) rfl ho ⟨gm, M, E, ?_⟩
          rw [List.take_length] at hat
          have e : ({ d with fs := syncF d.fs names } : Dk).free = d.free := by
            unfold D.Dk.free
            simp only
            rw [syncF_used]
          rw [e]
          exact hat.same (fun _ h => .inl h) fun _ _ => rfl)
        clear hat ho hz
        go_wp2_with fail
        go_ret
        exact HP.out

set_option maxRecDepth 20000 in
set_option maxHeartbeats 1600000 in
theorem PSync_any (d : Dk) (X : Nat → Prop) (gd : Nat) (names : List ByteArray) (F : Nat → Prop) (vn : Value) (w : World) (hd : PDskIn w X gd d) (hg : Good d) (hs : ∀ s ∈ names, s.size ≤ 9223372036854775807)
    (hv : RepSl w F names vn) (hF : ∀ k, F k → k < w.heap.size ∧ ¬ X k) :
    Calls Tryz.prog 29 #[.pointer (some ⟨gd, 0, none⟩), vn] w (PPost w X gd (D.sync d names)) := by
  obtain ⟨na, nc, rfl, hnl⟩ := hv.slice
  have HV := Lib.hid hv
  have HF := Lib.hid hF
  have HD := Lib.hid hd
  have HG := Lib.hid hg
  have HS := Lib.hid hs
  clear hv hF hd hg hs
  obtain ⟨W, hW⟩ : ∃ W, W = (w.alloc (.cells #[.pointer (some ⟨gd, 0, none⟩)] 24)).alloc (.cells #[.slice na names.length nc] 43) := ⟨_, rfl⟩
  have HO : Hid (Only X w W) := Lib.hid (by rw [hW]; exact ((Only.refl X w).alloc _).alloc _)
  have HB : Hid (Below w.heap.size w W) := Lib.hid (by rw [hW]; exact ((Below.refl _ w).alloc (by omega) _).alloc (by simp) _)
  have HSZ : Hid (W.heap.size = w.heap.size + 2) := Lib.hid (by rw [hW]; simp)
  have HC : Hid (W.cell? ⟨w.heap.size, 0, none⟩ = some (.pointer (some ⟨gd, 0, none⟩)) ∧ W.cell? ⟨w.heap.size + 1, 0, none⟩ = some (.slice na names.length nc)) := Lib.hid (by
    rw [hW]
    exact ⟨cell_past _ (cell_new1 _ _ _ rfl) (by simp), cell_new1 _ _ _ (by simp)⟩)
  have hwk := Work_any 57 #[.pointer (some ⟨w.heap.size, 0, none⟩), .pointer (some ⟨w.heap.size + 1, 0, none⟩)] en49 d X gd (syncB d.tick names) W
    (HD.out.1.same (fun _ h => h) fun k hk => HB.out.block k (HD.out.2 k hk)) HG.out.1.2.1 (fun w1 ho hz hd1 hst => by
      have hnx : ∀ k, w.heap.size ≤ k → ¬ X k := fun k hk hx => by have := HD.out.2 k hx; omega
      have hsz := HSZ.out
      exact SyncC_any d.tick X gd _ _ names F _ w1 ⟨hd1, fun k hk => by have := HD.out.2 k hk; omega⟩ HG.out.tick HS.out
        (HV.out.same (fun _ h => h) fun k hk => (ho.block k (by have := (HF.out k hk).1; omega) (HF.out k hk).2).trans (HB.out.block k (HF.out k hk).1)) (fun k hk => ⟨by have := (HF.out k hk).1; omega, (HF.out k hk).2⟩)
        ((cell_only ho (by omega) (hnx _ (by omega)) 0).trans HC.out.1) ((cell_only ho (by omega) (hnx _ (by omega)) 0).trans HC.out.2)
        ⟨⟨by omega, hnx _ (by omega)⟩, by omega, hnx _ (by omega)⟩)
  rw [← sync_eq] at hwk
  have HWK := Lib.hid hwk
  have HWE := Lib.hid hW
  clear hwk hW
  go_enter Tryz.func29, Tryz.ntmps29
  go_wp2_with fail
  rw [← HWE.out]
  refine HWK.out.mono ?_
  intro e w' hp
  have HP := Lib.hid (hp.wrap HO.out)
  obtain ⟨rfl, -, -⟩ := hp
  go_wp2_with fail
  go_ret
  exact HP.out
end Go.Proofs.YtamgjlegcegmeaaGreatDoor.M

/- Part: ProjH. -/
namespace Go.Proofs.YtamgjlegcegmeaaGreatDoor.M
open Go.RowKit Go.Maps
open D (Fl Dk)

theorem zeroInt (w : World) : (zeroValue 3).run Tryz.prog w = .ok (.int .i64 0) w := by kernel_rfl

theorem nodup_snoc {l : List ByteArray} {s : ByteArray} : (l ++ [s]).Nodup ↔ l.Nodup ∧ s ∉ l := by
  rw [List.nodup_append]
  simp only [List.nodup_cons, List.not_mem_nil, not_false_eq_true, List.nodup_nil, and_self, true_and, List.mem_singleton]
  constructor
  · rintro ⟨h1, h2⟩
    exact ⟨h1, fun h => h2 s h s rfl rfl⟩
  · rintro ⟨h1, h2⟩
    refine ⟨h1, fun a ha b hb e => ?_⟩
    subst hb
    exact h2 (e ▸ ha)

/-- Is one named twice? -/
def dupB (l : List ByteArray) : Bool := decide (¬ l.Nodup)

/-- The map of what was seen. -/
def SeenAt (w : World) (B : Nat) (l : List ByteArray) (wr : World) : Prop :=
  Below w.heap.size w wr ∧ ∃ M : DataW Nat, wr.ownsMap Tryz.prog 9 (plainElem Tryz.prog 3) B l.length M ∧ (∀ s : ByteArray, Maps.has M (.string s.data.toList) = true ↔ s ∈ l) ∧ (Maps.size M = l.length ↔ l.Nodup) ∧ Maps.size M ≤ l.length

set_option maxRecDepth 20000 in
set_option maxHeartbeats 1600000 in
theorem Twice_any (names : List ByteArray) (F : Nat → Prop) (vn : Value) (w : World) (hv : RepSl w F names vn) (hF : ∀ k, F k → k < w.heap.size) (hs : ∀ s ∈ names, s.size ≤ 9223372036854775807) :
    Calls Tryz.prog 86 #[vn] w fun e w' => e = .returned (.bool (dupB names)) ∧ Below w.heap.size w w' := by
  have hmm := @run_makeMap Tryz.prog
  obtain ⟨na, nc, rfl, hnl⟩ := hv.slice
  have HV := Lib.hid hv
  have HF := Lib.hid hF
  have HS := Lib.hid hs
  clear hv hF hs
  go_enter Tryz.func86, Tryz.ntmps86
  go_wp2_with fail
  go_loopw [5, 9] (fun _ i wr => ∃ k : Nat, k ≤ names.length ∧ i = .int .i64 (k : Int) ∧ Hid (SeenAt w w.heap.size (names.take k) wr)) (fun _ i _ => names.length - (intOf i).toNat)
  case atStart =>
    refine ⟨0, Nat.zero_le _, rfl, Lib.hid ⟨(Below.refl _ _).alloc (Nat.le_refl _) _, .map [], World.ownsMap_made _ _ _ _, fun s => by simp [has_eq], by simp [Maps.size], by simp [Maps.size]⟩⟩
  case round =>
    obtain ⟨k, hk, rfl, HA⟩ := hrel
    by_cases hlt : k < names.length
    · have hkk : (k : Int) < (names.length : Int) := by omega
      obtain ⟨hbel, M, hown, hhas, hnd, hsz⟩ := HA.out
      have hv2 : RepSl wr F names (.slice na names.length nc) := HV.out.same (fun _ h => h) fun j hj => hbel.block j (HF.out j hj)
      obtain ⟨b, off, rfl, hFb, hc⟩ := hv2.elem k hlt
      have hbz : b < wr.heap.size := Nat.lt_of_lt_of_le (HF.out b hFb) hbel.size
      obtain ⟨s, hs⟩ : ∃ s, s = names[k] := ⟨_, rfl⟩
      rw [← hs] at hc
      have hss : s.size ≤ 9223372036854775807 := HS.out s (by rw [hs]; exact List.getElem_mem hlt)
      have hkey := key_of hss
      have HKEY := Lib.hid hkey
      have HOWN := Lib.hid hown
      have hlk : (names.take k).length = k := by simp; omega
      have HNEW : Hid (∀ (d' : DataW Nat) (w2 : World), w2.ownsMap Tryz.prog 9 (plainElem Tryz.prog 3) w.heap.size ((names.take k).length + 1) (M.put (.string s.data.toList) d') → wr.grownBy w2 (some w.heap.size) → SeenAt w w.heap.size (names.take (k + 1)) w2) := Lib.hid fun d' w2 ho hg => by
        have ht : names.take (k + 1) = names.take k ++ [s] := by rw [hs]; exact List.take_succ_eq_append_getElem hlt
        have htid := hown.tidy law9
        refine ⟨hbel.grown hg hbel.size (fun j hj => by cases hj; exact Nat.le_refl _), _, by rw [ht, List.length_append]; exact ho, fun t => ?_, ?_, ?_⟩
        · by_cases e : t = s
          · subst e
            rw [has_put_same htid.isMap (show WideAt.IsKeyLit (.string t.data.toList) from trivial), ht]
            simp
          · rw [has_put_other (key_ne e), hhas, ht]
            simp [e]
        · rw [size_put htid, ht, nodup_snoc, List.length_append, ← hnd, hlk]
          by_cases e : s ∈ names.take k
          · rw [if_pos ((hhas s).2 e)]
            simp only [e, not_true_eq_false, and_false, iff_false, List.length_cons, List.length_nil]
            omega
          · rw [if_neg fun h => e ((hhas s).1 h)]
            simp only [e, not_false_eq_true, and_true, List.length_cons, List.length_nil]
            omega
        · rw [size_put htid, ht, List.length_append]
          split <;> simp <;> omega
      have HM : Hid (names.length ≤ 9223372036854775807) := Lib.hid hnl
      have hb : (names.take k).length < maxLen := by unfold maxLen; omega
      clear hbel hown hhas hnd hsz hs hss hv2 hlk HA
      go_wp2_with (first
        | (at_lookup; refine wpList_lookup_own_int _ rfl _ _ 167 rfl 9 3 .i64 law9 Tryz.underlying167 Tryz.underlying3 (zeroInt _) w.heap.size _ _ rfl HOWN.out _ _ rfl HKEY.out ?_; intro c hat hwc)
        | (at_mapUpdate; refine wpList_mapUpdate_own _ rfl _ _ _ 167 rfl 9 3 law9 Tryz.underlying167 _ w.heap.size _ _ rfl HOWN.out hb _ _ _ rfl rfl HKEY.out _ [] (plainElem_int Tryz.underlying3 (wrap64_wf _)) ?_; intro w1 hown1 hgrow1)
        | go_in)
      have HN := Lib.hid (HNEW.out _ w1 hown1 hgrow1)
      clear hown1 hgrow1
      go_roundw
      case rel => exact ⟨k + 1, by omega, by go_num, HN⟩
      case measure => simp [intOf]; omega
    · have hkk : ¬ (k : Int) < (names.length : Int) := by omega
      obtain rfl : k = names.length := by omega
      obtain ⟨hbel, M, hown, hhas, hnd, hsz⟩ := HA.out
      rw [List.take_length] at hnd hsz
      have hlen := fun ty => hown.len Tryz.underlying167 ty
      obtain ⟨m, hm⟩ : ∃ m, m = Maps.size M := ⟨_, rfl⟩
      rw [← hm] at hlen hnd hsz
      have HB := Lib.hid hbel
      have HN : Hid (decide (m < names.length) = dupB names) := Lib.hid (by
        unfold dupB
        apply decide_eq_decide.2
        rw [← hnd]
        omega)
      clear hown hhas hnd hsz hm hbel
      go_wp2_with fail
      go_ret
      exact ⟨by rw [← HN.out]; rfl, HB.out⟩
end Go.Proofs.YtamgjlegcegmeaaGreatDoor.M

/- Part: ProjO. -/
namespace Go.Proofs.YtamgjlegcegmeaaGreatDoor.M
open Go.RowKit Go.Maps
open D (Fl Dk)

def removeF (fs : List Fl) (l : List ByteArray) : List Fl := l.foldl (fun fs s => fs.eraseIdx (D.find fs s)) fs

def removeB (e : Dk) (names : List ByteArray) : Int × Dk := if D.eachOnce e.fs names = false then (30, e) else (0, { e with fs := removeF e.fs names })

theorem remove_eq (d : Dk) (names : List ByteArray) : D.remove d names = if d.stopped then (32, d) else removeB d.tick names := rfl

theorem once_is (fs : List Fl) : ∀ l : List ByteArray, D.eachOnce fs l = (l.all (D.isThere fs) && !dupB l)
  | [] => by simp [D.eachOnce, dupB]
  | s :: r => by
    unfold D.eachOnce
    rw [once_is fs r]
    have e : (r.any fun t => t.toList == s.toList) = decide (∃ t ∈ r, t = s) := by
      rw [Bool.eq_iff_iff, List.any_eq_true, decide_eq_true_eq]
      constructor
      · rintro ⟨t, ht, h⟩; exact ⟨t, ht, by rw [D.beq_nm] at h; simpa using h⟩
      · rintro ⟨t, ht, h⟩; exact ⟨t, ht, by rw [D.beq_nm]; simpa using h⟩
    rw [e]
    have e2 : dupB (s :: r) = (decide (∃ t ∈ r, t = s) || dupB r) := by
      unfold dupB
      rw [Bool.eq_iff_iff, Bool.or_eq_true, decide_eq_true_eq, decide_eq_true_eq, decide_eq_true_eq, List.nodup_cons]
      constructor
      · intro h
        by_cases h2 : s ∈ r
        · exact .inl ⟨s, h2, rfl⟩
        · exact .inr fun h3 => h ⟨h2, h3⟩
      · rintro (⟨t, h1, rfl⟩ | h) ⟨h2, h3⟩
        · exact h2 h1
        · exact h h3
    rw [e2]
    simp only [List.all_cons]
    cases D.isThere fs s <;> cases r.all (D.isThere fs) <;> cases decide (∃ t ∈ r, t = s) <;> cases dupB r <;> rfl

/-- The state at the head of the loop. -/
def PRemAt (w1 : World) (X : Nat → Prop) (gd gm : Nat) (d : Dk) (E : ByteArray → Nat × Value) (names : List ByteArray) (k : Nat) (wr : World) : Prop :=
  Only X w1 wr ∧ wr.heap.size = w1.heap.size ∧ ∃ M fr, fr = ({ d with fs := removeF d.fs (names.take k) } : Dk).free ∧ PDAt wr X gd { d with fs := removeF d.fs (names.take k) } fr gm M E

theorem removeF_rising (l : List ByteArray) : ∀ fs : List Fl, D.Rising fs → D.Rising (removeF fs l) := by
  induction l with
  | nil => intro fs h; exact h
  | cons s r ih => intro fs h; exact ih _ (h.erase _)

theorem removeF_used (l : List ByteArray) : ∀ fs : List Fl, D.Rising fs → D.used (removeF fs l) ≤ D.used fs := by
  induction l with
  | nil => intro fs _; exact Nat.le_refl _
  | cons s r ih =>
    intro fs h
    have h1 := ih _ (h.erase (D.find fs s))
    have h2 := bytesOf_erase h s
    unfold removeF at h1 ⊢
    simp only [List.foldl_cons]
    omega

set_option maxRecDepth 20000 in
set_option maxHeartbeats 3200000 in
theorem RemoveC_any (d : Dk) (X : Nat → Prop) (gd bd bn : Nat) (names : List ByteArray) (F : Nat → Prop) (vn : Value) (w : World) (hd : PDskIn w X gd d) (hg : Good d) (hs : ∀ s ∈ names, s.size ≤ 9223372036854775807)
    (hv : RepSl w F names vn) (hF : ∀ k, F k → k < w.heap.size ∧ ¬ X k)
    (c1 : w.cell? ⟨bd, 0, none⟩ = some (.pointer (some ⟨gd, 0, none⟩))) (c2 : w.cell? ⟨bn, 0, none⟩ = some vn) (hbx : (bd < w.heap.size ∧ ¬ X bd) ∧ (bn < w.heap.size ∧ ¬ X bn)) :
    Calls Tryz.prog 85 #[.pointer (some ⟨bd, 0, none⟩), .pointer (some ⟨bn, 0, none⟩)] w (PPost w X gd (removeB d names)) := by
  obtain ⟨na, nc, rfl, hnl⟩ := hv.slice
  have HV := Lib.hid hv
  have HF := Lib.hid hF
  have HX := Lib.hid hd.2
  have HD := Lib.hid hd.1
  have HG := Lib.hid hg
  have HS := Lib.hid hs
  have HBX := Lib.hid hbx
  have HC1 := Lib.hid c1
  have HC2 := Lib.hid c2
  obtain ⟨⟨b1, -⟩, b2, -⟩ := hbx
  clear hv hF hd hg hs
  go_enter Tryz.func85, Tryz.ntmps85
  go_wp2_with fail
  refine (Has_any d X gd names F _ w HD.out HV.out (fun k hk => (HF.out k hk).1) HS.out).mono ?_
  rintro e w1 ⟨rfl, rfl⟩
  cases hall : names.all (D.isThere d.fs) with
  | false =>
    have HE : Hid (removeB d names = (30, d)) := Lib.hid (by unfold removeB; rw [once_is, hall]; rfl)
    clear hall
    go_wp2_with fail
    go_ret
    rw [HE.out]
    exact PPost.of (Only.refl _ _) rfl (Only.refl _ _) HD.out.up
  | true =>
    have HALL := Lib.hid hall
    clear hall
    go_wp2_with fail
    refine (Twice_any names F _ w HV.out (fun k hk => (HF.out k hk).1) HS.out).mono ?_
    rintro e w1 ⟨rfl, hb1⟩
    have HO1 : Hid (Only X w w1) := Lib.hid ((Only.of_below hb1).mono fun _ h => h)
    have HD1 : Hid (PDsk w1 X gd d) := Lib.hid (HD.out.same (fun _ h => h) fun k hk => hb1.block k (HX.out k hk))
    have c1 : w1.cell? ⟨bd, 0, none⟩ = some (.pointer (some ⟨gd, 0, none⟩)) := (cell_only HO1.out HBX.out.1.1 HBX.out.1.2 0).trans HC1.out
    have c2 : w1.cell? ⟨bn, 0, none⟩ = some (.slice na names.length nc) := (cell_only HO1.out HBX.out.2.1 HBX.out.2.2 0).trans HC2.out
    have b1 : bd < w1.heap.size := Nat.lt_of_lt_of_le HBX.out.1.1 HO1.out.size
    have b2 : bn < w1.heap.size := Nat.lt_of_lt_of_le HBX.out.2.1 HO1.out.size
    clear hb1
    cases hdup : dupB names with
    | true =>
      have HE : Hid (removeB d names = (30, d)) := Lib.hid (by unfold removeB; rw [once_is, hdup]; simp)
      clear hdup
      go_wp2_with fail
      go_ret
      rw [HE.out]
      exact PPost.of HO1.out rfl (Only.refl _ _) HD1.out.up
    | false =>
      have HONCE : Hid (D.eachOnce d.fs names = true) := Lib.hid (by rw [once_is, HALL.out, hdup]; rfl)
      have HE : Hid (removeB d names = (0, { d with fs := removeF d.fs names })) := Lib.hid (by unfold removeB; rw [HONCE.out]; rfl)
      obtain ⟨gm, M, E, hat⟩ := HD1.out
      have H0 : Hid (PRemAt w1 X gd gm d E names 0 w1) := Lib.hid ⟨Only.refl _ _, rfl, M, d.free, rfl, hat⟩
      clear hdup hat
      go_wp2_with fail
      go_loopw [4, 15] (fun _ i wr => ∃ k : Nat, k ≤ names.length ∧ i = .int .i64 (k : Int) ∧ PRemAt w1 X gd gm d E names k wr) (fun _ i _ => names.length - (intOf i).toNat)
      case atStart => exact ⟨0, Nat.zero_le _, rfl, H0.out⟩
      case round =>
        obtain ⟨k, hk, rfl, ho, hz, M2, fr, hfr, hat⟩ := hrel
        have HOw : Hid (Only X w wr) := Lib.hid (HO1.out.then ho)
        by_cases hlt : k < names.length
        · have hkk : (k : Int) < (names.length : Int) := by omega
          have hv2 : RepSl wr F names (.slice na names.length nc) := HV.out.same (fun _ h => h) fun j hj => HOw.out.block j (HF.out j hj).1 (HF.out j hj).2
          obtain ⟨b, off, rfl, hFb, hc⟩ := hv2.elem k hlt
          have hbz : b < wr.heap.size := Nat.lt_of_lt_of_le (HF.out b hFb).1 HOw.out.size
          obtain ⟨s, hse⟩ : ∃ s, s = names[k] := ⟨_, rfl⟩
          rw [← hse] at hc
          have hmem : s ∈ names := by rw [hse]; exact List.getElem_mem hlt
          have HSS := Lib.hid (HS.out s hmem)
          have hr2 := removeF_rising (names.take k) d.fs HG.out.2.1
          have hsum : 0 ≤ fr ∧ fr + (D.used (removeF d.fs (names.take k)) : Int) ≤ 9223372036854775807 := by
            have h1 := removeF_used (names.take k) d.fs HG.out.2.1
            have h2 := HG.out.1.2.2.1
            have h3 := HG.out.1.2.2.2.2
            rw [hfr]
            unfold D.Dk.free at h2 ⊢
            simp only
            omega
          have HSUM := Lib.hid hsum
          have HR2 := Lib.hid hr2
          have HAT := Lib.hid hat
          have HNEXT : Hid (∀ w2 M', PDAt w2 X gd { d with fs := (removeF d.fs (names.take k)).eraseIdx (D.find (removeF d.fs (names.take k)) s) } (fr + ((bytesOf (removeF d.fs (names.take k)) s).length : Int)) gm M' E → Only X wr w2 → w2.heap.size = wr.heap.size → PRemAt w1 X gd gm d E names (k + 1) w2) := Lib.hid fun w2 M' h1 h2 h3 => by
            have e : removeF d.fs (names.take (k + 1)) = (removeF d.fs (names.take k)).eraseIdx (D.find (removeF d.fs (names.take k)) s) := by
              rw [List.take_succ_eq_append_getElem hlt, ← hse]
              unfold removeF
              rw [List.foldl_append]
              rfl
            refine ⟨ho.then h2, by omega, M', fr + ((bytesOf (removeF d.fs (names.take k)) s).length : Int), ?_, by rw [e]; exact h1⟩
            have h4 := bytesOf_erase hr2 s
            rw [e, hfr]
            unfold D.Dk.free
            simp only
            omega
          have c1 : wr.cell? ⟨bd, 0, none⟩ = some (.pointer (some ⟨gd, 0, none⟩)) := (cell_only HOw.out HBX.out.1.1 HBX.out.1.2 0).trans HC1.out
          have b1 : bd < wr.heap.size := Nat.lt_of_lt_of_le HBX.out.1.1 HOw.out.size
          clear hat hr2 hsum hmem hse hv2 ho hz hfr
          go_wp2_with fail
          refine (Drop_any _ X gd gm fr M2 E s wr HAT.out HR2.out HSS.out HSUM.out.1 HSUM.out.2).mono ?_
          rintro e w2 ⟨rfl, h2, h3, -, M', h1⟩
          have HN := Lib.hid (HNEXT.out w2 M' h1 h2 h3)
          clear h1 h2 h3
          go_wp2_with fail
          go_roundw
          case rel => exact ⟨k + 1, by omega, by go_num, HN.out⟩
          case measure => simp [intOf]; omega
        · have hkk : ¬ (k : Int) < (names.length : Int) := by omega
          obtain rfl : k = names.length := by omega
          have HP : Hid (PPost w X gd (removeB d names) (.returned (.int .i64 0)) wr) := Lib.hid (by
            rw [HE.out]
            rw [List.take_length] at hat hfr
            refine PPost.of HO1.out rfl ho ⟨gm, M2, E, ?_⟩
            rw [← hfr]
            exact hat.same (fun _ h => .inl h) fun _ _ => rfl)
          clear hat ho hz hfr
          go_wp2_with fail
          go_ret
          exact HP.out
end Go.Proofs.YtamgjlegcegmeaaGreatDoor.M

/- Part: ProjQ. -/
namespace Go.Proofs.YtamgjlegcegmeaaGreatDoor.M
open Go.RowKit Go.Maps
open D (Fl Dk)

set_option maxRecDepth 20000 in
set_option maxHeartbeats 1600000 in
theorem PCut_any (d : Dk) (X : Nat → Prop) (gd : Nat) (s : ByteArray) (n : Int) (w : World) (hd : PDskIn w X gd d) (hg : Good d) (hs : s.size ≤ 9223372036854775807) (hn1 : -9223372036854775808 ≤ n) (hn2 : n ≤ 9223372036854775807) :
    Calls Tryz.prog 68 #[.pointer (some ⟨gd, 0, none⟩), .string s, .int .i64 n] w (PPost w X gd (D.cut d s n)) := by
  have HD := Lib.hid hd
  have HG := Lib.hid hg
  clear hd hg
  obtain ⟨W, hW⟩ : ∃ W, W = ((w.alloc (.cells #[.pointer (some ⟨gd, 0, none⟩)] 24)).alloc (.cells #[.string s] 9)).alloc (.cells #[.int .i64 n] 3) := ⟨_, rfl⟩
  have HO : Hid (Only X w W) := Lib.hid (by rw [hW]; exact (((Only.refl X w).alloc _).alloc _).alloc _)
  have HB : Hid (Below w.heap.size w W) := Lib.hid (by rw [hW]; exact (((Below.refl _ w).alloc (by omega) _).alloc (by simp) _).alloc (by simp; omega) _)
  have HSZ : Hid (W.heap.size = w.heap.size + 3) := Lib.hid (by rw [hW]; simp)
  have HC : Hid (W.cell? ⟨w.heap.size, 0, none⟩ = some (.pointer (some ⟨gd, 0, none⟩)) ∧ W.cell? ⟨w.heap.size + 1, 0, none⟩ = some (.string s) ∧ W.cell? ⟨w.heap.size + 1 + 1, 0, none⟩ = some (.int .i64 n)) := Lib.hid (by
    rw [hW]
    refine ⟨cell_past _ (cell_past _ (cell_new1 _ _ _ rfl) (by simp)) (by simp; omega), cell_past _ (cell_new1 _ _ _ (by simp)) (by simp), cell_new1 _ _ _ (by simp)⟩)
  have hwk := Work_any 100 #[.pointer (some ⟨w.heap.size, 0, none⟩), .pointer (some ⟨w.heap.size + 1, 0, none⟩), .pointer (some ⟨w.heap.size + 1 + 1, 0, none⟩)] en51 d X gd (cutB d.tick s n) W
    (HD.out.1.same (fun _ h => h) fun k hk => HB.out.block k (HD.out.2 k hk)) HG.out.1.2.1 (fun w1 ho hz hd1 hst => by
      have hnx : ∀ k, w.heap.size ≤ k → ¬ X k := fun k hk hx => by have := HD.out.2 k hx; omega
      have hsz := HSZ.out
      exact CutC_any d.tick X gd _ _ _ s n w1 ⟨hd1, fun k hk => by have := HD.out.2 k hk; omega⟩ HG.out.tick hs hn1 hn2
        ((cell_only ho (by omega) (hnx _ (by omega)) 0).trans HC.out.1) ((cell_only ho (by omega) (hnx _ (by omega)) 0).trans HC.out.2.1) ((cell_only ho (by omega) (hnx _ (by omega)) 0).trans HC.out.2.2)
        ⟨⟨by omega, hnx _ (by omega)⟩, ⟨by omega, hnx _ (by omega)⟩, by omega, hnx _ (by omega)⟩)
  rw [← cut_eq] at hwk
  have HWK := Lib.hid hwk
  have HWE := Lib.hid hW
  clear hwk hW
  go_enter Tryz.func68, Tryz.ntmps68
  go_wp2_with fail
  rw [← HWE.out]
  refine HWK.out.mono ?_
  intro e w' hp
  have HP := Lib.hid (hp.wrap HO.out)
  obtain ⟨rfl, -, -⟩ := hp
  go_wp2_with fail
  go_ret
  exact HP.out

set_option maxRecDepth 20000 in
set_option maxHeartbeats 1600000 in
theorem PRemove_any (d : Dk) (X : Nat → Prop) (gd : Nat) (names : List ByteArray) (F : Nat → Prop) (vn : Value) (w : World) (hd : PDskIn w X gd d) (hg : Good d) (hs : ∀ s ∈ names, s.size ≤ 9223372036854775807)
    (hv : RepSl w F names vn) (hF : ∀ k, F k → k < w.heap.size ∧ ¬ X k) :
    Calls Tryz.prog 62 #[.pointer (some ⟨gd, 0, none⟩), vn] w (PPost w X gd (D.remove d names)) := by
  obtain ⟨na, nc, rfl, hnl⟩ := hv.slice
  have HV := Lib.hid hv
  have HF := Lib.hid hF
  have HD := Lib.hid hd
  have HG := Lib.hid hg
  have HS := Lib.hid hs
  clear hv hF hd hg hs
  obtain ⟨W, hW⟩ : ∃ W, W = (w.alloc (.cells #[.pointer (some ⟨gd, 0, none⟩)] 24)).alloc (.cells #[.slice na names.length nc] 43) := ⟨_, rfl⟩
  have HO : Hid (Only X w W) := Lib.hid (by rw [hW]; exact ((Only.refl X w).alloc _).alloc _)
  have HB : Hid (Below w.heap.size w W) := Lib.hid (by rw [hW]; exact ((Below.refl _ w).alloc (by omega) _).alloc (by simp) _)
  have HSZ : Hid (W.heap.size = w.heap.size + 2) := Lib.hid (by rw [hW]; simp)
  have HC : Hid (W.cell? ⟨w.heap.size, 0, none⟩ = some (.pointer (some ⟨gd, 0, none⟩)) ∧ W.cell? ⟨w.heap.size + 1, 0, none⟩ = some (.slice na names.length nc)) := Lib.hid (by
    rw [hW]
    exact ⟨cell_past _ (cell_new1 _ _ _ rfl) (by simp), cell_new1 _ _ _ (by simp)⟩)
  have hwk := Work_any 85 #[.pointer (some ⟨w.heap.size, 0, none⟩), .pointer (some ⟨w.heap.size + 1, 0, none⟩)] en44 d X gd (removeB d.tick names) W
    (HD.out.1.same (fun _ h => h) fun k hk => HB.out.block k (HD.out.2 k hk)) HG.out.1.2.1 (fun w1 ho hz hd1 hst => by
      have hnx : ∀ k, w.heap.size ≤ k → ¬ X k := fun k hk hx => by have := HD.out.2 k hx; omega
      have hsz := HSZ.out
      exact RemoveC_any d.tick X gd _ _ names F _ w1 ⟨hd1, fun k hk => by have := HD.out.2 k hk; omega⟩ HG.out.tick HS.out
        (HV.out.same (fun _ h => h) fun k hk => (ho.block k (by have := (HF.out k hk).1; omega) (HF.out k hk).2).trans (HB.out.block k (HF.out k hk).1)) (fun k hk => ⟨by have := (HF.out k hk).1; omega, (HF.out k hk).2⟩)
        ((cell_only ho (by omega) (hnx _ (by omega)) 0).trans HC.out.1) ((cell_only ho (by omega) (hnx _ (by omega)) 0).trans HC.out.2)
        ⟨⟨by omega, hnx _ (by omega)⟩, by omega, hnx _ (by omega)⟩)
  rw [← remove_eq] at hwk
  have HWK := Lib.hid hwk
  have HWE := Lib.hid hW
  clear hwk hW
  go_enter Tryz.func62, Tryz.ntmps62
  go_wp2_with fail
  rw [← HWE.out]
  refine HWK.out.mono ?_
  intro e w' hp
  have HP := Lib.hid (hp.wrap HO.out)
  obtain ⟨rfl, -, -⟩ := hp
  go_wp2_with fail
  go_ret
  exact HP.out
end Go.Proofs.YtamgjlegcegmeaaGreatDoor.M

/- Part: ProjP. -/
namespace Go.Proofs.YtamgjlegcegmeaaGreatDoor.M
open Go.RowKit Go.Maps
open D (Fl Dk)

/-- What a crash makes of a file. -/
def crashG (k : Option Int) (f : Fl) : Fl := { f with b := f.b.take (D.stays f k), safe := D.stays f k }

/-- The first so many files crashed, the others as they are. -/
def crashTo (fs : List Fl) (ks : List Int) : Nat → List Fl
  | 0 => fs
  | i + 1 => (crashTo fs ks i).modify i (crashG ks[i]?)

theorem crashTo_get (fs : List Fl) (ks : List Int) : ∀ (n j : Nat), (crashTo fs ks n)[j]? = if j < n then fs[j]?.map (crashG ks[j]?) else fs[j]?
  | 0, j => by simp [crashTo]
  | n + 1, j => by
    unfold crashTo
    rw [List.getElem?_modify, crashTo_get fs ks n j]
    by_cases e : n = j
    · subst e
      simp
    · rw [show (if j < n + 1 then fs[j]?.map (crashG ks[j]?) else fs[j]?) = if j < n then fs[j]?.map (crashG ks[j]?) else fs[j]? by
        by_cases h : j < n
        · rw [if_pos h, if_pos (by omega)]
        · rw [if_neg h, if_neg (by omega)]]
      simp [e]

theorem crashFs_getq : ∀ (fs : List Fl) (ks : List Int) (j : Nat), (D.crashFs fs ks)[j]? = fs[j]?.map (crashG ks[j]?)
  | [], _, j => by simp [D.crashFs]
  | f :: r, ks, 0 => by cases ks <;> simp [D.crashFs, crashG]
  | f :: r, ks, j + 1 => by
    have := crashFs_getq r ks.tail j
    simp only [D.crashFs, List.getElem?_cons_succ]
    rw [this]
    cases ks <;> simp

theorem crashTo_all (fs : List Fl) (ks : List Int) : crashTo fs ks fs.length = D.crashFs fs ks := by
  apply List.ext_getElem?
  intro j
  rw [crashTo_get, crashFs_getq]
  by_cases h : j < fs.length
  · rw [if_pos h]
  · rw [if_neg h, List.getElem?_eq_none (by omega)]; rfl

theorem crashTo_names (fs : List Fl) (ks : List Int) : ∀ n, (crashTo fs ks n).map (·.nm) = fs.map (·.nm)
  | 0 => rfl
  | n + 1 => (D.names_modify (crashTo fs ks n) n (crashG ks[n]?) fun _ => rfl).trans (crashTo_names fs ks n)

theorem crashTo_length (fs : List Fl) (ks : List Int) (n : Nat) : (crashTo fs ks n).length = fs.length := by simpa using congrArg List.length (crashTo_names fs ks n)

theorem crashTo_here (fs : List Fl) (ks : List Int) (n : Nat) (h : n < fs.length) (h2 : n < (crashTo fs ks n).length) : (crashTo fs ks n)[n] = fs[n] := by
  have := crashTo_get fs ks n n
  rw [if_neg (by omega), List.getElem?_eq_getElem h, List.getElem?_eq_getElem h2] at this
  simpa using this

theorem crashTo_used (fs : List Fl) (ks : List Int) (hs : ∀ f ∈ fs, f.safe ≤ f.b.length) (n : Nat) (h : n < fs.length) : D.used (crashTo fs ks (n + 1)) + (fs[n].b.length - D.stays fs[n] ks[n]?) = D.used (crashTo fs ks n) := by
  have h2 : n < (crashTo fs ks n).length := by rw [crashTo_length]; exact h
  have hu := D.used_modify (crashTo fs ks n) n (crashG ks[n]?) h2
  rw [crashTo_here fs ks n h h2] at hu
  have hst := stays_le (hs _ (List.getElem_mem h)) ks[n]?
  have hl : (crashG ks[n]? fs[n]).b.length = D.stays fs[n] ks[n]? := by
    unfold crashG
    simp
    omega
  rw [hl] at hu
  show D.used ((crashTo fs ks n).modify n (crashG ks[n]?)) + _ = _
  omega

/-- What is to stay of a file, as the program takes it. -/
theorem stays_zero (f : Fl) : D.stays f (some 0) = D.stays f none := by simp [D.stays]

/-- The state at the head of the loop. -/
def PCrashAt (w1 : World) (X : Nat → Prop) (gd gm : Nat) (d : Dk) (M : DataW Nat) (ks : List Int) (k : Nat) (gone : Int) (wr : World) : Prop :=
  Only X w1 wr ∧ wr.heap.size = w1.heap.size ∧ gone = (D.used d.fs : Int) - (D.used (crashTo d.fs ks k) : Int) ∧ D.used (crashTo d.fs ks k) ≤ D.used d.fs ∧ ∃ E, PDAt wr X gd { d with fs := crashTo d.fs ks k } d.free gm M E

theorem row_cell {w : World} {base n : Nat} {t : TypeId} {a : Option Addr} {c : Nat} {xs : List Value} (h : w.ownsRow base t 1 (.slice a n c) n xs) (i : Nat) (hi : i < n) : ∃ g, a = some ⟨g, 0, none⟩ ∧ base ≤ g ∧ g < w.heap.size ∧ w.cell? ⟨g, i, none⟩ = xs[i]? := by
  have hl := h.lt
  rcases h.2 with ⟨h1, h2⟩ | ⟨g, cap, cur, h1, h2, _⟩
  · omega
  · cases h1
    exact ⟨g, rfl, h2, (hl g rfl).2, h.cellAt i (by omega)⟩

set_option maxRecDepth 20000 in
set_option maxHeartbeats 3200000 in
theorem PCrash_any (d : Dk) (X : Nat → Prop) (gd : Nat) (ks : List Int) (F : Nat → Prop) (vk : Value) (w : World) (hd : PDskIn w X gd d) (hg : Good d) (hsn : ∀ f ∈ d.fs, f.nm.size ≤ 9223372036854775807) (hv : RepI w F ks vk) (hF : ∀ k, F k → k < w.heap.size ∧ ¬ X k) :
    Calls Tryz.prog 12 #[.pointer (some ⟨gd, 0, none⟩), vk] w (PPost w X gd ((((D.crash d ks).1 : Nat) : Int), (D.crash d ks).2)) := by
  obtain ⟨na, nc, rfl, hnl⟩ := hv.slice
  have HV := Lib.hid hv
  have HF := Lib.hid hF
  have HX := Lib.hid hd.2
  have HD := Lib.hid hd
  have HG := Lib.hid hg
  have HSIZE := Lib.hid hsn
  clear hv hF hd hg hsn
  go_enter Tryz.func12, Tryz.ntmps12
  go_wp2_with fail
  refine (Names_any d X gd w HD.out HG.out.2.1 (by have := HG.out.1.1; omega)).mono ?_
  rintro e w1 ⟨v, rfl, hb1, hrow⟩
  obtain ⟨va, vc, rfl⟩ := owned_slice hrow
  have HB1 := Lib.hid hb1
  have HO1 : Hid (Only X w w1) := Lib.hid ((Only.of_below hb1).mono fun _ h => h)
  have HD1 : Hid (PDsk w1 X gd d) := Lib.hid (HD.out.1.same (fun _ h => h) fun k hk => hb1.block k (HX.out k hk))
  have HROW := Lib.hid hrow
  obtain ⟨gm, M, E, hat⟩ := HD1.out
  have H0 : Hid (PCrashAt w1 X gd gm d M ks 0 0 w1) := Lib.hid ⟨Only.refl _ _, rfl, by simp [crashTo], Nat.le_refl _, E, hat⟩
  have hfl : d.fs.length ≤ 4096 := HG.out.1.1
  clear hb1 hrow hat
  go_wp2_with fail
  go_loopw [5, 6, 7, 8, 12] (fun g _ _ _ i wr => ∃ (k : Nat) (y : Int), k ≤ d.fs.length ∧ i = .int .i64 (k : Int) ∧ g = .int .i64 y ∧ PCrashAt w1 X gd gm d M ks k y wr) (fun _ _ _ _ i _ => d.fs.length - (intOf i).toNat)
  case atStart => exact ⟨0, 0, Nat.zero_le _, rfl, rfl, H0.out⟩
  case round =>
    obtain ⟨k, y, hk, rfl, rfl, ho, hz, hy, hyu, E2, hat⟩ := hrel
    by_cases hlt : k < d.fs.length
    · have hkk : (k : Int) < (d.fs.length : Int) := by omega
      obtain ⟨gn, hva, hgn1, hgn2, hcn⟩ := row_cell HROW.out k hlt
      rw [List.getElem?_map, List.getElem?_eq_getElem hlt] at hcn
      subst hva
      obtain ⟨f, hfe⟩ : ∃ f, f = d.fs[k] := ⟨_, rfl⟩
      rw [← hfe] at hcn
      have hnX : ¬ X gn := fun h => by have := HX.out gn h; omega
      have hcn2 : wr.cell? ⟨gn, k, none⟩ = some (.string f.nm) := (cell_only ho hgn2 hnX k).trans hcn
      have hgn3 : gn < wr.heap.size := by omega
      have hk2 : k < (crashTo d.fs ks k).length := by rw [crashTo_length]; exact hlt
      have hhere := crashTo_here d.fs ks k hlt hk2
      have hfm : f ∈ crashTo d.fs ks k := by rw [hfe, ← hhere]; exact List.getElem_mem _
      have hfm0 : f ∈ d.fs := by rw [hfe]; exact List.getElem_mem _
      have hr2 : D.Rising (crashTo d.fs ks k) := HG.out.2.1.of_names (crashTo_names _ _ _)
      have ht : D.isThere (crashTo d.fs ks k) f.nm = true := D.isThere_mem.2 ⟨f, hfm, rfl⟩
      have hfind : D.find (crashTo d.fs ks k) f.nm = k := hr2.find_eq hk2 (by rw [hhere, hfe])
      have hsz : f.nm.size ≤ 9223372036854775807 := HSIZE.out f hfm0
      have hl := hat.look hsz (w' := wr) rfl
      have hp : ptrOf { d with fs := crashTo d.fs ks k } E2 f.nm = .pointer (some ⟨(E2 f.nm).1, 0, none⟩) := by
        unfold ptrOf
        simp only [ht, if_true]
      rw [hp] at hl
      have hfa := hat.each f hfm
      obtain ⟨⟨-, -, d2⟩, -, hgz⟩ := hat.cells
      have HSAFE := Lib.hid (HG.out.2.2 f hfm0)
      have hst := stays_le HSAFE.out ks[k]?
      have hub := D.used_mem hfm0
      have hroom : (D.used d.fs : Int) ≤ 9223372036854775807 := by
        have h1 := HG.out.1.2.2.2.2
        have h3 := HG.out.1.2.2.1
        unfold D.Dk.free at h3
        omega
      have hus := crashTo_used d.fs ks HG.out.2.2 k hlt
      rw [← hfe] at hus
      have hy0 : 0 ≤ y := by omega
      have HNEXT : Hid (∀ (w2 : World) (v' : Value), FileAt w2 (E2 f.nm).1 v' { f with b := f.b.take (D.stays f ks[k]?), safe := D.stays f ks[k]? } → v'.ownBlock = (E2 f.nm).2.ownBlock → Only (fun j => j = (E2 f.nm).1) wr w2 → w2.heap.size = wr.heap.size →
          PCrashAt w1 X gd gm d M ks (k + 1) (y + ((f.b.length - D.stays f ks[k]? : Nat) : Int)) w2 ∧ y + ((f.b.length - D.stays f ks[k]? : Nat) : Int) ≤ 9223372036854775807 ∧ 0 ≤ y + ((f.b.length - D.stays f ks[k]? : Nat) : Int)) := Lib.hid fun w2 v' h1 h2 h3 h4 => by
        have hx : ∀ j, X j → j < wr.heap.size := fun j hj => Nat.lt_of_lt_of_le (HX.out j hj) (Nat.le_trans HB1.out.size ho.size)
        obtain ⟨q1, E', q2⟩ := file_done (f := f) hat hx hr2 hfm (crashG ks[k]?) (fun _ => rfl) (v' := v') h1 h2 h3
        rw [hfind] at q2
        refine ⟨⟨ho.then q1, by omega, by omega, by omega, E', q2⟩, by omega, by omega⟩
      have HFA := Lib.hid hfa
      obtain ⟨b, hb⟩ : ∃ b, b = (E2 f.nm).1 := ⟨_, rfl⟩
      rw [← hb] at hl HFA HNEXT
      have HOK := Lib.hid ho
      have hzr : w.heap.size ≤ wr.heap.size := Nat.le_trans HB1.out.size ho.size
      have HKS : Hid (∀ j, F j → wr.heap[j]? = w.heap[j]? ∧ j < wr.heap.size) := Lib.hid fun j hj => ⟨(ho.block j (Nat.lt_of_lt_of_le (HF.out j hj).1 HB1.out.size) (HF.out j hj).2).trans (HB1.out.block j (HF.out j hj).1), Nat.lt_of_lt_of_le (HF.out j hj).1 hzr⟩
      by_cases hkl : k < ks.length
      · have hkl2 : (k : Int) < (ks.length : Int) := by omega
        have hv2 : RepI wr F ks (.slice na ks.length nc) := HV.out.same (fun _ h => h) fun j hj => (HKS.out j hj).1
        obtain ⟨kb, koff, rfl, hFb, hkc, hkr1, hkr2⟩ := hv2.elem k hkl
        have hkz := (HKS.out kb hFb).2
        obtain ⟨K, hK⟩ : ∃ K, K = ks[k] := ⟨_, rfl⟩
        rw [← hK] at hkc hkr1 hkr2
        have HSTAY : Hid (D.stays f (some K) = D.stays f ks[k]?) := Lib.hid (by rw [List.getElem?_eq_getElem hkl, hK])
        have HK1 := Lib.hid hkr1
        have HK2 := Lib.hid hkr2
        clear hat hfa hhere hfm hfm0 hr2 ht hfind hp hst hub hus hy hyu ho hz hb hv2 hcn hK hkr1 hkr2 hroom hfe
        go_wp2_with fail
        refine (FCrash_any b _ f K _ HFA.out HSAFE.out HK1.out HK2.out).mono ?_
        rintro e w2 ⟨rfl, h2, h3, v', h4, h1⟩
        rw [HSTAY.out] at h1 ⊢
        obtain ⟨hn1, hn2, hn3⟩ := HNEXT.out w2 v' h1 h4 h2 h3
        have HN := Lib.hid hn1
        obtain ⟨r, hr⟩ : ∃ r, r = f.b.length - D.stays f ks[k]? := ⟨_, rfl⟩
        rw [← hr] at hn2 hn3 HN ⊢
        clear h1 h2 h3 h4 hn1 hr
        go_wp2_with fail
        go_roundw
        case rel => exact ⟨k + 1, y + (r : Int), by omega, by go_num, rfl, HN.out⟩
        case measure => simp [intOf]; omega
      · have hkl2 : ¬ (k : Int) < (ks.length : Int) := by omega
        obtain ⟨K, hK⟩ : ∃ K : Int, K = 0 := ⟨_, rfl⟩
        have HSTAY : Hid (D.stays f (some K) = D.stays f ks[k]?) := Lib.hid (by rw [List.getElem?_eq_none (by omega), hK, stays_zero])
        have HK1 : Hid (-9223372036854775808 ≤ K) := Lib.hid (by omega)
        have HK2 : Hid (K ≤ 9223372036854775807) := Lib.hid (by omega)
        clear hat hfa hhere hfm hfm0 hr2 ht hfind hp hst hub hus hy hyu ho hz hb hcn hroom hfe
        subst hK
        go_wp2_with fail
        refine (FCrash_any b _ f 0 _ HFA.out HSAFE.out HK1.out HK2.out).mono ?_
        rintro e w2 ⟨rfl, h2, h3, v', h4, h1⟩
        rw [HSTAY.out] at h1 ⊢
        obtain ⟨hn1, hn2, hn3⟩ := HNEXT.out w2 v' h1 h4 h2 h3
        have HN := Lib.hid hn1
        obtain ⟨r, hr⟩ : ∃ r, r = f.b.length - D.stays f ks[k]? := ⟨_, rfl⟩
        rw [← hr] at hn2 hn3 HN ⊢
        clear h1 h2 h3 h4 hn1 hr
        go_wp2_with fail
        go_roundw
        case rel => exact ⟨k + 1, y + (r : Int), by omega, by go_num, rfl, HN.out⟩
        case measure => simp [intOf]; omega
    · have hkk : ¬ (k : Int) < (d.fs.length : Int) := by omega
      obtain rfl : k = d.fs.length := by omega
      rw [crashTo_all] at hat hy hyu
      obtain ⟨⟨d0, d1, -⟩, ⟨f0, f1, -⟩, hz1⟩ := hat.cells
      have hsum : d.free + y ≤ 9223372036854775807 ∧ 0 ≤ d.free ∧ 0 ≤ y := by
        have h1 := HG.out.1.2.2.2.2
        have h3 := HG.out.1.2.2.1
        unfold D.Dk.free at *
        omega
      obtain ⟨hs1, hs2, hs3⟩ := hsum
      have HFIN : Hid (∀ W, W = (wr.setCell ⟨gd, 0, none⟩ (.int .i64 (d.free + y))).setCell ⟨gd, 1, none⟩ (.int .i64 (-1)) → PPost w X gd ((((D.crash d ks).1 : Nat) : Int), (D.crash d ks).2) (.returned (.int .i64 y)) W) := Lib.hid fun W hW => by
        subst hW
        have hb2 := heap_setCell_same _ _ 0 _ _ (.int .i64 (d.free + y)) hat.box
        have hb3 := heap_setCell_same _ _ 1 _ _ (.int .i64 (-1)) hb2
        have hfr : ({ d with fs := D.crashFs d.fs ks, ends := false } : Dk).free = d.free + y := by
          unfold D.Dk.free
          simp only
          omega
        refine PPost.of HO1.out (by
          unfold D.crash
          simp only
          congr 2
          omega) ((ho.set (.inl hat.foot.1) _).set (.inl hat.foot.1) _) ⟨gm, M, E2, ?_⟩
        show PDAt _ _ gd { d with fs := D.crashFs d.fs ks, ends := false } ({ d with fs := D.crashFs d.fs ks, ends := false } : Dk).free gm M E2
        rw [hfr]
        exact (hat.ticked (d' := { d with fs := D.crashFs d.fs ks, ends := false }) (fr' := d.free + y) rfl (by rw [hb3]; simp [restOf]) fun j hj => by
          rw [Below.heap_setCell _ _ _ _ (by simpa using hj), Below.heap_setCell _ _ _ _ (by simpa using hj)]).same (fun _ h => .inl h) fun _ _ => rfl
      obtain ⟨fr, hfr⟩ : ∃ fr, fr = d.free := ⟨_, rfl⟩
      rw [← hfr] at hs1 hs2 d0
      rw [← hfr] at HFIN
      have hs4 : 0 ≤ fr + y := by omega
      clear hat hy hyu ho hz hfr
      go_wp2_with fail
      go_ret
      exact HFIN.out _ rfl
end Go.Proofs.YtamgjlegcegmeaaGreatDoor.M

/- Part: DiskWell. -/
namespace Go.Proofs.YtamgjlegcegmeaaGreatDoor.M
open D (Fl Dk)

/-- What is true of a disk from its start. -/
def Well (d : Dk) : Prop := Good d ∧ ∀ f ∈ d.fs, D.okName f.nm = true

theorem ok_size {s : ByteArray} (h : D.okName s = true) : s.size ≤ 32 := by
  unfold D.okName at h
  simp only [Bool.and_eq_true, decide_eq_true_eq] at h
  exact h.2.2

theorem Well.names {d : Dk} (h : Well d) : ∀ f ∈ d.fs, f.nm.size ≤ 9223372036854775807 := fun f hf => by
  have := ok_size (h.2 f hf)
  omega

theorem Well.of {d d' : Dk} (h : Well d) (hr : d'.room = d.room) (hc : d'.calls ≤ 9223372036854775807) (hl : d'.fs.length ≤ 4096) (hu : (D.used d'.fs : Int) ≤ d.room) (hs : D.Rising d'.fs) (he : ∀ f ∈ d'.fs, f.safe ≤ f.b.length ∧ D.okName f.nm = true) : Well d' := by
  obtain ⟨⟨⟨h1, h2, h3, h4, h5⟩, h6, h7⟩, h8⟩ := h
  refine ⟨⟨⟨hl, hc, ?_, by rw [hr]; exact h4, by rw [hr]; exact h5⟩, hs, fun f hf => (he f hf).1⟩, fun f hf => (he f hf).2⟩
  unfold D.Dk.free
  rw [hr]
  omega

theorem Well.used {d : Dk} (h : Well d) : (D.used d.fs : Int) ≤ d.room := by
  have := h.1.1.2.2.1
  unfold D.Dk.free at this
  omega

theorem Well.tick {d : Dk} (h : Well d) : Well d.tick := ⟨h.1.tick, by rw [tick_fs]; exact h.2⟩

theorem fresh_well {n : Int} (h0 : 0 ≤ n) (h1 : n ≤ 9223372036854775807) : Well (fresh n) := by
  refine ⟨⟨⟨by simp [fresh], by simp [fresh], ?_, h0, h1⟩, by simp [fresh, D.Rising], fun f hf => by simp [fresh] at hf⟩, fun f hf => by simp [fresh] at hf⟩
  simp [fresh, D.Dk.free, D.used]; exact h0

theorem stop_well {d : Dk} (h : Well d) {n : Int} (hn : n ≤ 9223372036854775807) : Well (D.stop d n) :=
  h.of rfl (by simp [D.stop]; omega) h.1.1.1 h.used h.1.2.1 fun f hf => ⟨h.1.2.2 f hf, h.2 f hf⟩

theorem append_well {d : Dk} (h : Well d) (s : ByteArray) (bs : List (List UInt8)) : Well (D.append d s bs).2 ∧ D.used (D.append d s bs).2.fs ≤ D.used d.fs + bs.flatten.length := by
  rw [append_eq]
  split
  · exact ⟨h, Nat.le_add_right _ _⟩
  · have ht := h.tick
    rw [show D.used d.fs = D.used d.tick.fs by rw [tick_fs]]
    generalize d.tick = e at ht
    unfold appendB
    split
    · exact ⟨ht, by simp⟩
    · rename_i hok
      have hok : D.okName s = true := by simpa using hok
      split
      · exact ⟨ht, by simp⟩
      · rename_i hf
        have hf1 : (bs.flatten.length : Int) ≤ e.free := by omega
        have hf2 : D.isThere e.fs s = false → e.fs.length < 4096 := fun h1 => by
          rcases Nat.lt_or_ge e.fs.length 4096 with h2 | h2
          · exact h2
          · exact absurd (.inr ⟨h1, h2⟩) hf
        simp only
        obtain ⟨fs, hfs⟩ : ∃ fs, fs = (if D.isThere e.fs s = true then e.fs else D.add e.fs ⟨s, [], 0⟩) := ⟨_, rfl⟩
        have key : D.Rising fs ∧ D.isThere fs s = true ∧ D.used fs = D.used e.fs ∧ fs.length ≤ 4096 ∧ ∀ f ∈ fs, f.safe ≤ f.b.length ∧ D.okName f.nm = true := by
          rw [hfs]
          split
          · rename_i h1
            exact ⟨ht.1.2.1, h1, rfl, ht.1.1.1, fun f hf => ⟨ht.1.2.2 f hf, ht.2 f hf⟩⟩
          · rename_i h1
            have h1 : D.isThere e.fs s = false := by simpa using h1
            refine ⟨ht.1.2.1.add (x := ⟨s, [], 0⟩) (D.isThere_not.1 h1), D.isThere_mem.2 ⟨⟨s, [], 0⟩, D.mem_add.2 (.inl rfl), rfl⟩, by rw [D.used_add]; simp, by rw [D.length_add]; exact hf2 h1, fun f hf => ?_⟩
            rcases D.mem_add.1 hf with rfl | h2
            · exact ⟨Nat.le_refl _, hok⟩
            · exact ⟨ht.1.2.2 f h2, ht.2 f h2⟩
        rw [← hfs]
        obtain ⟨k1, k2, k3, k4, k5⟩ := key
        have hu := used_layAt fs (D.find fs s) bs.flatten (D.find_lt k2)
        refine ⟨ht.of rfl ht.1.1.2.1 ?_ ?_ ?_ fun f hf => ?_, by omega⟩
        · show (D.layAt fs (D.find fs s) bs.flatten).length ≤ 4096
          unfold D.layAt
          simpa using k4
        · show (D.used (D.layAt fs (D.find fs s) bs.flatten) : Int) ≤ e.room
          have := ht.used
          unfold D.Dk.free at hf1
          omega
        · exact k1.of_names (D.names_modify _ _ _ fun _ => rfl)
        · rcases D.mem_modify k1 hf with ⟨h1, _⟩ | ⟨f0, h1, _, rfl⟩
          · exact k5 f h1
          · have := k5 f0 h1
            exact ⟨by simp; omega, this.2⟩

theorem syncF_each (l : List ByteArray) : ∀ fs : List Fl, (∀ f ∈ fs, f.safe ≤ f.b.length ∧ D.okName f.nm = true) → ∀ f ∈ syncF fs l, f.safe ≤ f.b.length ∧ D.okName f.nm = true := by
  induction l with
  | nil => intro fs h; exact h
  | cons s r ih =>
    intro fs h
    refine ih _ fun f hf => ?_
    have hf2 : f ∈ fs.modify (D.find fs s) (fun f => { f with safe := f.b.length }) := hf
    clear hf
    obtain ⟨j, hj, rfl⟩ := List.mem_iff_getElem.1 hf2
    have hj' : j < fs.length := by simpa using hj
    have := h _ (List.getElem_mem hj')
    rw [List.getElem_modify]
    split
    · exact ⟨Nat.le_refl _, this.2⟩
    · exact this

theorem sync_well {d : Dk} (h : Well d) (names : List ByteArray) : Well (D.sync d names).2 ∧ D.used (D.sync d names).2.fs ≤ D.used d.fs := by
  rw [sync_eq]
  split
  · exact ⟨h, Nat.le_refl _⟩
  · have ht := h.tick
    rw [show D.used d.fs = D.used d.tick.fs by rw [tick_fs]]
    generalize d.tick = e at ht
    unfold syncB
    split
    · exact ⟨ht, Nat.le_refl _⟩
    · have hl : (syncF e.fs names).length = e.fs.length := by simpa using congrArg List.length (syncF_names names e.fs)
      have hu := syncF_used names e.fs
      exact ⟨ht.of rfl ht.1.1.2.1 (by show (syncF e.fs names).length ≤ 4096; rw [hl]; exact ht.1.1.1) (by show (D.used (syncF e.fs names) : Int) ≤ _; rw [hu]; exact ht.used) (ht.1.2.1.of_names (syncF_names _ _)) (syncF_each names e.fs fun f hf => ⟨ht.1.2.2 f hf, ht.2 f hf⟩), Nat.le_of_eq hu⟩

theorem removeF_sub (l : List ByteArray) : ∀ fs : List Fl, (removeF fs l).Sublist fs := by
  induction l with
  | nil => intro fs; exact List.Sublist.refl _
  | cons s r ih => intro fs; exact (ih _).trans (List.eraseIdx_sublist ..)

theorem remove_well {d : Dk} (h : Well d) (names : List ByteArray) : Well (D.remove d names).2 ∧ D.used (D.remove d names).2.fs ≤ D.used d.fs := by
  rw [remove_eq]
  split
  · exact ⟨h, Nat.le_refl _⟩
  · have ht := h.tick
    rw [show D.used d.fs = D.used d.tick.fs by rw [tick_fs]]
    generalize d.tick = e at ht
    unfold removeB
    split
    · exact ⟨ht, Nat.le_refl _⟩
    · have hu := removeF_used names e.fs ht.1.2.1
      have hsub := removeF_sub names e.fs
      refine ⟨ht.of rfl ht.1.1.2.1 (Nat.le_trans hsub.length_le ht.1.1.1) ?_ (removeF_rising names e.fs ht.1.2.1) (fun f hf => ⟨ht.1.2.2 f (hsub.mem hf), ht.2 f (hsub.mem hf)⟩), hu⟩
      have := ht.used
      show (D.used (removeF e.fs names) : Int) ≤ _
      omega

theorem cut_well {d : Dk} (h : Well d) (s : ByteArray) (n : Int) : Well (D.cut d s n).2 ∧ D.used (D.cut d s n).2.fs ≤ D.used d.fs := by
  rw [cut_eq]
  split
  · exact ⟨h, Nat.le_refl _⟩
  · have ht := h.tick
    rw [show D.used d.fs = D.used d.tick.fs by rw [tick_fs]]
    generalize d.tick = e at ht
    unfold cutB
    cases hf : e.fs[D.find e.fs s]? with
    | none => exact ⟨ht, Nat.le_refl _⟩
    | some f =>
      simp only
      split
      · exact ⟨ht, Nat.le_refl _⟩
      · rename_i hn
        have hl : D.find e.fs s < e.fs.length := by
          rcases Nat.lt_or_ge (D.find e.fs s) e.fs.length with h1 | h1
          · exact h1
          · rw [List.getElem?_eq_none h1] at hf; cases hf
        have hu := D.used_modify e.fs (D.find e.fs s) (fun f => { f with b := f.b.take n.toNat, safe := min f.safe n.toNat }) hl
        simp only [List.length_take] at hu
        refine ⟨ht.of rfl ht.1.1.2.1 (by simpa using ht.1.1.1) ?_ (ht.1.2.1.of_names (D.names_modify _ _ _ fun _ => rfl)) fun f2 hf2 => ?_, by simp only; omega⟩
        · have := ht.used
          simp only
          omega
        · rcases D.mem_modify ht.1.2.1 hf2 with ⟨h1, _⟩ | ⟨f0, h1, _, rfl⟩
          · exact ⟨ht.1.2.2 f2 h1, ht.2 f2 h1⟩
          · have := ht.1.2.2 f0 h1
            exact ⟨by simp; omega, ht.2 f0 h1⟩

theorem rename_well {d : Dk} (h : Well d) (a b : ByteArray) : Well (D.rename d a b).2 ∧ D.used (D.rename d a b).2.fs ≤ D.used d.fs := by
  rw [rename_eq]
  split
  · exact ⟨h, Nat.le_refl _⟩
  · have ht := h.tick
    rw [show D.used d.fs = D.used d.tick.fs by rw [tick_fs]]
    generalize d.tick = e at ht
    unfold renameB
    split
    · exact ⟨ht, Nat.le_refl _⟩
    · rename_i hn
      have hok : D.okName b = true := by
        cases hb : D.okName b with
        | true => rfl
        | false => exact absurd (.inr hb) hn
      cases hf : e.fs[D.find e.fs a]? with
      | none => exact ⟨ht, Nat.le_refl _⟩
      | some f =>
        simp only
        have hl : D.find e.fs a < e.fs.length := by
          rcases Nat.lt_or_ge (D.find e.fs a) e.fs.length with h1 | h1
          · exact h1
          · rw [List.getElem?_eq_none h1] at hf; cases hf
        have hfe : e.fs[D.find e.fs a] = f := by rw [List.getElem?_eq_getElem hl] at hf; simpa using hf
        have hfm : f ∈ e.fs := by rw [← hfe]; exact List.getElem_mem _
        have hr1 := ht.1.2.1.erase (D.find e.fs a)
        have hr2 := hr1.erase (D.find (e.fs.eraseIdx (D.find e.fs a)) b)
        have hu1 := D.used_erase e.fs _ hl
        rw [hfe] at hu1
        have hu2 := bytesOf_erase hr1 b
        have hlen1 : (e.fs.eraseIdx (D.find e.fs a)).length + 1 = e.fs.length := by rw [List.length_eraseIdx, if_pos hl]; omega
        have hlen2 := List.length_eraseIdx_le (e.fs.eraseIdx (D.find e.fs a)) (D.find (e.fs.eraseIdx (D.find e.fs a)) b)
        have hu : D.used (D.add ((e.fs.eraseIdx (D.find e.fs a)).eraseIdx (D.find (e.fs.eraseIdx (D.find e.fs a)) b)) { f with nm := b }) ≤ D.used e.fs := by
          rw [D.used_add]
          simp only
          omega
        refine ⟨ht.of rfl ht.1.1.2.1 ?_ ?_ (hr2.add (x := { f with nm := b }) fun g hg => ((D.mem_erase hr1).1 hg).2) fun g hg => ?_, hu⟩
        · rw [D.length_add]
          have := ht.1.1.1
          omega
        · have := ht.used
          simp only
          omega
        · rcases D.mem_add.1 hg with rfl | h1
          · exact ⟨ht.1.2.2 f hfm, hok⟩
          · have h2 := List.mem_of_mem_eraseIdx (List.mem_of_mem_eraseIdx h1)
            exact ⟨ht.1.2.2 g h2, ht.2 g h2⟩

theorem crash_well {d : Dk} (h : Well d) (ks : List Int) : Well (D.crash d ks).2 ∧ D.used (D.crash d ks).2.fs ≤ D.used d.fs := by
  have hn := crashTo_names d.fs ks d.fs.length
  rw [crashTo_all] at hn
  have hu : ∀ n, n ≤ d.fs.length → D.used (crashTo d.fs ks n) ≤ D.used d.fs := fun n => by
    induction n with
    | zero => intro _; exact Nat.le_refl _
    | succ n ih =>
      intro hn
      have h1 := crashTo_used d.fs ks h.1.2.2 n (by omega)
      have h2 := ih (by omega)
      omega
  have hu2 := hu d.fs.length (Nat.le_refl _)
  rw [crashTo_all] at hu2
  have hl : (D.crashFs d.fs ks).length = d.fs.length := by simpa using congrArg List.length hn
  refine ⟨h.of rfl h.1.1.2.1 (by show (D.crashFs d.fs ks).length ≤ 4096; rw [hl]; exact h.1.1.1) ?_ (h.1.2.1.of_names hn) fun f hf => ?_, hu2⟩
  · have := h.used
    show (D.used (D.crashFs d.fs ks) : Int) ≤ _
    omega
  · obtain ⟨j, hj, rfl⟩ := List.mem_iff_getElem.1 hf
    have hg := crashFs_getq d.fs ks j
    have hj2 : j < d.fs.length := by rw [← hl]; exact hj
    have hj' : j < (D.crashFs d.fs ks).length := hj
    rw [List.getElem?_eq_getElem hj', List.getElem?_eq_getElem hj2] at hg
    simp only [Option.map_some, Option.some.injEq] at hg
    have hm := List.getElem_mem (l := d.fs) hj2
    have hst := stays_le (h.1.2.2 _ hm) ks[j]?
    show ((D.crashFs d.fs ks)[j]).safe ≤ ((D.crashFs d.fs ks)[j]).b.length ∧ D.okName ((D.crashFs d.fs ks)[j]).nm = true
    rw [hg]
    refine ⟨?_, show D.okName (d.fs[j]).nm = true from h.2 _ hm⟩
    unfold crashG
    simp
    omega
end Go.Proofs.YtamgjlegcegmeaaGreatDoor.M

/- Part: HardPure. -/
namespace Go.Proofs.YtamgjlegcegmeaaGreatDoor.M
open Go.RowKit
open D (Fl Dk)

/-- The bound of numbers in a slot. -/
def top : Nat := 4611686018427387904

/-- May a state follow another one? (A state: its term, its vote.) -/
def follows (s e : Int × Int) : Bool := decide (0 ≤ s.1 ∧ -1 ≤ s.2 ∧ (e.1 < s.1 ∨ (s.1 = e.1 ∧ (s.2 = e.2 ∨ e.2 = -1))))

/-- A count's and a state's form. -/
def stForm (c : Nat) (s : Int × Int) : List UInt8 := num c ++ (num s.1.toNat ++ num (s.2 + 1).toNat)

def four (c : Nat) : List UInt8 := [UInt8.ofNat (c / 16777216), UInt8.ofNat (c / 65536), UInt8.ofNat (c / 256), UInt8.ofNat c]

/-- A slot's bytes. -/
def slotForm (c : Nat) (s : Int × Int) : List UInt8 := four (C.sumOf (stForm c s)) ++ stForm c s

/-- Three numbers at the front. -/
def three (b : List UInt8) : Except Int ((Nat × Nat × Nat) × List UInt8) :=
  match takeNum b with
  | .error e => .error e
  | .ok (x, b1) => match takeNum b1 with
    | .error e => .error e
    | .ok (y, b2) => match takeNum b2 with
      | .error e => .error e
      | .ok (z, b3) => .ok ((x, y, z), b3)

/-- What a slot's bytes say: the count (0: they aren't whole), the state. -/
def slot (b : List UInt8) : Nat × (Int × Int) :=
  if b.length < 4 then (0, (0, 0))
  else if b.take 4 ≠ four (C.sumOf (b.drop 4)) then (0, (0, 0))
  else match three (b.drop 4) with
    | .ok ((x, y, z), []) => if x < top ∧ y < top ∧ z ≤ top then (x, ((y : Int), (z : Int) - 1)) else (0, (0, 0))
    | _ => (0, (0, 0))

def nmH0 : ByteArray := ⟨#[104, 97, 114, 100, 45, 48]⟩
def nmH1 : ByteArray := ⟨#[104, 97, 114, 100, 45, 49]⟩

/-- Which slot is the newest (2: none), its count, the state on a disk. -/
def newest (fs : List Fl) : Nat × Nat × (Int × Int) :=
  if (slot (bytesOf fs nmH0)).1 = 0 ∧ (slot (bytesOf fs nmH1)).1 = 0 then (2, 0, (0, -1))
  else if (slot (bytesOf fs nmH0)).1 < (slot (bytesOf fs nmH1)).1 then (1, (slot (bytesOf fs nmH1)).1, (slot (bytesOf fs nmH1)).2)
  else (0, (slot (bytesOf fs nmH0)).1, (slot (bytesOf fs nmH0)).2)

/-- The slot that is written next. -/
def other (at' : Nat) : ByteArray := if at' = 0 then nmH1 else nmH0

/-- A file anew: away with the old one, the bytes, safe. -/
def saveF (d : Dk) (nm : ByteArray) (b : List UInt8) : Int × Dk :=
  let r := if D.isThere d.fs nm then D.remove d [nm] else (0, d)
  if r.1 ≠ 0 then r
  else
    let a := D.append r.2 nm [b]
    if a.1 ≠ 0 then a else D.sync a.2 [nm]

def save (d : Dk) (has s : Int × Int) : Int × Dk :=
  if follows s has = false ∨ (top : Int) ≤ s.1 ∨ (top : Int) ≤ s.2 then (2, d)
  else if s = has then (0, d)
  else saveF d (other (newest d.fs).1) (slotForm ((newest d.fs).2.1 + 1) s)

theorem takeNum_more {b q : List UInt8} {n : Nat} (h : takeNum b = .ok (n, q)) (r : List UInt8) : takeNum (b ++ r) = .ok (n, q ++ r) := by
  cases b with
  | nil => simp [takeNum] at h
  | cons c b =>
    rw [takeNum] at h
    rw [List.cons_append, takeNum]
    split at h
    · cases h
    · rename_i h1
      split at h
      · cases h
      · rename_i h2
        split at h
        · cases h
        · rename_i h3
          rw [if_neg h1]
          cases h
          have hl : c.toNat ≤ b.length := by omega
          rw [if_neg, if_neg (by rw [List.length_append]; omega), List.take_append_of_le_length hl, List.drop_append_of_le_length hl]
          rintro ⟨h4, h5⟩
          apply h2
          refine ⟨h4, ?_⟩
          cases b with
          | nil => simp at hl; omega
          | cons x b => simpa using h5

theorem three_more {b q : List UInt8} {t : Nat × Nat × Nat} (h : three b = .ok (t, q)) (r : List UInt8) : three (b ++ r) = .ok (t, q ++ r) := by
  unfold three at h ⊢
  cases h1 : takeNum b with
  | error e => rw [h1] at h; cases h
  | ok p =>
    obtain ⟨x, b1⟩ := p
    rw [h1] at h
    simp only at h
    rw [takeNum_more h1 r]
    simp only
    cases h2 : takeNum b1 with
    | error e => rw [h2] at h; cases h
    | ok p =>
      obtain ⟨y, b2⟩ := p
      rw [h2] at h
      simp only at h
      rw [takeNum_more h2 r]
      simp only
      cases h3 : takeNum b2 with
      | error e => rw [h3] at h; cases h
      | ok p =>
        obtain ⟨z, b3⟩ := p
        rw [h3] at h
        simp only at h
        rw [takeNum_more h3 r]
        cases h
        rfl

theorem three_form (x y z : Nat) (r : List UInt8) (hx : x < 18446744073709551616) (hy : y < 18446744073709551616) (hz : z < 18446744073709551616) : three (num x ++ (num y ++ (num z ++ r))) = .ok ((x, y, z), r) := by
  unfold three
  rw [take_num x _ hx]
  simp only
  rw [take_num y _ hy]
  simp only
  rw [take_num z _ hz]

/-- What may stand in a slot. -/
def InSlot (c : Nat) (s : Int × Int) : Prop := c < top ∧ 0 ≤ s.1 ∧ s.1 < (top : Int) ∧ -1 ≤ s.2 ∧ s.2 < (top : Int)

theorem four_length (c : Nat) : (four c).length = 4 := rfl

theorem slotForm_length (c : Nat) (s : Int × Int) : (slotForm c s).length = (stForm c s).length + 4 := by
  unfold slotForm
  rw [List.length_append, four_length]; omega

theorem stForm_le (c : Nat) (s : Int × Int) : (stForm c s).length ≤ 27 := by
  unfold stForm
  have h1 := num_le c
  have h2 := num_le s.1.toNat
  have h3 := num_le (s.2 + 1).toNat
  simp only [List.length_append]
  omega

theorem slotForm_le (c : Nat) (s : Int × Int) : (slotForm c s).length ≤ 31 := by
  have := stForm_le c s
  rw [slotForm_length]; omega

theorem three_st {c : Nat} {s : Int × Int} (h : InSlot c s) : three (stForm c s) = .ok ((c, s.1.toNat, (s.2 + 1).toNat), []) := by
  unfold InSlot top at h
  have := three_form c s.1.toNat (s.2 + 1).toNat [] (by omega) (by omega) (by omega)
  rw [List.append_nil] at this
  exact this

theorem slot_back {c : Nat} {s : Int × Int} (h : InSlot c s) : slot (slotForm c s) = (c, s) := by
  have ht := three_st h
  unfold InSlot at h
  have e4 : (slotForm c s).drop 4 = stForm c s := by
    unfold slotForm
    exact List.drop_left' rfl
  have e5 : (slotForm c s).take 4 = four (C.sumOf (stForm c s)) := by
    unfold slotForm
    exact List.take_left' rfl
  have hl := slotForm_length c s
  unfold slot
  rw [if_neg (by omega), e4, e5, if_neg (by simp), ht]
  simp only
  rw [if_pos (by unfold top at *; omega)]
  obtain ⟨t, v⟩ := s
  simp only at h ⊢
  congr 2
  · omega
  · omega

/-- A beginning of a slot's bytes is not whole. -/
theorem slot_cut {c : Nat} {s : Int × Int} (h : InSlot c s) {m : Nat} (hm : m < (slotForm c s).length) : (slot ((slotForm c s).take m)).1 = 0 := by
  have hl := slotForm_length c s
  have e0 : ((slotForm c s).take m).length = m := by rw [List.length_take]; omega
  unfold slot
  by_cases h4 : m < 4
  · rw [if_pos (by rw [e0]; exact h4)]
  · rw [if_neg (by rw [e0]; exact h4)]
    split
    · rfl
    · have e4 : ((slotForm c s).take m).drop 4 = (stForm c s).take (m - 4) := by
        unfold slotForm
        rw [List.take_append, four_length, List.take_of_length_le (by rw [four_length]; omega)]
        exact List.drop_left' rfl
      rw [e4]
      cases h3 : three ((stForm c s).take (m - 4)) with
      | error e => rfl
      | ok p =>
        obtain ⟨⟨x, y, z⟩, q⟩ := p
        cases q with
        | cons a q => rfl
        | nil =>
          exfalso
          have h5 := three_more h3 ((stForm c s).drop (m - 4))
          rw [List.take_append_drop, three_st h] at h5
          simp only [Except.ok.injEq, Prod.mk.injEq, List.nil_append] at h5
          have := congrArg List.length h5.2
          rw [List.length_drop] at this
          simp at this
          omega

theorem saveF_well {d : Dk} (h : Well d) (s : ByteArray) (b : List UInt8) : Well (saveF d s b).2 ∧ D.used (saveF d s b).2.fs ≤ D.used d.fs + b.length := by
  have h1 : Well (if D.isThere d.fs s then D.remove d [s] else (0, d)).2 ∧ D.used (if D.isThere d.fs s then D.remove d [s] else (0, d)).2.fs ≤ D.used d.fs := by
    split
    · exact remove_well h [s]
    · exact ⟨h, Nat.le_refl _⟩
  unfold saveF
  simp only
  obtain ⟨r, hr⟩ : ∃ r, r = (if D.isThere d.fs s then D.remove d [s] else (0, d)) := ⟨_, rfl⟩
  rw [← hr] at h1 ⊢
  split
  · exact ⟨h1.1, by omega⟩
  · have h2 := append_well h1.1 s [b]
    have e : [b].flatten.length = b.length := by simp
    rw [e] at h2
    split
    · exact ⟨h2.1, by omega⟩
    · have h3 := sync_well h2.1 [s]
      exact ⟨h3.1, by omega⟩
end Go.Proofs.YtamgjlegcegmeaaGreatDoor.M

/- Part: SegPure. -/
namespace Go.Proofs.YtamgjlegcegmeaaGreatDoor.M
open D (Fl Dk)

/-- An entry. -/
structure En where
  idx : Int
  term : Int
  kind : Int
  b : List UInt8

/-- An entry, and where in its segment its row begins. -/
structure Rw where
  e : En
  pos : Int

/-- A segment. -/
structure Fi where
  first : Int
  last : Int
  size : Int
  torn : Int
  loose : Bool

/-- What is held of a log. -/
structure Hd where
  mi : Int
  mt : Int
  rows : List Rw
  files : List Fi
  synced : Int

def Hd.last (h : Hd) : Int × Int := match h.rows.getLast? with
  | none => (h.mi, h.mt)
  | some r => (r.e.idx, r.e.term)

def sgForm (e : En) : List UInt8 := num e.idx.toNat ++ (num e.term.toNat ++ (num e.kind.toNat ++ (num e.b.length ++ e.b)))

def sgRow (e : En) : List UInt8 := four (C.sumOf (four (sgForm e).length ++ sgForm e)) ++ (four (sgForm e).length ++ sgForm e)

def sgName (i : Int) : ByteArray := ⟨([115, 101, 103, 45] ++ dg 10 i.toNat).toArray⟩

def okMark (m : Int × Int) : Bool := decide (0 ≤ m.1 ∧ m.1 < 10000000000 ∧ 0 ≤ m.2 ∧ m.2 < 10000000000)

/-- Is it the next one behind a place? -/
def nextTo (m : Int × Int) (e : En) : Bool := decide (e.idx = m.1 + 1 ∧ e.idx < 10000000000 ∧ max m.2 1 ≤ e.term ∧ e.term < 10000000000 ∧ 0 ≤ e.kind ∧ e.kind ≤ 255 ∧ e.b.length ≤ 1048576)

def followE (m : Int × Int) : List En → Bool
  | [] => true
  | e :: es => nextTo m e && followE (e.idx, e.term) es

def Fi.has (f : Fi) : Bool := decide (f.first ≤ f.last)
def Fi.hollow (f : Fi) : Bool := decide (f.size = 0 ∧ f.torn = 0)

/-- An entry's row is laid behind the others. -/
def layE (least : Int) (h : Hd) (d : Dk) (e : En) : Int × Hd × Dk :=
  let old := match h.files.getLast? with
    | some f => if f.size < least then some f else none
    | none => none
  let f := match old with
    | some f => f
    | none => ⟨e.idx, 0, 0, 0, false⟩
  let stay := match old with
    | some _ => h.files.dropLast
    | none => h.files
  let r := D.append d (sgName f.first) [sgRow e]
  if r.1 ≠ 0 then (r.1, h, r.2)
  else (0, { h with rows := h.rows ++ [⟨e, f.size⟩], files := stay ++ [{ f with size := f.size + (sgRow e).length, last := e.idx, loose := true }] }, r.2)

def layEs (least : Int) : Hd → Dk → List En → Int × Hd × Dk
  | h, d, [] => (0, h, d)
  | h, d, e :: es => match layE least h d e with
    | (0, h', d') => layEs least h' d' es
    | r => r

def appendE (least : Int) (h : Hd) (d : Dk) (es : List En) : Int × Hd × Dk :=
  if followE h.last es = false then (2, h, d)
  else if d.free < ((es.map fun e => (sgRow e).length).sum : Nat) then (31, h, d)
  else layEs least h d es

def looseNames (fs : List Fi) : List ByteArray := (fs.filter (·.loose)).map fun f => sgName f.first

def tighten (h : Hd) : Hd := { h with files := h.files.map (fun f => { f with loose := false }), synced := h.last.1 }

def syncE (h : Hd) (d : Dk) : Int × Hd × Dk :=
  let ns := looseNames h.files
  let r := if ns = [] then (0, d) else D.sync d ns
  if r.1 ≠ 0 then (r.1, h, r.2) else (0, tighten h, r.2)
end Go.Proofs.YtamgjlegcegmeaaGreatDoor.M
