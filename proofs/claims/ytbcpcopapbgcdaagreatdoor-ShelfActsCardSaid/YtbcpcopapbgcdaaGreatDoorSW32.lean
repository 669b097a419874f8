/- The document's disk: one file turned; Sync. The document's disk: Sync. The document's disk: Cut. The document's disk: Append. The document's disk: Append, walked. The document's disk: Remove. -/
import Derived.Test.YtbcpcopapbgcdaaGreatDoorSW21
import Derived.Test.YtbcpcopapbgcdaaGreatDoorSW15
import Derived.Deep.LoopGhost
import Derived.StillTailTactics
import Derived.Test.YtbcpcopapbgcdaaGreatDoorSW17
import Derived.Deep.QuietTactic
import Derived.BigQuiet
/- Part: DiskRef7. -/
namespace Go.Proofs.YtbcpcopapbgcdaaGreatDoor.M
open Go.RowKit
open D (Fl Dk)

theorem flCells_set : ∀ (fv : List (Fl × Value)) (i j : Nat) (h : i < fv.length) (p : Fl × Value) (x : Value), j < 3 → flV p = (flV fv[i]).set j x → (flCells fv).set (i * 3 + j) x = flCells (fv.set i p)
  | q :: r, 0, j, _, p, x, hj, hs => by
    simp only [flCells, List.flatMap_cons, List.set_cons_zero, List.getElem_cons_zero] at hs ⊢
    rw [hs, List.set_append_left _ _ (by simp [flV]; omega)]
    simp
  | q :: r, i + 1, j, h, p, x, hj, hs => by
    have ih := flCells_set r i j (by simpa using h) p x hj (by simpa using hs)
    simp only [flCells, List.flatMap_cons, List.set_cons_succ] at ih ⊢
    rw [List.set_append_right _ _ (by simp [flV]; omega), ← ih]
    congr 2
    simp [flV]; omega

/-- A disk, one file of which has turned: its bytes' block may have turned ahead of it. -/
theorem DkAt.put {w w1 : World} {X Y : Nat → Prop} {gd ga c i j : Nat} {d : Dk} {fv : List (Fl × Value)} {p : Fl × Value} {x : Value} (hat : DkAt w X gd d (.slice (some ⟨ga, 0, none⟩) fv.length c) fv) (hi : i < fv.length) (hXY : ∀ k, X k → Y k)
    (hX : ∀ k, X k → k < w.heap.size) (hw1 : ∀ k, k < w.heap.size → fv[i].2.ownBlock ≠ some k → w1.heap[k]? = w.heap[k]?) (hj : j < 3) (hs : flV p = (flV fv[i]).set j x)
    (hrow : w1.ownsRow 0 5 1 p.2 p.1.b.length (p.1.b.map byteV)) (hob : ∀ k, p.2.ownBlock = some k → fv[i].2.ownBlock = some k ∨ (Y k ∧ w.heap.size ≤ k)) :
    DkAt (w1.setCell ⟨ga, i * 3 + j, none⟩ x) Y gd { d with fs := d.fs.set i p.1 } (.slice (some ⟨ga, 0, none⟩) fv.length c) (fv.set i p) := by
  have hap := hat.apart
  rw [blocksOf, List.cons_append, List.nodup_cons] at hap
  obtain ⟨hgd, hap⟩ := hap
  obtain ⟨hv1, hf1, hvf⟩ := List.nodup_append.1 hap
  have hgam : ga ∈ (Value.slice (some ⟨ga, 0, none⟩) fv.length c).ownBlock.toList := by simp [Value.ownBlock]
  have hgagd : ga ≠ gd := fun e => hgd (List.mem_append.2 (.inl (e ▸ hgam)))
  have hgX : ga < w.heap.size := hX ga (hat.foot ga (mem_blocks_vl rfl))
  have hgdX : gd < w.heap.size := hX gd hat.own
  have hin : ∀ (q : Fl × Value), q ∈ fv → ∀ k, q.2.ownBlock = some k → k ∈ fv.flatMap fun p : Fl × Value => p.2.ownBlock.toList := fun q hq k hk => List.mem_flatMap.2 ⟨q, hq, by simp [hk]⟩
  have hfb : ∀ (q : Fl × Value), q ∈ fv → ∀ k, q.2.ownBlock = some k → k < w.heap.size ∧ k ≠ ga ∧ k ≠ gd := fun q hq k hk =>
    ⟨hX k (hat.foot k (mem_blocks_file hq hk)), fun e => hvf ga hgam k (hin q hq k hk) e.symm, fun e => hgd (List.mem_append.2 (.inr (e ▸ hin q hq k hk)))⟩
  have hia : fv[i].2.ownBlock ≠ some ga := fun h => (hfb _ (List.getElem_mem hi) ga h).2.1 rfl
  have hig : fv[i].2.ownBlock ≠ some gd := fun h => (hfb _ (List.getElem_mem hi) gd h).2.2 rfl
  -- the list of blocks behind the turn
  have hsplit : fv = fv.take i ++ fv[i] :: fv.drop (i + 1) := parts_of_list fv i hi
  have hset : fv.set i p = fv.take i ++ p :: fv.drop (i + 1) := List.set_eq_take_append_cons_drop.trans (by rw [if_pos hi])
  have hnd : ((fv.set i p).flatMap fun p : Fl × Value => p.2.ownBlock.toList).Nodup := by
    rw [hsplit, List.flatMap_append, List.flatMap_cons] at hf1
    rw [hset, List.flatMap_append, List.flatMap_cons]
    obtain ⟨a1, a2, a3⟩ := List.nodup_append.1 hf1
    obtain ⟨b1, b2, b3⟩ := List.nodup_append.1 a2
    have hold : ∀ q : Fl × Value, q ∈ fv → ∀ k, k ∈ q.2.ownBlock.toList → k < w.heap.size := fun q hq k hk => (hfb q hq k (by simpa using hk)).1
    refine List.nodup_append.2 ⟨a1, List.nodup_append.2 ⟨by cases p.2.ownBlock <;> simp, b2, fun y hy z hz e => ?_⟩, fun y hy z hz e => ?_⟩
    · subst e
      rcases hob y (by simpa using hy) with h | ⟨-, h⟩
      · exact b3 y (by simp [h]) y hz rfl
      · obtain ⟨q, hq, hk⟩ := List.mem_flatMap.1 hz
        have := hold q (List.mem_of_mem_drop hq) y hk
        omega
    · subst e
      rcases List.mem_append.1 hz with hz | hz
      · rcases hob y (by simpa using hz) with h | ⟨-, h⟩
        · exact a3 y hy y (List.mem_append.2 (.inl (by simp [h]))) rfl
        · obtain ⟨q, hq, hk⟩ := List.mem_flatMap.1 hy
          have := hold q (List.mem_of_mem_take hq) y hk
          omega
      · exact a3 y hy y (List.mem_append.2 (.inr hz)) rfl
  have hmem : ∀ q ∈ fv.set i p, (q ∈ fv ∧ ∀ k, q.2.ownBlock = some k → fv[i].2.ownBlock ≠ some k) ∨ q = p := fun q hq => by
    rw [hset] at hq
    have hf2 := hf1
    rw [hsplit, List.flatMap_append, List.flatMap_cons] at hf2
    obtain ⟨a1, a2, a3⟩ := List.nodup_append.1 hf2
    obtain ⟨b1, b2, b3⟩ := List.nodup_append.1 a2
    rcases List.mem_append.1 hq with h | h
    · exact .inl ⟨List.mem_of_mem_take h, fun k hk h2 => a3 k (List.mem_flatMap.2 ⟨q, h, by simp [hk]⟩) k (List.mem_append.2 (.inl (by simp [h2]))) rfl⟩
    · rcases List.mem_cons.1 h with h | h
      · exact .inr h
      · exact .inl ⟨List.mem_of_mem_drop h, fun k hk h2 => b3 k (by simp [h2]) k (List.mem_flatMap.2 ⟨q, h, by simp [hk]⟩) rfl⟩
  have hfoot : ∀ k, (∃ q ∈ fv.set i p, q.2.ownBlock = some k) → Y k ∧ k ≠ ga ∧ k ≠ gd := fun k ⟨q, hq, hk⟩ => by
    rcases hmem q hq with ⟨h, -⟩ | rfl
    · exact ⟨hXY k (hat.foot k (mem_blocks_file h hk)), (hfb q h k hk).2⟩
    · rcases hob k hk with h | ⟨h1, h2⟩
      · exact ⟨hXY k (hat.foot k (mem_blocks_file (List.getElem_mem hi) h)), (hfb _ (List.getElem_mem hi) k h).2⟩
      · exact ⟨h1, by omega, by omega⟩
  have hrow1 : w1.ownsRow 0 147 3 (.slice (some ⟨ga, 0, none⟩) fv.length c) fv.length (flCells fv) := ownsRow_same hat.row fun k hk => by
    have e : ga = k := by simpa [Value.ownBlock] using hk
    subst e
    exact hw1 ga hgX hia
  obtain ⟨cc, hb, hcc⟩ := hat.box
  refine ⟨⟨cc, ?_, hcc⟩, ?_, ?_, fun q hq => ?_, ?_, fun k hk => ?_⟩
  · rw [Below.heap_setCell _ _ _ _ (by simpa using hgagd.symm), hw1 gd hgdX hig]
    exact hb
  · show (fv.set i p).map (·.1) = d.fs.set i p.1
    rw [List.map_set, hat.fs]
  · have := (hrow1.stored (i * 3 + j) x).1
    rw [flCells_set fv i j hi p x hj hs] at this
    rw [List.length_set]
    exact this
  · refine ownsRow_same (w := w1) ?_ fun k hk => ?_
    · rcases hmem q hq with ⟨h, hne⟩ | rfl
      · exact ownsRow_same (hat.each q h) fun k hk => hw1 k (hfb q h k hk).1 (hne k hk)
      · exact hrow
    · have := (hfoot k ⟨q, hq, hk⟩).2.1
      rw [Below.heap_setCell _ _ _ _ (by simpa using this)]
  · rw [blocksOf, List.cons_append, List.nodup_cons]
    refine ⟨fun hm => ?_, List.nodup_append.2 ⟨hv1, hnd, fun y hy z hz e => ?_⟩⟩
    · rcases List.mem_append.1 hm with hm | hm
      · exact hgd (List.mem_append.2 (.inl hm))
      · obtain ⟨q, hq, hk⟩ := List.mem_flatMap.1 hm
        exact (hfoot gd ⟨q, hq, by simpa using hk⟩).2.2 rfl
    · have e2 : ga = y := (show y = ga by simpa [Value.ownBlock] using hy).symm
      subst e2
      obtain ⟨q, hq, hk⟩ := List.mem_flatMap.1 hz
      exact (hfoot z ⟨q, hq, by simpa using hk⟩).2.1 e.symm
  · rw [blocksOf, List.cons_append, List.mem_cons, List.mem_append, List.mem_flatMap] at hk
    rcases hk with rfl | hk | ⟨q, hq, hk⟩
    · exact hXY _ hat.own
    · exact hXY k (hat.foot k (by rw [blocksOf, List.cons_append, List.mem_cons, List.mem_append]; exact .inr (.inl hk)))
    · exact (hfoot k ⟨q, hq, by simpa using hk⟩).1

theorem modify_set {α : Type} (l : List α) (f : α → α) (i : Nat) (h : i < l.length) : l.modify i f = l.set i (f l[i]) := by
  apply List.ext_getElem?
  intro j
  rw [List.getElem?_modify, List.getElem?_set]
  by_cases e : i = j
  · subst e
    simp [h]
  · simp [e]

theorem find_names {fs gs : List Fl} (h : fs.map (·.nm) = gs.map (·.nm)) (s : ByteArray) : D.find fs s = D.find gs s := by
  have e : ∀ l : List Fl, D.find l s = (l.map (·.nm)).findIdx fun n => n.toList == s.toList := fun l => by
    unfold D.find
    induction l with
    | nil => rfl
    | cons a l ih => simp [List.findIdx_cons, ih]
  rw [e, e, h]

theorem syncAt_names (fs : List Fl) (i : Nat) : (D.syncAt fs i).map (·.nm) = fs.map (·.nm) := by
  unfold D.syncAt
  apply List.ext_getElem?
  intro j
  simp only [List.getElem?_map, List.getElem?_modify]
  by_cases e : i = j
  · subst e
    cases fs[i]? <;> simp
  · simp [e]

theorem syncs_names : ∀ (names : List ByteArray) (fs : List Fl), (names.foldl (fun fs s => D.syncAt fs (D.find fs s)) fs).map (·.nm) = fs.map (·.nm)
  | [], _ => rfl
  | _ :: r, fs => (syncs_names r _).trans (syncAt_names fs _)

theorem sync_32 {d : Dk} {names : List ByteArray} (h : d.stopped = true) : D.sync d names = (32, d) := by unfold D.sync; rw [if_pos h]

theorem sync_30 {d : Dk} {names : List ByteArray} (h : d.stopped = false) (hn : names.all (D.isThere d.fs) = false) : D.sync d names = (30, d.tick) := by
  unfold D.sync
  rw [if_neg (by rw [h]; simp)]
  simp only [tick_fs]
  rw [if_pos hn]

theorem sync_0 {d : Dk} {names : List ByteArray} (h : d.stopped = false) (hn : names.all (D.isThere d.fs) = true) : D.sync d names = (0, { d.tick with fs := names.foldl (fun fs s => D.syncAt fs (D.find fs s)) d.fs }) := by
  unfold D.sync
  rw [if_neg (by rw [h]; simp)]
  simp only [tick_fs]
  rw [if_neg (by rw [hn]; simp)]
end Go.Proofs.YtbcpcopapbgcdaaGreatDoor.M

/- Part: DiskRef8. -/
namespace Go.Proofs.YtbcpcopapbgcdaaGreatDoor.M
open Go.RowKit
open D (Fl Dk)

/-- The state at the head of the loop that makes files safe. -/
def SyncAt (w1 : World) (X : Nat → Prop) (gd : Nat) (d : Dk) (vl : Value) (names : List ByteArray) (k : Nat) (wr : World) : Prop :=
  k ≤ names.length ∧ Only X w1 wr ∧ wr.heap.size = w1.heap.size ∧ ∃ fv, DkAt wr X gd { d with fs := (names.take k).foldl (fun fs s => D.syncAt fs (D.find fs s)) d.fs } vl fv

theorem SyncAt.drew {w1 wr : World} {X : Nat → Prop} {gd k : Nat} {d : Dk} {vl : Value} {names : List ByteArray} (h : SyncAt w1 X gd d vl names k wr) : SyncAt w1 X gd d vl names k wr.drew := by
  obtain ⟨h1, h2, h3, fv, h4⟩ := h
  exact ⟨h1, ⟨h2.os, h2.tape, h2.output, h2.size, h2.block⟩, h3, fv, h4.same (fun _ h => h) fun _ _ => rfl⟩

set_option maxRecDepth 20000 in
set_option maxHeartbeats 3200000 in
theorem RefSync_any (d : Dk) (X : Nat → Prop) (gd : Nat) (names : List ByteArray) (F : Nat → Prop) (vn : Value) (w : World) (hd : DskIn w X gd d) (hf : Hid (Fine d)) (hv : RepSl w F names vn) (hF : ∀ k, F k → k < w.heap.size ∧ ¬ X k) :
    Calls Tryz.prog 81 #[.pointer (some ⟨gd, 0, none⟩), vn] w (CallPost w X gd (D.sync d names)) := by
  obtain ⟨na, nc, rfl, hnl⟩ := hv.slice
  have HX := Lib.hid hd.2
  have HD := Lib.hid hd.1
  have HV := Lib.hid hv
  have HF := Lib.hid hF
  clear hd hv hF
  cases hst : d.stopped with
  | true =>
    have HR : Hid (D.sync d names = (32, d)) := Lib.hid (sync_32 hst)
    have HT := Lib.hid (stopped_tick hst)
    have HST := Lib.hid hst
    clear hst
    go_enter Tryz.func81, Tryz.ntmps81
    go_wp2_with fail
    refine (RefStopped_any d X gd _ HD.out (Lib.hid hf.out.2.1)).mono ?_
    rintro e w1 ⟨rfl, ho, hd1, hs1⟩
    rw [HST.out]
    rw [HT.out] at hd1
    have HO := Lib.hid ho
    have HD1 := Lib.hid hd1
    clear ho hd1 hs1
    go_wp2_with fail
    go_ret
    exact ⟨by rw [HR.out]; rfl, HO.out, by rw [HR.out]; exact HD1.out.up⟩
  | false =>
    have HST := Lib.hid hst
    clear hst
    go_enter Tryz.func81, Tryz.ntmps81
    go_wp2_with fail
    refine (RefStopped_any d X gd _ HD.out (Lib.hid hf.out.2.1)).mono ?_
    rintro e w1 ⟨rfl, ho, hd1, hs1⟩
    rw [HST.out]
    have HO := Lib.hid ho
    have HD1 := Lib.hid hd1
    have HS1 := Lib.hid hs1
    have hv1 : RepSl w1 (fun k => F k) names (.slice na names.length nc) := HV.out.same (fun _ h => h) fun k hk => ho.block k (HF.out k hk).1 (HF.out k hk).2
    have HV1 := Lib.hid hv1
    clear ho hd1 hs1 hv1
    go_wp2_with fail
    go_loop [5] (fun i => ∃ k : Nat, k ≤ names.length ∧ i = .int .i64 (k : Int) ∧ Hid ((names.take k).all (D.isThere d.fs) = true)) (fun i => names.length - (intOf i).toNat)
    case atStart => exact ⟨0, Nat.zero_le _, rfl, Lib.hid rfl⟩
    case round =>
      obtain ⟨k, hk, rfl, HA⟩ := hrel
      by_cases hlt : k < names.length
      · have hkk : (k : Int) < (names.length : Int) := by omega
        obtain ⟨b, off, rfl, hFb, hc⟩ := HV1.out.elem k hlt
        have hbz : b < w1.heap.size := by rw [HS1.out]; exact (HF.out b hFb).1
        obtain ⟨s, hs⟩ : ∃ s, s = names[k] := ⟨_, rfl⟩
        rw [← hs] at hc
        have HSN := Lib.hid hs
        clear hs
        go_wp2_with fail
        refine (RefFind_any d.tick X gd s _ HD1.out).mono ?_
        rintro e w' ⟨rfl, rfl⟩
        rw [tick_fs]
        cases hta : D.isThere d.fs s with
        | false =>
          have HE : Hid (D.sync d names = (30, d.tick)) := Lib.hid (sync_30 HST.out (by
            rw [List.all_eq_false]
            exact ⟨names[k], List.getElem_mem hlt, by rw [← HSN.out, hta]; simp⟩))
          rw [findR_neg hta]
          clear hta
          go_wp2_with fail
          go_ret
          exact ⟨by rw [HE.out]; rfl, HO.out, by rw [HE.out]; exact HD1.out.up⟩
        | true =>
          obtain ⟨h1, h2⟩ := findR_pos hta
          rw [h1]
          have HN : Hid ((names.take (k + 1)).all (D.isThere d.fs) = true) := Lib.hid (by
            rw [List.take_succ_eq_append_getElem hlt, List.all_append, HA.out, ← HSN.out]
            simp [hta])
          clear h1 h2 hta
          go_wp2_with fail
          go_round
          case rel => exact ⟨k + 1, by omega, by go_num, HN⟩
          case measure => simp [intOf]; omega
      · have hkk : ¬ (k : Int) < (names.length : Int) := by omega
        obtain rfl : k = names.length := by omega
        have HALL : Hid (names.all (D.isThere d.fs) = true) := Lib.hid (by
          have := HA.out
          rw [List.take_length] at this
          exact this)
        obtain ⟨vl, fv, hat⟩ := HD1.out
        have HS0 : Hid (SyncAt w1 X gd d.tick vl names 0 w1) := Lib.hid ⟨Nat.zero_le _, Only.refl _ _, rfl, fv, by simpa using hat⟩
        have HFX : Hid (∀ k, X k → k < w1.heap.size) := Lib.hid fun k hk => by rw [HS1.out]; exact HX.out k hk
        clear hat
        go_wp2_with fail
        go_loopw [6, 7] (fun i _ wr => ∃ k : Nat, i = .int .i64 (k : Int) ∧ SyncAt w1 X gd d.tick vl names k wr) (fun i _ _ => names.length - (intOf i).toNat)
        case atStart => exact ⟨0, rfl, HS0.out⟩
        case round =>
          obtain ⟨k, rfl, hat⟩ := hrel
          obtain ⟨hk2, ho, hsz, fv, hat⟩ := hat
          have HOW := Lib.hid ho
          have HSZ := Lib.hid hsz
          have HAT := Lib.hid hat
          clear ho hsz hat
          by_cases hlt2 : k < names.length
          · have hkk2 : (k : Int) < (names.length : Int) := by omega
            have hv2 : RepSl wr (fun k => F k) names (.slice na names.length nc) := HV1.out.same (fun _ h => h) fun j hj => HOW.out.block j (by rw [HS1.out]; exact (HF.out j hj).1) (HF.out j hj).2
            obtain ⟨b, off, rfl, hFb, hc⟩ := hv2.elem k hlt2
            have hbz : b < wr.heap.size := by rw [HSZ.out, HS1.out]; exact (HF.out b hFb).1
            obtain ⟨s, hs⟩ : ∃ s, s = names[k] := ⟨_, rfl⟩
            rw [← hs] at hc
            obtain ⟨fs, hfs⟩ : ∃ fs, fs = (names.take k).foldl (fun fs s => D.syncAt fs (D.find fs s)) d.tick.fs := ⟨_, rfl⟩
            have hat := HAT.out
            rw [← hfs] at hat
            have hth : D.isThere fs s = true := by
              have h1 := List.all_eq_true.1 HALL.out s (by rw [hs]; exact List.getElem_mem hlt2)
              have h2 : fs.map (·.nm) = d.fs.map (·.nm) := by rw [hfs, syncs_names, tick_fs]
              have h3 : fs.length = d.fs.length := by simpa using congrArg List.length h2
              unfold D.isThere at h1 ⊢
              rw [find_names h2, h3]; exact h1
            obtain ⟨q1, q2⟩ := findR_pos hth
            obtain ⟨i, hi⟩ : ∃ i, i = D.find fs s := ⟨_, rfl⟩
            rw [← hi] at q1 q2
            have hfl : fs.length = fv.length := hat.len.2
            have hil : i < fv.length := by omega
            obtain ⟨cc, ⟨-, c1, -, -⟩, -, hz, -, -⟩ := hat.cells
            obtain ⟨ga, c, rfl, hXa, -, hgz, hnc, hcm, -, e1, e2, hfz⟩ := hat.file i hil
            obtain ⟨ba, bc, hb, hbl⟩ := hat.bytes i hil
            obtain ⟨n, hn⟩ : ∃ n, n = fv[i].1.b.length := ⟨_, rfl⟩
            obtain ⟨sf, hsf⟩ : ∃ sf, sf = fv[i].1.safe := ⟨_, rfl⟩
            have HDS : Hid (Dsk wr X gd { d.tick with fs := fs }) := Lib.hid ⟨_, fv, hat⟩
            rw [hb, ← hn] at e1
            rw [← hsf] at e2
            have f2 := hfz (i * 3 + 2)
            have hgt := hat.get i hil (by show i < fs.length; omega)
            have HNX : Hid (SyncAt w1 X gd d.tick (.slice (some ⟨ga, 0, none⟩) fv.length c) names (k + 1) (wr.setCell ⟨ga, i * 3 + 2, none⟩ (.int .i64 (n : Int)))) := Lib.hid (by
              refine ⟨by omega, HOW.out.set (.inl hXa) _, by simp [HSZ.out], fv.set i ({ fv[i].1 with safe := n }, fv[i].2), ?_⟩
              have hp := hat.put (Y := X) (w1 := wr) (p := ({ fv[i].1 with safe := n }, fv[i].2)) (j := 2) (x := .int .i64 (n : Int)) hil (fun _ h => h) (fun j hj => by rw [HSZ.out]; exact HFX.out j hj) (fun _ _ _ => rfl) (by omega) (by simp [flV]) (hat.each (fv[i]) (List.getElem_mem hil)) (fun _ h => .inl h)
              have e : (names.take (k + 1)).foldl (fun fs s => D.syncAt fs (D.find fs s)) d.tick.fs = fs.set i { fv[i].1 with safe := n } := by
                rw [List.take_succ_eq_append_getElem hlt2, List.foldl_append, ← hfs, ← hs]
                simp only [List.foldl_cons, List.foldl_nil]
                rw [← hi]
                unfold D.syncAt
                rw [modify_set _ _ _ q2, hn, hgt]
              simp only at hp ⊢
              rw [e]
              exact hp)
            have Q1 := Lib.hid q1
            have hil2 : (i : Int) < (fv.length : Int) := by omega
            have hnl2 : (n : Int) ≤ 9223372036854775807 := by omega
            clear hfs hat hth q1 q2 hi hfl hb hn hsf hgt hs hv2 hbl hfz
            go_wp2_with fail
            refine (RefFind_any _ X gd s _ HDS.out).mono ?_
            rintro e w' ⟨rfl, rfl⟩
            rw [show ({ d.tick with fs := fs } : Dk).fs = fs from rfl, Q1.out]
            go_wp2_with fail
            go_still_tail 16, (by kernel_rfl)
            go_wp2_with fail
            go_roundw
            case rel => exact ⟨k + 1, by go_num, HNX.out.drew⟩
            case measure => simp [intOf]; omega
          · have hkk2 : ¬ (k : Int) < (names.length : Int) := by omega
            obtain rfl : k = names.length := by omega
            have HE : Hid (D.sync d names = _) := Lib.hid (sync_0 HST.out HALL.out)
            go_wp2_with fail
            go_ret
            refine ⟨by rw [HE.out]; rfl, HO.out.trans (HOW.out.mono fun k hk => .inl hk), ?_⟩
            rw [HE.out]
            have := HAT.out
            simp only [List.take_length, tick_fs] at this
            exact Dsk.up ⟨_, _, this⟩
end Go.Proofs.YtbcpcopapbgcdaaGreatDoor.M

/- Part: DiskRef9. -/
namespace Go.Proofs.YtbcpcopapbgcdaaGreatDoor.M
open Go.RowKit
open D (Fl Dk)

theorem ownsRow_cut {w : World} {a : Option Addr} {c n : Nat} {L : List UInt8} (h : w.ownsRow 0 5 1 (.slice a L.length c) L.length (L.map byteV)) (hn : n ≤ L.length) :
    w.ownsRow 0 5 1 (.slice a n c) (L.take n).length ((L.take n).map byteV) := by
  have hl : (L.take n).length = n := by simp; omega
  rw [hl]
  refine ⟨by simp; omega, ?_⟩
  rcases h.2 with ⟨h1, h2⟩ | ⟨g, cap, cur, hv, hg, hcur, h1, h2, h3, h4⟩
  · simp only [Value.slice.injEq] at h1
    obtain ⟨h5, h6, h7⟩ := h1
    refine .inl ⟨?_, by omega⟩
    rw [h5, h7, show n = 0 by omega]
  · simp only [Value.slice.injEq] at hv
    obtain ⟨h5, -, h7⟩ := hv
    refine .inr ⟨g, cap, cur, by rw [h5, h7], hg, hcur, by omega, h2, h3, ?_⟩
    rw [List.map_take, ← h4, List.take_take, Nat.mul_one, Nat.min_eq_left (by omega)]

theorem cut_32 {d : Dk} {s : ByteArray} {n : Int} (h : d.stopped = true) : D.cut d s n = (32, d) := by unfold D.cut; rw [if_pos h]

theorem cut_30 {d : Dk} {s : ByteArray} {n : Int} (h : d.stopped = false) (hn : D.isThere d.fs s = false) : D.cut d s n = (30, d.tick) := by
  unfold D.cut
  rw [if_neg (by rw [h]; simp)]
  simp only [tick_fs]
  unfold D.isThere at hn
  rw [List.getElem?_eq_none (by simpa using hn)]

theorem cut_2 {d : Dk} {s : ByteArray} {n : Int} (h : d.stopped = false) (hi : D.find d.fs s < d.fs.length) (hn : n < 0 ∨ (d.fs[D.find d.fs s].b.length : Int) < n) : D.cut d s n = (2, d.tick) := by
  unfold D.cut
  rw [if_neg (by rw [h]; simp)]
  simp only [tick_fs]
  rw [List.getElem?_eq_getElem hi]
  simp only
  rw [if_pos hn]

theorem cut_0 {d : Dk} {s : ByteArray} {n : Int} (h : d.stopped = false) (hi : D.find d.fs s < d.fs.length) (hn : ¬ (n < 0 ∨ (d.fs[D.find d.fs s].b.length : Int) < n)) :
    D.cut d s n = (0, { d.tick with fs := d.fs.set (D.find d.fs s) { d.fs[D.find d.fs s] with b := d.fs[D.find d.fs s].b.take n.toNat, safe := min d.fs[D.find d.fs s].safe n.toNat } }) := by
  unfold D.cut
  rw [if_neg (by rw [h]; simp)]
  simp only [tick_fs]
  rw [List.getElem?_eq_getElem hi]
  simp only
  rw [if_neg hn, modify_set _ _ _ hi]

end Go.Proofs.YtbcpcopapbgcdaaGreatDoor.M

/- Part: DiskRef10. -/
namespace Go.Proofs.YtbcpcopapbgcdaaGreatDoor.M
open Go.RowKit
open D (Fl Dk)

theorem append_32 {d : Dk} {s : ByteArray} {bs : List (List UInt8)} (h : d.stopped = true) : D.append d s bs = (32, d) := by unfold D.append; rw [if_pos h]

theorem tick_free (d : Dk) : d.tick.free = d.free := by unfold D.Dk.free; rw [tick_fs, tick_room]

theorem append_30 {d : Dk} {s : ByteArray} {bs : List (List UInt8)} (h : d.stopped = false) (hn : D.okName s = false) : D.append d s bs = (30, d.tick) := by
  unfold D.append
  rw [if_neg (by rw [h]; simp)]
  simp only
  rw [if_pos hn]

theorem append_31 {d : Dk} {s : ByteArray} {bs : List (List UInt8)} (h : d.stopped = false) (hn : D.okName s = true) (hf : (bs.flatten.length : Int) > d.free ∨ (D.isThere d.fs s = false ∧ 4096 ≤ d.fs.length)) : D.append d s bs = (31, d.tick) := by
  unfold D.append
  rw [if_neg (by rw [h]; simp)]
  simp only [tick_free, tick_fs]
  rw [if_neg (by rw [hn]; simp), if_pos hf]

theorem append_0 {d : Dk} {s : ByteArray} {bs : List (List UInt8)} (h : d.stopped = false) (hn : D.okName s = true) (hf : ¬ ((bs.flatten.length : Int) > d.free ∨ (D.isThere d.fs s = false ∧ 4096 ≤ d.fs.length))) :
    D.append d s bs = (0, { d.tick with fs := D.layAt (if D.isThere d.fs s then d.fs else D.add d.fs ⟨s, [], 0⟩) (D.find (if D.isThere d.fs s then d.fs else D.add d.fs ⟨s, [], 0⟩) s) bs.flatten }) := by
  unfold D.append
  rw [if_neg (by rw [h]; simp)]
  simp only [tick_free, tick_fs]
  rw [if_neg (by rw [hn]; simp), if_neg hf]

/-- The state at the head of the loop that lays bytes. -/
def LayS (ws : World) (X1 : Nat → Prop) (gd ga c n i : Nat) (e : Dk) (fs : List Fl) (f0 : Fl) (bs : List (List UInt8)) (k : Nat) (wr : World) : Prop :=
  k ≤ bs.length ∧ Only X1 ws wr ∧ ∃ fv : List (Fl × Value), fv.length = n ∧ DkAt wr (More X1 ws wr) gd { e with fs := fs.set i { f0 with b := f0.b ++ (bs.take k).flatten } } (.slice (some ⟨ga, 0, none⟩) n c) fv

theorem LayS.drew {ws wr : World} {X1 : Nat → Prop} {gd ga c n i k : Nat} {e : Dk} {fs : List Fl} {f0 : Fl} {bs : List (List UInt8)} (h : LayS ws X1 gd ga c n i e fs f0 bs k wr) : LayS ws X1 gd ga c n i e fs f0 bs k wr.drew := by
  obtain ⟨h1, h2, fv, h3, h4⟩ := h
  exact ⟨h1, ⟨h2.os, h2.tape, h2.output, h2.size, h2.block⟩, fv, h3, h4.same (fun _ h => h) fun _ _ => rfl⟩

/-- One piece more. -/
theorem LayS.step {ws wr w2 : World} {X1 : Nat → Prop} {gd ga c n i k m : Nat} {e : Dk} {fs : List Fl} {f0 : Fl} {bs : List (List UInt8)} {fv : List (Fl × Value)} {v : Value} (hk : k < bs.length) (ho : Only X1 ws wr) (hn : fv.length = n)
    (hat : DkAt wr (More X1 ws wr) gd { e with fs := fs.set i { f0 with b := f0.b ++ (bs.take k).flatten } } (.slice (some ⟨ga, 0, none⟩) n c) fv) (hX1 : ∀ k, X1 k → k < ws.heap.size) (hi : i < fs.length) (hiv : i < fv.length) (hm : m = bs[k].length)
    (ha : AppLeft wr 0 5 1 fv[i].2 fv[i].1.b.length m (fv[i].1.b.map byteV) (bs[k].map byteV) v w2) (hga : More X1 ws wr ga) :
    LayS ws X1 gd ga c n i e fs f0 bs (k + 1) (w2.setCell ⟨ga, i * 3 + 1, none⟩ v) := by
  obtain ⟨h1, h2, h3⟩ := ha
  subst hn hm
  have hs := h2.size
  have hfi : fv[i].1 = { f0 with b := f0.b ++ (bs.take k).flatten } := by
    have := hat.get i hiv (by simpa using hi)
    rw [this]; simp
  have hXr : ∀ j, More X1 ws wr j → j < wr.heap.size := fun j hj => by
    rcases hj with hj | hj
    · exact Nat.lt_of_lt_of_le (hX1 j hj) ho.size
    · exact hj.2
  have hp := hat.put (Y := More X1 ws (w2.setCell ⟨ga, i * 3 + 1, none⟩ v)) (w1 := w2) (i := i) (p := ({ f0 with b := f0.b ++ (bs.take (k + 1)).flatten }, v)) (j := 1) (x := v) hiv
    (fun j hj => by
      rcases hj with hj | hj
      · exact .inl hj
      · exact .inr ⟨hj.1, by simp; omega⟩)
    hXr (fun j hj hne => h2.block j hj fun e => hne e.symm) (by omega) (by rw [show flV fv[i] = [.string fv[i].1.nm, fv[i].2, .int .i64 (fv[i].1.safe : Int)] from rfl, hfi]; rfl)
    (by
      show w2.ownsRow 0 5 1 v (f0.b ++ (bs.take (k + 1)).flatten).length ((f0.b ++ (bs.take (k + 1)).flatten).map byteV)
      rw [hfi] at h1
      have e1 : f0.b ++ (bs.take (k + 1)).flatten = (f0.b ++ (bs.take k).flatten) ++ bs[k] := by
        rw [List.take_succ_eq_append_getElem hk, List.flatten_append]; simp
      rw [e1, List.length_append, List.map_append]
      exact h1)
    (fun j hj => by
      rcases h3 with h3 | h3
      · exact .inl (by rw [← h3]; exact hj)
      · have : j = wr.heap.size := by rw [h3] at hj; cases hj; rfl
        have hlt := (h1.lt j hj).2
        have hss := ho.size
        exact .inr ⟨.inr ⟨by omega, by simpa using hlt⟩, by omega⟩)
  refine ⟨by omega, ?_, fv.set i ({ f0 with b := f0.b ++ (bs.take (k + 1)).flatten }, v), by simp, ?_⟩
  · have hg : Only X1 ws w2 := ⟨h2.os.trans ho.os, h2.tape.trans ho.tape, h2.output.trans ho.output, Nat.le_trans ho.size hs, fun j hj hne => by
      rw [h2.block j (Nat.lt_of_lt_of_le hj ho.size) fun e => ?_]
      · exact ho.block j hj hne
      · have := hat.foot j (mem_blocks_file (List.getElem_mem hiv) e.symm)
        rcases this with h | h
        · exact hne h
        · omega⟩
    refine hg.set ?_ _
    rcases hga with h | h
    · exact .inl h
    · exact .inr h.1
  · rw [List.set_set] at hp
    exact hp
end Go.Proofs.YtbcpcopapbgcdaaGreatDoor.M

/- Part: DiskRef11. -/
namespace Go.Proofs.YtbcpcopapbgcdaaGreatDoor.M
open Go.RowKit
open D (Fl Dk)

set_option maxRecDepth 20000 in
set_option maxHeartbeats 3200000 in
theorem RefAppend_any (d : Dk) (X : Nat → Prop) (gd : Nat) (s : ByteArray) (bs : List (List UInt8)) (F : Nat → Prop) (vb : Value) (w : World) (hd : DskIn w X gd d) (hf : Hid (Fine d)) (hsz : s.size ≤ 9223372036854775807) (hv : RepBl w F bs vb) (hF : ∀ k, F k → k < w.heap.size ∧ ¬ X k)
    (hu : Hid (D.used d.fs + bs.flatten.length ≤ 1099511627776)) :
    Calls Tryz.prog 36 #[.pointer (some ⟨gd, 0, none⟩), .string s, vb] w (CallPost w X gd (D.append d s bs)) := by
  obtain ⟨na, nc, rfl, hnl⟩ := hv.slice
  have HX := Lib.hid hd.2
  have HD := Lib.hid hd.1
  have HV := Lib.hid hv
  have HF := Lib.hid hF
  clear hd hv hF
  cases hst : d.stopped with
  | true =>
    have HR : Hid (D.append d s bs = (32, d)) := Lib.hid (append_32 hst)
    have HT := Lib.hid (stopped_tick hst)
    have HST := Lib.hid hst
    clear hst
    go_enter Tryz.func36, Tryz.ntmps36
    go_wp2_with fail
    refine (RefStopped_any d X gd _ HD.out (Lib.hid hf.out.2.1)).mono ?_
    rintro e w1 ⟨rfl, ho, hd1, hs1⟩
    rw [HST.out]
    rw [HT.out] at hd1
    have HO := Lib.hid ho
    have HD1 := Lib.hid hd1
    clear ho hd1 hs1
    go_wp2_with fail
    go_ret
    exact ⟨by rw [HR.out]; rfl, HO.out, by rw [HR.out]; exact HD1.out.up⟩
  | false =>
    have HST := Lib.hid hst
    clear hst
    go_enter Tryz.func36, Tryz.ntmps36
    go_wp2_with fail
    refine (RefStopped_any d X gd _ HD.out (Lib.hid hf.out.2.1)).mono ?_
    rintro e w1 ⟨rfl, ho, hd1, hs1⟩
    rw [HST.out]
    have HO := Lib.hid ho
    have HD1 := Lib.hid hd1
    have HS1 := Lib.hid hs1
    have hv1 : RepBl w1 (fun k => F k) bs (.slice na bs.length nc) := HV.out.same (fun _ h => h) fun k hk => ho.block k (HF.out k hk).1 (HF.out k hk).2
    have HV1 := Lib.hid hv1
    clear ho hd1 hs1 hv1
    go_wp2_with fail
    go_loop [7, 8] (fun n i => ∃ k : Nat, k ≤ bs.length ∧ i = .int .i64 (k : Int) ∧ n = .int .i64 ((bs.take k).flatten.length : Int)) (fun _ i => bs.length - (intOf i).toNat)
    case atStart => exact ⟨0, Nat.zero_le _, rfl, rfl⟩
    case round =>
      obtain ⟨k, hk, rfl, rfl⟩ := hrel
      have hle : (bs.take k).flatten.length ≤ bs.flatten.length := by
        conv => rhs; rw [← List.take_append_drop k bs, List.flatten_append, List.length_append]
        omega
      by_cases hlt : k < bs.length
      · have hkk : (k : Int) < (bs.length : Int) := by omega
        obtain ⟨b, off, u, rfl, hFb, hc, hu1⟩ := HV1.out.elem k hlt
        obtain ⟨ua, uc, rfl, hul⟩ := hu1.slice
        have hbz : b < w1.heap.size := by rw [HS1.out]; exact (HF.out b hFb).1
        have hsn := flat_snoc bs k hlt
        have hle2 : (bs.take (k + 1)).flatten.length ≤ bs.flatten.length := by
          conv => rhs; rw [← List.take_append_drop (k + 1) bs, List.flatten_append, List.length_append]
          omega
        have hue := hu.out
        obtain ⟨m, hm⟩ : ∃ m, m = (bs.take k).flatten.length := ⟨_, rfl⟩
        obtain ⟨x, hx⟩ : ∃ x, x = bs[k].length := ⟨_, rfl⟩
        have hmx : (bs.take (k + 1)).flatten.length = m + x := by rw [hsn, List.length_append, ← hm, ← hx]
        rw [← hx] at hc hul
        rw [← hm]
        have hmb : (m : Int) + (x : Int) ≤ 1099511627776 := by omega
        have HMX := Lib.hid hmx
        clear hsn hle hle2 hm hx hmx hu1
        go_wp2_with fail
        go_round
        case rel => exact ⟨k + 1, by omega, by go_num, by rw [HMX.out]; go_num⟩
        case measure => simp [intOf]; omega
      · have hkk : ¬ (k : Int) < (bs.length : Int) := by omega
        obtain rfl : k = bs.length := by omega
        rw [List.take_length]
        obtain ⟨n, hn⟩ : ∃ n, n = bs.flatten.length := ⟨_, rfl⟩
        rw [← hn]
        have HN := Lib.hid hn
        clear hle hlt hk hn
        go_wp2_with fail
        refine (RefFind_any d.tick X gd s _ HD1.out).mono ?_
        rintro e w' ⟨rfl, rfl⟩
        rw [tick_fs]
        go_wp2_with fail
        refine (RefName_any s _ hsz).mono ?_
        rintro e w' ⟨rfl, rfl⟩
        cases hnb : D.okName s with
        | false =>
          have HE : Hid (D.append d s bs = (30, d.tick)) := Lib.hid (append_30 HST.out hnb)
          clear hnb
          go_wp2_with fail
          go_ret
          exact ⟨by rw [HE.out]; rfl, HO.out, by rw [HE.out]; exact HD1.out.up⟩
        | true =>
          have HNB := Lib.hid hnb
          clear hnb
          go_wp2_with fail
          refine (RefFree_any d.tick X gd _ HD1.out (Lib.hid (by rw [tick_free, tick_room]; exact hf.out.2.2))).mono ?_
          rintro e w' ⟨rfl, rfl⟩
          rw [tick_free]
          obtain ⟨fr, hfr⟩ : ∃ fr, fr = d.free := ⟨_, rfl⟩
          rw [← hfr]
          obtain ⟨vl, fv, hat⟩ := HD1.out
          have hlen := hat.len.2
          rw [tick_fs] at hlen
          obtain ⟨cc, ⟨-, c1, -, -⟩, -, hz, -, -⟩ := hat.cells
          obtain ⟨la, lc, rfl⟩ := owned_slice hat.row
          have HAT := Lib.hid hat
          have HFR := Lib.hid hfr
          have HLEN := Lib.hid hlen
          clear hfr hat hlen
          by_cases hbig : fr < (n : Int)
          · have HE : Hid (D.append d s bs = (31, d.tick)) := Lib.hid (append_31 HST.out HNB.out (.inl (by rw [← HFR.out, ← HN.out]; omega)))
            go_wp2_with fail
            go_ret
            exact ⟨by rw [HE.out]; rfl, HO.out, by rw [HE.out]; exact HD1.out.up⟩
          · have t1 : decide (fr < (n : Int)) = false := by simp; omega
            cases hta : D.isThere d.fs s with
            | false =>
              rw [findR_neg hta]
              by_cases hmany : 4096 ≤ fv.length
              · have t2 : (4096 : Int) ≤ (fv.length : Int) := by omega
                have HE : Hid (D.append d s bs = (31, d.tick)) := Lib.hid (append_31 HST.out HNB.out (.inr ⟨hta, by rw [HLEN.out]; exact hmany⟩))
                clear hta
                go_wp2_with fail
                go_ret
                exact ⟨by rw [HE.out]; rfl, HO.out, by rw [HE.out]; exact HD1.out.up⟩
              · have t2 : decide ((4096 : Int) ≤ (fv.length : Int)) = false := by simp; omega
                have HTA := Lib.hid hta
                clear hta
                have HX1 : Hid (∀ k, X k → k < w1.heap.size) := Lib.hid fun k hk => by rw [HS1.out]; exact HX.out k hk
                have hd' := HLEN.out
                go_wp2_with fail
                refine (RefAdd_any d.tick X gd _ fv ⟨s, [], 0⟩ none 0 _ HAT.out HX1.out (Lib.hid (by omega)) ⟨rfl, .inl ⟨rfl, rfl⟩⟩ (fun k hk => by simp [Value.ownBlock] at hk)).mono ?_
                rintro e w6 ⟨rfl, ho2, hd2⟩
                obtain ⟨E2, hE2⟩ : ∃ E2 : Dk, E2 = { d.tick with fs := D.add d.tick.fs ⟨s, [], 0⟩ } := ⟨_, rfl⟩
                rw [← hE2] at hd2
                have hfs2 : E2.fs = D.add d.fs ⟨s, [], 0⟩ := by rw [hE2]; simp only [tick_fs]
                have HGD : Hid (X gd) := Lib.hid HAT.out.own
                have HO2 := Lib.hid ho2
                have HD2 := Lib.hid hd2
                have HE2 := Lib.hid hE2
                have HFS2 := Lib.hid hfs2
                clear ho2 hd2 hE2 hfs2 hd' c1
                go_wp2_with fail
                refine (RefFind_any E2 (More X w1 w6) gd s _ HD2.out).mono ?_
                rintro e w' ⟨rfl, rfl⟩
                have hth : D.isThere E2.fs s = true := by rw [HFS2.out]; exact D.isThere_add d.fs ⟨s, [], 0⟩
                obtain ⟨q1, q2⟩ := findR_pos hth
                rw [q1]
                obtain ⟨i, hi⟩ : ∃ i, i = D.find E2.fs s := ⟨_, rfl⟩
                rw [← hi] at q2 ⊢
                have HI := Lib.hid hi
                clear hth q1 hi
                obtain ⟨vl2, fvs, hat2⟩ := HD2.out
                have hlen2 := hat2.len.2
                have hil : i < fvs.length := by omega
                obtain ⟨ga, lcs, rfl, -, -, -, -, -, -, -, -, -⟩ := hat2.file i hil
                have HFS : Hid (∀ k, F k → k < w6.heap.size ∧ ¬ More X w1 w6 k) := Lib.hid fun k hk => by
                  have h1 := HF.out k hk
                  have h2 := HO2.out.size
                  have h3 := HS1.out
                  refine ⟨by omega, fun h => ?_⟩
                  rcases h with h | h
                  · exact h1.2 h
                  · omega
                have HX2 : Hid (∀ k, More X w1 w6 k → k < w6.heap.size) := Lib.hid fun k hk => by
                  rcases hk with hk | hk
                  · exact Nat.lt_of_lt_of_le (HX1.out k hk) HO2.out.size
                  · exact hk.2
                have HBS : Hid (RepBl w6 (fun k => F k) bs (.slice na bs.length nc)) := Lib.hid (HV1.out.same (fun _ h => h) fun k hk => HO2.out.block k (by rw [HS1.out]; exact (HF.out k hk).1) fun e => (HF.out k hk).2 (e ▸ HGD.out))
                obtain ⟨f0, hf0⟩ : ∃ f0, f0 = E2.fs[i]'q2 := ⟨_, rfl⟩
                have HF0 : Hid (E2.fs[i]? = some f0) := Lib.hid (by rw [List.getElem?_eq_getElem q2, hf0])
                have HBND : Hid (f0.b.length + bs.flatten.length ≤ 1099511627776) := Lib.hid (by
                  have h1 := hu.out
                  have h2 : f0.b.length ≤ D.used E2.fs := by
                    have a := D.used_take E2.fs i q2
                    have b := D.used_le E2.fs (i + 1)
                    rw [hf0]; omega
                  have h3 : D.used E2.fs = D.used d.fs := by rw [HFS2.out, D.used_add]; rfl
                  omega)
                have HFSL : Hid (E2.fs.length = fvs.length) := Lib.hid hlen2
                have HATS : Hid (DkAt w6 (More X w1 w6) gd E2 (.slice (some ⟨ga, 0, none⟩) fvs.length lcs) fvs) := Lib.hid hat2
                have HQ2 := Lib.hid q2
                clear hf0 q2 hat2 hlen2
                have HL0 : Hid (LayS w6 (More X w1 w6) gd ga lcs fvs.length i E2 E2.fs f0 bs 0 w6) := Lib.hid ⟨Nat.zero_le _, Only.refl _ _, fvs, rfl, by
                  have h1 : (E2.fs).set i { f0 with b := f0.b ++ (bs.take 0).flatten } = E2.fs := by
                    simp only [List.take_zero, List.flatten_nil, List.append_nil]
                    apply List.ext_getElem?
                    intro j
                    rw [List.getElem?_set]
                    by_cases e : i = j
                    · subst e
                      rw [if_pos rfl, HF0.out]
                      have := HFSL.out
                      rw [if_pos (by omega)]
                    · rw [if_neg e]
                  rw [h1, show ({ E2 with fs := E2.fs } : Dk) = E2 from rfl]
                  exact HATS.out.same (Y := More (More X w1 w6) w6 w6) (fun _ h => Or.inl h) fun _ _ => rfl⟩
                go_wp2_with fail
                go_loopw [10] (fun z wr => ∃ k : Nat, z = .int .i64 (k : Int) ∧ LayS w6 (More X w1 w6) gd ga lcs fvs.length i E2 E2.fs f0 bs k wr) (fun z _ => bs.length - (intOf z).toNat)
                case atStart => exact ⟨0, rfl, HL0.out⟩
                case round =>
                  obtain ⟨k, rfl, hat⟩ := hrel
                  obtain ⟨hkb, ho3, fw, hfw, hat3⟩ := hat
                  have HO3 := Lib.hid ho3
                  have HAT3 := Lib.hid hat3
                  have HFW := Lib.hid hfw
                  by_cases hlt : k < bs.length
                  · have hkk : (k : Int) < (bs.length : Int) := by omega
                    have hvr : RepBl wr (fun k => F k) bs (.slice na bs.length nc) := HBS.out.same (fun _ h => h) fun j hj => ho3.block j (HFS.out j hj).1 (HFS.out j hj).2
                    obtain ⟨b, off, u, rfl, hFb, hc, hu1⟩ := hvr.elem k hlt
                    obtain ⟨ua, uc, rfl, hul⟩ := hu1.slice
                    have hbz : b < wr.heap.size := Nat.lt_of_lt_of_le (HFS.out b hFb).1 ho3.size
                    have hiw : i < fw.length := by omega
                    obtain ⟨cc3, ⟨-, k1, -, -⟩, -, kz, -, -⟩ := hat3.cells
                    obtain ⟨ga', c', hv', hXga, -, hgz', hnc', hcm', -, e3, -, hfz'⟩ := hat3.file i hiw
                    have hga : ga' = ga := by simp only [Value.slice.injEq, Option.some.injEq, Addr.mk.injEq] at hv'; exact hv'.1.1.symm
                    subst hga
                    have hfz3 : ∀ j, wr.frozen? ⟨ga', j, none⟩ = false := hfz'
                    clear hfz'
                    obtain ⟨va, vc, hvi, hvl⟩ := hat3.bytes i hiw
                    have hfi : fw[i].1 = { f0 with b := f0.b ++ (bs.take k).flatten } := by
                      have := hat3.get i hiw (by have := HFSL.out; simp; omega)
                      rw [this]; simp
                    obtain ⟨len, hle⟩ : ∃ len, len = fw[i].1.b.length := ⟨_, rfl⟩
                    have hlen2 : len ≤ 1099511627776 ∧ len + bs[k].length ≤ 1099511627776 := by
                      have h0 := HBND.out
                      have h2 : (bs.take (k + 1)).flatten.length ≤ bs.flatten.length := by
                        conv => rhs; rw [← List.take_append_drop (k + 1) bs, List.flatten_append, List.length_append]
                        omega
                      rw [flat_snoc bs k hlt, List.length_append] at h2
                      rw [hle, hfi]
                      simp only [List.length_append]
                      omega
                    obtain ⟨x, hx⟩ : ∃ x, x = bs[k].length := ⟨_, rfl⟩
                    rw [hvi, ← hle] at e3
                    rw [← hx] at hc hul hlen2
                    have HROW : Hid (wr.ownsRow 0 5 1 (.slice va len vc) len (fw[i].1.b.map byteV)) := Lib.hid (by
                      have := hat3.each fw[i] (List.getElem_mem hiw)
                      rw [hvi, ← hle] at this
                      exact this)
                    have HYI : Hid (Yields wr (.slice ua x uc) x 1 (bs[k].map byteV)) := Lib.hid (by
                      have := hu1.yields
                      rw [← hx] at this
                      exact this)
                    have HVI : Hid (fw[i].2 = .slice va len vc) := Lib.hid (by rw [hvi, hle])
                    have HLE := Lib.hid hle
                    have HXL := Lib.hid hx
                    have HNE : Hid (∀ j, (Value.slice va len vc).ownBlock = some j → j ≠ ga' ∧ j ≠ gd) := Lib.hid fun j hj => by
                      have hap := hat3.apart
                      rw [blocksOf, List.cons_append, List.nodup_cons] at hap
                      have hjm : j ∈ fw.flatMap fun p : Fl × Value => p.2.ownBlock.toList := List.mem_flatMap.2 ⟨fw[i], List.getElem_mem hiw, by rw [hvi]; rw [ownBlock_len (m := fw[i].1.b.length) (c' := vc)] at hj; simp [hj]⟩
                      refine ⟨fun e => ?_, fun e => hap.1 (List.mem_append.2 (.inr (e ▸ hjm)))⟩
                      exact (List.nodup_append.1 hap.2).2.2 ga' (by simp [Value.ownBlock]) j hjm e.symm
                    have HGG : Hid (gd ≠ ga') := Lib.hid fun e => by
                      have hap := hat3.apart
                      rw [blocksOf, List.cons_append, List.nodup_cons] at hap
                      exact hap.1 (List.mem_append.2 (.inl (by simp [Value.ownBlock, e])))
                    have HBN : Hid (¬ (b = ga' ∨ (Value.slice va len vc).ownBlock = some b)) := Lib.hid fun h => by
                      have hb1 := HFS.out b hFb
                      have hm : More (More X w1 w6) w6 wr b := by
                        rcases h with h | h
                        · exact h ▸ hXga
                        · exact hat3.foot b (mem_blocks_file (List.getElem_mem hiw) (by rw [HVI.out]; exact h))
                      rcases hm with hm | hm
                      · exact hb1.2 hm
                      · omega
                    have hl2 : len + x ≤ 1099511627776 := hlen2.2
                    have HLAST : Hid (∀ v w2, AppLeft wr 0 5 1 (.slice va len vc) len x (fw[i].1.b.map byteV) (bs[k].map byteV) v w2 → LayS w6 (More X w1 w6) gd ga' lcs fvs.length i E2 E2.fs f0 bs (k + 1) (w2.setCell ⟨ga', i * 3 + 1, none⟩ v)) := Lib.hid fun v w2 ha =>
                      LayS.step (m := x) (fv := fw) hlt ho3 hfw hat3 HX2.out (by have := HFSL.out; omega) hiw hx (by rw [HVI.out, ← hle]; exact ha) hXga
                    obtain ⟨ib, hib, hib0, hib1, hib2⟩ := info_parts infoByte
                    have hil3 : (i : Int) < (fvs.length : Int) := by omega
                    clear hat3 ho3 hfw hvr hu1 hvi hfi hle hx hlen2 hvl hv' hnc' hkb
                    go_wp2_with fail
                    obtain ⟨own, hown⟩ : ∃ own, own = (Value.slice va len vc).ownBlock := ⟨_, rfl⟩
                    have HOWN := Lib.hid hown
                    clear hown
                    refine wp_region_held (S := fun w' => Only (fun j => j = ga' ∨ own = some j) wr w') (by kernel_rfl) ?_
                    have hS : Only (fun j => j = ga' ∨ own = some j) wr wr.drew := ⟨rfl, rfl, rfl, Nat.le_refl _, fun _ _ _ => rfl⟩
                    have r1 : ∀ w', Only (fun j => j = ga' ∨ own = some j) wr w' → w'.cell? ⟨gd, 1, none⟩ = some (.slice (some ⟨ga', 0, none⟩) fvs.length lcs) := fun w' hw' => (World.cell?_of_block (w := wr) (w' := w') (a := ⟨gd, 1, none⟩) (hw'.block gd kz (by
                      rw [HOWN.out]
                      intro h
                      rcases h with h | h
                      · exact HGG.out h
                      · exact (HNE.out gd h).2 rfl))).trans k1
                    have r2 : ∀ w', Only (fun j => j = ga' ∨ own = some j) wr w' → w'.cell? ⟨b, off + k, none⟩ = some (.slice ua x uc) := fun w' hw' => (World.cell?_of_block (w := wr) (w' := w') (a := ⟨b, off + k, none⟩) (hw'.block b hbz (by
                      rw [HOWN.out]
                      exact HBN.out))).trans hc
                    clear k1 hc
                    refine H_take (i := 0) (v := ?_) rfl (by as_aux_lemma => kernel_rfl) (by as_aux_lemma => kernel_rfl) (by as_aux_lemma => kernel_rfl) (fun _ _ _ h => h) (by rfl) hS ?_ ?_
                    rotate_left
                    · intro w' hw'; go_simp; with_reducible rfl
                    go_simp
                    refine H_take (i := 1) (v := ?_) rfl (by as_aux_lemma => kernel_rfl) (by as_aux_lemma => kernel_rfl) (by as_aux_lemma => kernel_rfl) (fun _ _ _ h => h) (by rfl) hS ?_ ?_
                    rotate_left
                    · intro w' hw'; go_simp; with_reducible rfl
                    go_simp
                    refine H_take (i := 2) (v := ?_) rfl (by as_aux_lemma => kernel_rfl) (by as_aux_lemma => kernel_rfl) (by as_aux_lemma => kernel_rfl) (fun _ _ _ h => h) (by rfl) hS ?_ ?_
                    rotate_left
                    · intro w' hw'; go_simp; with_reducible rfl
                    go_simp
                    refine H_take (i := 3) (v := ?_) rfl (by as_aux_lemma => kernel_rfl) (by as_aux_lemma => kernel_rfl) (by as_aux_lemma => kernel_rfl) (fun _ _ _ h => h) (by rfl) hS ?_ ?_
                    rotate_left
                    · intro w' hw'; go_simp; with_reducible rfl
                    go_simp
                    refine H_take (i := 4) (v := ?_) rfl (by as_aux_lemma => kernel_rfl) (by as_aux_lemma => kernel_rfl) (by as_aux_lemma => kernel_rfl) (fun _ _ _ h => h) (by rfl) hS ?_ ?_
                    rotate_left
                    · intro w' hw'; go_simp; with_reducible rfl
                    go_simp
                    refine H_take (i := 5) (v := ?_) rfl (by as_aux_lemma => kernel_rfl) (by as_aux_lemma => kernel_rfl) (by as_aux_lemma => kernel_rfl) (fun _ _ _ h => h) (by rfl) hS ?_ ?_
                    rotate_left
                    · intro w' hw'; go_simp; with_reducible rfl
                    go_simp
                    refine H_take (i := 6) (v := ?_) rfl (by as_aux_lemma => kernel_rfl) (by as_aux_lemma => kernel_rfl) (by as_aux_lemma => kernel_rfl) (fun _ _ _ h => h) (by rfl) hS ?_ ?_
                    rotate_left
                    · intro w' hw'; go_simp; with_reducible rfl
                    go_simp
                    refine H_take (i := 7) (v := ?_) rfl (by as_aux_lemma => kernel_rfl) (by as_aux_lemma => kernel_rfl) (by as_aux_lemma => kernel_rfl) (fun _ _ _ h => h) (by rfl) hS ?_ ?_
                    rotate_left
                    · intro w' hw'; go_simp; with_reducible rfl
                    go_simp
                    refine H_take (i := 8) (v := ?_) rfl (by as_aux_lemma => kernel_rfl) (by as_aux_lemma => kernel_rfl) (by as_aux_lemma => kernel_rfl) (fun _ _ _ h => h) (by rfl) hS ?_ ?_
                    rotate_left
                    · intro w' hw'; go_simp; with_reducible rfl
                    go_simp
                    refine H_take (i := 9) (v := ?_) rfl (by as_aux_lemma => kernel_rfl) (by as_aux_lemma => kernel_rfl) (by as_aux_lemma => kernel_rfl) (fun _ _ _ h => h) (by rfl) hS ?_ ?_
                    rotate_left
                    · intro w' hw'; go_simp; with_reducible rfl
                    go_simp
                    refine H_take (i := 10) (v := ?_) rfl (by as_aux_lemma => kernel_rfl) (by as_aux_lemma => kernel_rfl) (by as_aux_lemma => kernel_rfl) (fun _ _ _ h => h) (by rfl) hS ?_ ?_
                    rotate_left
                    · intro w' hw'; go_simp; with_reducible rfl
                    go_simp
                    refine H_take (i := 11) (v := ?_) rfl (by as_aux_lemma => kernel_rfl) (by as_aux_lemma => kernel_rfl) (by as_aux_lemma => kernel_rfl) (fun _ _ _ h => h) (by rfl) hS ?_ ?_
                    rotate_left
                    · intro w' hw'; go_simp; with_reducible rfl
                    go_simp
                    refine H_take (i := 13) (v := ?_) rfl (by as_aux_lemma => kernel_rfl) (by as_aux_lemma => kernel_rfl) (by as_aux_lemma => kernel_rfl) (fun _ _ _ h => h) (by rfl) hS ?_ ?_
                    rotate_left
                    · intro w' hw'; go_simp; with_reducible rfl
                    go_simp
                    refine H_take (i := 14) (v := ?_) rfl (by as_aux_lemma => kernel_rfl) (by as_aux_lemma => kernel_rfl) (by as_aux_lemma => kernel_rfl) (fun _ _ _ h => h) (by rfl) hS ?_ ?_
                    rotate_left
                    · intro w' hw'; go_simp; with_reducible rfl
                    go_simp
                    refine H_take (i := 15) (v := ?_) rfl (by as_aux_lemma => kernel_rfl) (by as_aux_lemma => kernel_rfl) (by as_aux_lemma => kernel_rfl) (fun _ _ _ h => h) (by rfl) hS ?_ ?_
                    rotate_left
                    · intro w' hw'; go_simp; with_reducible rfl
                    go_simp
                    refine H_take (i := 16) (v := ?_) rfl (by as_aux_lemma => kernel_rfl) (by as_aux_lemma => kernel_rfl) (by as_aux_lemma => kernel_rfl) (fun _ _ _ h => h) (by rfl) hS ?_ ?_
                    rotate_left
                    · intro w' hw'; go_simp; with_reducible rfl
                    go_simp
                    refine H_one (i := 12) (by as_aux_lemma => kernel_rfl) rfl (by rfl) ?_
                    go_simp
                    refine H_one (i := 17) (by as_aux_lemma => kernel_rfl) rfl (by rfl) ?_
                    refine wp_append_any _ _ _ 34 rfl 0 5 ib (.int .u8 0) 1 1 Tryz.underlying34 hib hib0 hib1 hib2 rfl (by decide) _ len _ rfl HROW.out _ rfl x _ HYI.out.drew (by unfold maxLen; omega) (by omega) (Nat.zero_le _) ?_
                    intro v2 w2 happ
                    have hz2 := happ.2.1.size
                    have hS2 : Only (fun j => j = ga' ∨ own = some j) wr w2 := ⟨happ.2.1.os, happ.2.1.tape, happ.2.1.output, happ.2.1.size, fun j hj hne => happ.2.1.block j hj fun e => hne (.inr (by rw [HOWN.out]; exact e.symm))⟩
                    have hgk : ∀ j, w2.cell? ⟨ga', j, none⟩ = wr.cell? ⟨ga', j, none⟩ ∧ w2.frozen? ⟨ga', j, none⟩ = wr.frozen? ⟨ga', j, none⟩ := fun j => by
                      have hb := happ.2.1.block ga' hgz' (fun e => (HNE.out ga' e.symm).1 rfl)
                      have hb' : w2.heap[ga']? = wr.heap[ga']? := hb
                      exact ⟨World.cell?_of_block (a := ⟨ga', j, none⟩) hb', by simp [World.frozen?, hb']⟩
                    have g1 : w2.cell? ⟨ga', i * 3 + 1, none⟩ = some (.slice va len vc) := (hgk _).1.trans e3
                    have g2 : w2.frozen? ⟨ga', i * 3 + 1, none⟩ = false := (hgk _).2.trans (hfz3 _)
                    have gz2 : ga' < w2.heap.size := Nat.lt_of_lt_of_le hgz' hz2
                    obtain ⟨va2, vc2, hv2⟩ := owned_slice happ.1
                    have HNX := Lib.hid (HLAST.out v2 w2 ⟨happ.1, ⟨happ.2.1.os, happ.2.1.tape, happ.2.1.output, happ.2.1.size, happ.2.1.block⟩, happ.2.2⟩)
                    have HV2 := Lib.hid hv2
                    rw [hv2]
                    rw [hv2] at HNX
                    clear happ hgk hv2 hfz3
                    refine ⟨hS2, ?_⟩
                    go_simp
                    refine H_take (i := 18) (v := ?_) rfl (by as_aux_lemma => kernel_rfl) (by as_aux_lemma => kernel_rfl) (by as_aux_lemma => kernel_rfl) (fun _ _ _ h => h) (by rfl) hS2 ?_ ?_
                    rotate_left
                    · intro w' hw'; go_simp; with_reducible rfl
                    go_simp
                    refine H_take (i := 19) (v := ?_) rfl (by as_aux_lemma => kernel_rfl) (by as_aux_lemma => kernel_rfl) (by as_aux_lemma => kernel_rfl) (fun _ _ _ h => h) (by rfl) hS2 ?_ ?_
                    rotate_left
                    · intro w' hw'; go_simp; with_reducible rfl
                    go_simp
                    refine H_one (i := 20) (by as_aux_lemma => kernel_rfl) rfl (by rfl) ?_
                    go_simp
                    refine ⟨hS2.set (.inl (.inl rfl)) _, ?_⟩
                    refine wpAnyH_done (by as_aux_lemma => kernel_rfl) ?_ _
                    clear r1 r2 hS hS2 g1 g2 e3
                    go_wp2_with fail
                    go_roundw
                    case rel => exact ⟨k + 1, by go_num, HNX.out⟩
                    case measure => simp [intOf]; omega
                  · have hkk : ¬ (k : Int) < (bs.length : Int) := by omega
                    obtain rfl : k = bs.length := by omega
                    clear hlt
                    go_wp2_with fail
                    go_ret
                    have hE := append_0 HST.out HNB.out (bs := bs) (by rw [← HFR.out, ← HN.out, HTA.out, HLEN.out]; simp; omega)
                    have he : (D.append d s bs).2 = { E2 with fs := E2.fs.set i { f0 with b := f0.b ++ bs.flatten } } := by
                      rw [hE, HTA.out]
                      simp only [Bool.false_eq_true, if_false]
                      unfold D.layAt
                      simp only [← HFS2.out, ← HI.out]
                      rw [modify_set _ _ _ HQ2.out]
                      have h0 := HF0.out
                      rw [List.getElem?_eq_getElem HQ2.out] at h0
                      simp only [Option.some.injEq] at h0
                      rw [h0, HE2.out]
                    refine ⟨by rw [hE]; rfl, (HO.out.trans (HO2.out.mono fun j hj => .inl (hj ▸ HGD.out))).trans (HO3.out.mono fun j hj => ?_), ?_⟩
                    · rcases hj with hj | hj
                      · exact .inl hj
                      · have := HO.out.size
                        exact .inr ⟨by omega, hj.2⟩
                    rw [he]
                    have := HAT3.out
                    rw [List.take_length] at this
                    have s1 := HO.out.size
                    have s2 := HO2.out.size
                    have s3 := HO3.out.size
                    refine ⟨_, _, this.same (fun j hj => ?_) fun _ _ => rfl⟩
                    rcases hj with (hj | hj) | hj
                    · exact .inl hj
                    · exact .inr ⟨by omega, by omega⟩
                    · exact .inr ⟨by omega, hj.2⟩
            | true =>
              obtain ⟨q1, q2⟩ := findR_pos hta
              rw [q1]
              obtain ⟨i, hi⟩ : ∃ i, i = D.find d.fs s := ⟨_, rfl⟩
              rw [← hi] at q2 ⊢
              have HTA := Lib.hid hta
              have HI := Lib.hid hi
              clear hta q1 hi
              have t2 : decide ((i : Int) < 0) = false := by simp
              have HFS : Hid (∀ k, F k → k < w1.heap.size ∧ ¬ X k) := Lib.hid fun k hk => ⟨by rw [HS1.out]; exact (HF.out k hk).1, (HF.out k hk).2⟩
              have HX1 : Hid (∀ k, X k → k < w1.heap.size) := Lib.hid fun k hk => by rw [HS1.out]; exact HX.out k hk
              have hil : i < fv.length := by have := HLEN.out; omega
              obtain ⟨ga, c, hla, -, -, -, -, -, -, -, -, -⟩ := HAT.out.file i hil
              have hla2 : la = some ⟨ga, 0, none⟩ := by simp only [Value.slice.injEq] at hla; exact hla.1
              subst hla2
              clear hla
              obtain ⟨f0, hf0⟩ : ∃ f0, f0 = d.fs[i]'q2 := ⟨_, rfl⟩
              have HF0 : Hid (d.fs[i]? = some f0) := Lib.hid (by rw [List.getElem?_eq_getElem q2, hf0])
              have HBND : Hid (f0.b.length + bs.flatten.length ≤ 1099511627776) := Lib.hid (by
                have h1 := hu.out
                have h2 : f0.b.length ≤ D.used d.fs := by
                  have a := D.used_take d.fs i q2
                  have b := D.used_le d.fs (i + 1)
                  rw [hf0]; omega
                omega)
              have HFSL : Hid (d.fs.length = fv.length) := HLEN
              have HATS : Hid (DkAt w1 X gd d.tick (.slice (some ⟨ga, 0, none⟩) fv.length lc) fv) := HAT
              have HBS : Hid (RepBl w1 (fun k => F k) bs (.slice na bs.length nc)) := HV1
              have HQ2 := Lib.hid q2
              clear hf0 q2 c1
              have HL0 : Hid (LayS w1 X gd ga lc fv.length i d.tick d.fs f0 bs 0 w1) := Lib.hid ⟨Nat.zero_le _, Only.refl _ _, fv, rfl, by
                have h1 : (d.fs).set i { f0 with b := f0.b ++ (bs.take 0).flatten } = d.fs := by
                  simp only [List.take_zero, List.flatten_nil, List.append_nil]
                  apply List.ext_getElem?
                  intro j
                  rw [List.getElem?_set]
                  by_cases e : i = j
                  · subst e
                    rw [if_pos rfl, HF0.out]
                    have := HFSL.out
                    rw [if_pos (by omega)]
                  · rw [if_neg e]
                rw [h1, show ({ d.tick with fs := d.fs } : Dk) = d.tick from by rw [← tick_fs d]]
                exact HATS.out.same (Y := More X w1 w1) (fun _ h => Or.inl h) fun _ _ => rfl⟩
              go_wp2_with fail
              go_loopw [10] (fun z wr => ∃ k : Nat, z = .int .i64 (k : Int) ∧ LayS w1 X gd ga lc fv.length i d.tick d.fs f0 bs k wr) (fun z _ => bs.length - (intOf z).toNat)
              case atStart => exact ⟨0, rfl, HL0.out⟩
              case round =>
                obtain ⟨k, rfl, hat⟩ := hrel
                obtain ⟨hkb, ho3, fw, hfw, hat3⟩ := hat
                have HO3 := Lib.hid ho3
                have HAT3 := Lib.hid hat3
                have HFW := Lib.hid hfw
                by_cases hlt : k < bs.length
                · have hkk : (k : Int) < (bs.length : Int) := by omega
                  have hvr : RepBl wr (fun k => F k) bs (.slice na bs.length nc) := HBS.out.same (fun _ h => h) fun j hj => ho3.block j (HFS.out j hj).1 (HFS.out j hj).2
                  obtain ⟨b, off, u, rfl, hFb, hc, hu1⟩ := hvr.elem k hlt
                  obtain ⟨ua, uc, rfl, hul⟩ := hu1.slice
                  have hbz : b < wr.heap.size := Nat.lt_of_lt_of_le (HFS.out b hFb).1 ho3.size
                  have hiw : i < fw.length := by omega
                  obtain ⟨cc3, ⟨-, k1, -, -⟩, -, kz, -, -⟩ := hat3.cells
                  obtain ⟨ga', c', hv', hXga, -, hgz', hnc', hcm', -, e3, -, hfz'⟩ := hat3.file i hiw
                  have hga : ga' = ga := by simp only [Value.slice.injEq, Option.some.injEq, Addr.mk.injEq] at hv'; exact hv'.1.1.symm
                  subst hga
                  have hfz3 : ∀ j, wr.frozen? ⟨ga', j, none⟩ = false := hfz'
                  clear hfz'
                  obtain ⟨va, vc, hvi, hvl⟩ := hat3.bytes i hiw
                  have hfi : fw[i].1 = { f0 with b := f0.b ++ (bs.take k).flatten } := by
                    have := hat3.get i hiw (by have := HFSL.out; simp; omega)
                    rw [this]; simp
                  obtain ⟨len, hle⟩ : ∃ len, len = fw[i].1.b.length := ⟨_, rfl⟩
                  have hlen2 : len ≤ 1099511627776 ∧ len + bs[k].length ≤ 1099511627776 := by
                    have h0 := HBND.out
                    have h2 : (bs.take (k + 1)).flatten.length ≤ bs.flatten.length := by
                      conv => rhs; rw [← List.take_append_drop (k + 1) bs, List.flatten_append, List.length_append]
                      omega
                    rw [flat_snoc bs k hlt, List.length_append] at h2
                    rw [hle, hfi]
                    simp only [List.length_append]
                    omega
                  obtain ⟨x, hx⟩ : ∃ x, x = bs[k].length := ⟨_, rfl⟩
                  rw [hvi, ← hle] at e3
                  rw [← hx] at hc hul hlen2
                  have HROW : Hid (wr.ownsRow 0 5 1 (.slice va len vc) len (fw[i].1.b.map byteV)) := Lib.hid (by
                    have := hat3.each fw[i] (List.getElem_mem hiw)
                    rw [hvi, ← hle] at this
                    exact this)
                  have HYI : Hid (Yields wr (.slice ua x uc) x 1 (bs[k].map byteV)) := Lib.hid (by
                    have := hu1.yields
                    rw [← hx] at this
                    exact this)
                  have HVI : Hid (fw[i].2 = .slice va len vc) := Lib.hid (by rw [hvi, hle])
                  have HLE := Lib.hid hle
                  have HXL := Lib.hid hx
                  have HNE : Hid (∀ j, (Value.slice va len vc).ownBlock = some j → j ≠ ga' ∧ j ≠ gd) := Lib.hid fun j hj => by
                    have hap := hat3.apart
                    rw [blocksOf, List.cons_append, List.nodup_cons] at hap
                    have hjm : j ∈ fw.flatMap fun p : Fl × Value => p.2.ownBlock.toList := List.mem_flatMap.2 ⟨fw[i], List.getElem_mem hiw, by rw [hvi]; rw [ownBlock_len (m := fw[i].1.b.length) (c' := vc)] at hj; simp [hj]⟩
                    refine ⟨fun e => ?_, fun e => hap.1 (List.mem_append.2 (.inr (e ▸ hjm)))⟩
                    exact (List.nodup_append.1 hap.2).2.2 ga' (by simp [Value.ownBlock]) j hjm e.symm
                  have HGG : Hid (gd ≠ ga') := Lib.hid fun e => by
                    have hap := hat3.apart
                    rw [blocksOf, List.cons_append, List.nodup_cons] at hap
                    exact hap.1 (List.mem_append.2 (.inl (by simp [Value.ownBlock, e])))
                  have HBN : Hid (¬ (b = ga' ∨ (Value.slice va len vc).ownBlock = some b)) := Lib.hid fun h => by
                    have hb1 := HFS.out b hFb
                    have hm : More X w1 wr b := by
                      rcases h with h | h
                      · exact h ▸ hXga
                      · exact hat3.foot b (mem_blocks_file (List.getElem_mem hiw) (by rw [HVI.out]; exact h))
                    rcases hm with hm | hm
                    · exact hb1.2 hm
                    · omega
                  have hl2 : len + x ≤ 1099511627776 := hlen2.2
                  have HLAST : Hid (∀ v w2, AppLeft wr 0 5 1 (.slice va len vc) len x (fw[i].1.b.map byteV) (bs[k].map byteV) v w2 → LayS w1 X gd ga' lc fv.length i d.tick d.fs f0 bs (k + 1) (w2.setCell ⟨ga', i * 3 + 1, none⟩ v)) := Lib.hid fun v w2 ha =>
                    LayS.step (m := x) (fv := fw) hlt ho3 hfw hat3 HX1.out (by have := HFSL.out; omega) hiw hx (by rw [HVI.out, ← hle]; exact ha) hXga
                  obtain ⟨ib, hib, hib0, hib1, hib2⟩ := info_parts infoByte
                  have hil3 : (i : Int) < (fv.length : Int) := by omega
                  clear hat3 ho3 hfw hvr hu1 hvi hfi hle hx hlen2 hvl hv' hnc' hkb
                  go_wp2_with fail
                  obtain ⟨own, hown⟩ : ∃ own, own = (Value.slice va len vc).ownBlock := ⟨_, rfl⟩
                  have HOWN := Lib.hid hown
                  clear hown
                  refine wp_region_held (S := fun w' => Only (fun j => j = ga' ∨ own = some j) wr w') (by kernel_rfl) ?_
                  have hS : Only (fun j => j = ga' ∨ own = some j) wr wr.drew := ⟨rfl, rfl, rfl, Nat.le_refl _, fun _ _ _ => rfl⟩
                  have r1 : ∀ w', Only (fun j => j = ga' ∨ own = some j) wr w' → w'.cell? ⟨gd, 1, none⟩ = some (.slice (some ⟨ga', 0, none⟩) fv.length lc) := fun w' hw' => (World.cell?_of_block (w := wr) (w' := w') (a := ⟨gd, 1, none⟩) (hw'.block gd kz (by
                    rw [HOWN.out]
                    intro h
                    rcases h with h | h
                    · exact HGG.out h
                    · exact (HNE.out gd h).2 rfl))).trans k1
                  have r2 : ∀ w', Only (fun j => j = ga' ∨ own = some j) wr w' → w'.cell? ⟨b, off + k, none⟩ = some (.slice ua x uc) := fun w' hw' => (World.cell?_of_block (w := wr) (w' := w') (a := ⟨b, off + k, none⟩) (hw'.block b hbz (by
                    rw [HOWN.out]
                    exact HBN.out))).trans hc
                  clear k1 hc
                  refine H_take (i := 0) (v := ?_) rfl (by as_aux_lemma => kernel_rfl) (by as_aux_lemma => kernel_rfl) (by as_aux_lemma => kernel_rfl) (fun _ _ _ h => h) (by rfl) hS ?_ ?_
                  rotate_left
                  · intro w' hw'; go_simp; with_reducible rfl
                  go_simp
                  refine H_take (i := 1) (v := ?_) rfl (by as_aux_lemma => kernel_rfl) (by as_aux_lemma => kernel_rfl) (by as_aux_lemma => kernel_rfl) (fun _ _ _ h => h) (by rfl) hS ?_ ?_
                  rotate_left
                  · intro w' hw'; go_simp; with_reducible rfl
                  go_simp
                  refine H_take (i := 2) (v := ?_) rfl (by as_aux_lemma => kernel_rfl) (by as_aux_lemma => kernel_rfl) (by as_aux_lemma => kernel_rfl) (fun _ _ _ h => h) (by rfl) hS ?_ ?_
                  rotate_left
                  · intro w' hw'; go_simp; with_reducible rfl
                  go_simp
                  refine H_take (i := 3) (v := ?_) rfl (by as_aux_lemma => kernel_rfl) (by as_aux_lemma => kernel_rfl) (by as_aux_lemma => kernel_rfl) (fun _ _ _ h => h) (by rfl) hS ?_ ?_
                  rotate_left
                  · intro w' hw'; go_simp; with_reducible rfl
                  go_simp
                  refine H_take (i := 4) (v := ?_) rfl (by as_aux_lemma => kernel_rfl) (by as_aux_lemma => kernel_rfl) (by as_aux_lemma => kernel_rfl) (fun _ _ _ h => h) (by rfl) hS ?_ ?_
                  rotate_left
                  · intro w' hw'; go_simp; with_reducible rfl
                  go_simp
                  refine H_take (i := 5) (v := ?_) rfl (by as_aux_lemma => kernel_rfl) (by as_aux_lemma => kernel_rfl) (by as_aux_lemma => kernel_rfl) (fun _ _ _ h => h) (by rfl) hS ?_ ?_
                  rotate_left
                  · intro w' hw'; go_simp; with_reducible rfl
                  go_simp
                  refine H_take (i := 6) (v := ?_) rfl (by as_aux_lemma => kernel_rfl) (by as_aux_lemma => kernel_rfl) (by as_aux_lemma => kernel_rfl) (fun _ _ _ h => h) (by rfl) hS ?_ ?_
                  rotate_left
                  · intro w' hw'; go_simp; with_reducible rfl
                  go_simp
                  refine H_take (i := 7) (v := ?_) rfl (by as_aux_lemma => kernel_rfl) (by as_aux_lemma => kernel_rfl) (by as_aux_lemma => kernel_rfl) (fun _ _ _ h => h) (by rfl) hS ?_ ?_
                  rotate_left
                  · intro w' hw'; go_simp; with_reducible rfl
                  go_simp
                  refine H_take (i := 8) (v := ?_) rfl (by as_aux_lemma => kernel_rfl) (by as_aux_lemma => kernel_rfl) (by as_aux_lemma => kernel_rfl) (fun _ _ _ h => h) (by rfl) hS ?_ ?_
                  rotate_left
                  · intro w' hw'; go_simp; with_reducible rfl
                  go_simp
                  refine H_take (i := 9) (v := ?_) rfl (by as_aux_lemma => kernel_rfl) (by as_aux_lemma => kernel_rfl) (by as_aux_lemma => kernel_rfl) (fun _ _ _ h => h) (by rfl) hS ?_ ?_
                  rotate_left
                  · intro w' hw'; go_simp; with_reducible rfl
                  go_simp
                  refine H_take (i := 10) (v := ?_) rfl (by as_aux_lemma => kernel_rfl) (by as_aux_lemma => kernel_rfl) (by as_aux_lemma => kernel_rfl) (fun _ _ _ h => h) (by rfl) hS ?_ ?_
                  rotate_left
                  · intro w' hw'; go_simp; with_reducible rfl
                  go_simp
                  refine H_take (i := 11) (v := ?_) rfl (by as_aux_lemma => kernel_rfl) (by as_aux_lemma => kernel_rfl) (by as_aux_lemma => kernel_rfl) (fun _ _ _ h => h) (by rfl) hS ?_ ?_
                  rotate_left
                  · intro w' hw'; go_simp; with_reducible rfl
                  go_simp
                  refine H_take (i := 13) (v := ?_) rfl (by as_aux_lemma => kernel_rfl) (by as_aux_lemma => kernel_rfl) (by as_aux_lemma => kernel_rfl) (fun _ _ _ h => h) (by rfl) hS ?_ ?_
                  rotate_left
                  · intro w' hw'; go_simp; with_reducible rfl
                  go_simp
                  refine H_take (i := 14) (v := ?_) rfl (by as_aux_lemma => kernel_rfl) (by as_aux_lemma => kernel_rfl) (by as_aux_lemma => kernel_rfl) (fun _ _ _ h => h) (by rfl) hS ?_ ?_
                  rotate_left
                  · intro w' hw'; go_simp; with_reducible rfl
                  go_simp
                  refine H_take (i := 15) (v := ?_) rfl (by as_aux_lemma => kernel_rfl) (by as_aux_lemma => kernel_rfl) (by as_aux_lemma => kernel_rfl) (fun _ _ _ h => h) (by rfl) hS ?_ ?_
                  rotate_left
                  · intro w' hw'; go_simp; with_reducible rfl
                  go_simp
                  refine H_take (i := 16) (v := ?_) rfl (by as_aux_lemma => kernel_rfl) (by as_aux_lemma => kernel_rfl) (by as_aux_lemma => kernel_rfl) (fun _ _ _ h => h) (by rfl) hS ?_ ?_
                  rotate_left
                  · intro w' hw'; go_simp; with_reducible rfl
                  go_simp
                  refine H_one (i := 12) (by as_aux_lemma => kernel_rfl) rfl (by rfl) ?_
                  go_simp
                  refine H_one (i := 17) (by as_aux_lemma => kernel_rfl) rfl (by rfl) ?_
                  refine wp_append_any _ _ _ 34 rfl 0 5 ib (.int .u8 0) 1 1 Tryz.underlying34 hib hib0 hib1 hib2 rfl (by decide) _ len _ rfl HROW.out _ rfl x _ HYI.out.drew (by unfold maxLen; omega) (by omega) (Nat.zero_le _) ?_
                  intro v2 w2 happ
                  have hz2 := happ.2.1.size
                  have hS2 : Only (fun j => j = ga' ∨ own = some j) wr w2 := ⟨happ.2.1.os, happ.2.1.tape, happ.2.1.output, happ.2.1.size, fun j hj hne => happ.2.1.block j hj fun e => hne (.inr (by rw [HOWN.out]; exact e.symm))⟩
                  have hgk : ∀ j, w2.cell? ⟨ga', j, none⟩ = wr.cell? ⟨ga', j, none⟩ ∧ w2.frozen? ⟨ga', j, none⟩ = wr.frozen? ⟨ga', j, none⟩ := fun j => by
                    have hb := happ.2.1.block ga' hgz' (fun e => (HNE.out ga' e.symm).1 rfl)
                    have hb' : w2.heap[ga']? = wr.heap[ga']? := hb
                    exact ⟨World.cell?_of_block (a := ⟨ga', j, none⟩) hb', by simp [World.frozen?, hb']⟩
                  have g1 : w2.cell? ⟨ga', i * 3 + 1, none⟩ = some (.slice va len vc) := (hgk _).1.trans e3
                  have g2 : w2.frozen? ⟨ga', i * 3 + 1, none⟩ = false := (hgk _).2.trans (hfz3 _)
                  have gz2 : ga' < w2.heap.size := Nat.lt_of_lt_of_le hgz' hz2
                  obtain ⟨va2, vc2, hv2⟩ := owned_slice happ.1
                  have HNX := Lib.hid (HLAST.out v2 w2 ⟨happ.1, ⟨happ.2.1.os, happ.2.1.tape, happ.2.1.output, happ.2.1.size, happ.2.1.block⟩, happ.2.2⟩)
                  have HV2 := Lib.hid hv2
                  rw [hv2]
                  rw [hv2] at HNX
                  clear happ hgk hv2 hfz3
                  refine ⟨hS2, ?_⟩
                  go_simp
                  refine H_take (i := 18) (v := ?_) rfl (by as_aux_lemma => kernel_rfl) (by as_aux_lemma => kernel_rfl) (by as_aux_lemma => kernel_rfl) (fun _ _ _ h => h) (by rfl) hS2 ?_ ?_
                  rotate_left
                  · intro w' hw'; go_simp; with_reducible rfl
                  go_simp
                  refine H_take (i := 19) (v := ?_) rfl (by as_aux_lemma => kernel_rfl) (by as_aux_lemma => kernel_rfl) (by as_aux_lemma => kernel_rfl) (fun _ _ _ h => h) (by rfl) hS2 ?_ ?_
                  rotate_left
                  · intro w' hw'; go_simp; with_reducible rfl
                  go_simp
                  refine H_one (i := 20) (by as_aux_lemma => kernel_rfl) rfl (by rfl) ?_
                  go_simp
                  refine ⟨hS2.set (.inl (.inl rfl)) _, ?_⟩
                  refine wpAnyH_done (by as_aux_lemma => kernel_rfl) ?_ _
                  clear r1 r2 hS hS2 g1 g2 e3
                  go_wp2_with fail
                  go_roundw
                  case rel => exact ⟨k + 1, by go_num, HNX.out⟩
                  case measure => simp [intOf]; omega
                · have hkk : ¬ (k : Int) < (bs.length : Int) := by omega
                  obtain rfl : k = bs.length := by omega
                  clear hlt
                  go_wp2_with fail
                  go_ret
                  have hE := append_0 HST.out HNB.out (bs := bs) (by rw [← HFR.out, ← HN.out, HTA.out]; simp; omega)
                  have he : (D.append d s bs).2 = { d.tick with fs := d.fs.set i { f0 with b := f0.b ++ bs.flatten } } := by
                    rw [hE, HTA.out]
                    simp only [if_true, ← HI.out]
                    unfold D.layAt
                    rw [modify_set _ _ _ HQ2.out]
                    have h0 := HF0.out
                    rw [List.getElem?_eq_getElem HQ2.out] at h0
                    simp only [Option.some.injEq] at h0
                    rw [h0]
                  refine ⟨by rw [hE]; rfl, HO.out.trans (HO3.out.mono fun j hj => .inl hj), ?_⟩
                  rw [he]
                  have := HAT3.out
                  rw [List.take_length] at this
                  have s1 := HO.out.size
                  have s2 := HO3.out.size
                  refine ⟨_, _, this.same (fun j hj => ?_) fun _ _ => rfl⟩
                  rcases hj with hj | hj
                  · exact .inl hj
                  · exact .inr ⟨by omega, hj.2⟩
end Go.Proofs.YtbcpcopapbgcdaaGreatDoor.M

/- Part: DiskRef12. -/
namespace Go.Proofs.YtbcpcopapbgcdaaGreatDoor.M
open Go.RowKit
open D (Fl Dk)

theorem remove_32 {d : Dk} {names : List ByteArray} (h : d.stopped = true) : D.remove d names = (32, d) := by unfold D.remove; rw [if_pos h]

theorem remove_30 {d : Dk} {names : List ByteArray} (h : d.stopped = false) (hn : D.eachOnce d.fs names = false) : D.remove d names = (30, d.tick) := by
  unfold D.remove
  rw [if_neg (by rw [h]; simp)]
  simp only [tick_fs]
  rw [if_pos hn]

theorem remove_0 {d : Dk} {names : List ByteArray} (h : d.stopped = false) (hn : D.eachOnce d.fs names = true) : D.remove d names = (0, { d.tick with fs := names.foldl (fun fs s => fs.eraseIdx (D.find fs s)) d.fs }) := by
  unfold D.remove
  rw [if_neg (by rw [h]; simp)]
  simp only [tick_fs]
  rw [if_neg (by rw [hn]; simp)]

/-- Only draws were made. -/
def Calm (w wr : World) : Prop := Only (fun _ => False) w wr ∧ wr.heap.size = w.heap.size

theorem Calm.drewN {w wr : World} {n : Nat} (h : Calm w wr) : Calm w (wr.drewN n) := ⟨⟨h.1.os, h.1.tape, h.1.output, h.1.size, h.1.block⟩, h.2⟩

/-- The state at the head of the loop that takes files out. -/
def RemAt (w1 : World) (X : Nat → Prop) (gd : Nat) (d : Dk) (names : List ByteArray) (k : Nat) (wr : World) : Prop :=
  k ≤ names.length ∧ Only X w1 wr ∧ Dsk wr (More X w1 wr) gd { d with fs := (names.take k).foldl (fun fs s => fs.eraseIdx (D.find fs s)) d.fs } ∧ ((names.take k).foldl (fun fs s => fs.eraseIdx (D.find fs s)) d.fs).length ≤ 4096

set_option maxRecDepth 20000 in
set_option maxHeartbeats 3200000 in
theorem RefRemove_any (d : Dk) (X : Nat → Prop) (gd : Nat) (names : List ByteArray) (F : Nat → Prop) (vn : Value) (w : World) (hd : DskIn w X gd d) (hf : Hid (Fine d)) (hv : RepSl w F names vn) (hF : ∀ k, F k → k < w.heap.size ∧ ¬ X k) :
    Calls Tryz.prog 80 #[.pointer (some ⟨gd, 0, none⟩), vn] w (CallPost w X gd (D.remove d names)) := by
  obtain ⟨na, nc, rfl, hnl⟩ := hv.slice
  have HX := Lib.hid hd.2
  have HD := Lib.hid hd.1
  have HV := Lib.hid hv
  have HF := Lib.hid hF
  clear hd hv hF
  cases hst : d.stopped with
  | true =>
    have HR : Hid (D.remove d names = (32, d)) := Lib.hid (remove_32 hst)
    have HT := Lib.hid (stopped_tick hst)
    have HST := Lib.hid hst
    clear hst
    go_enter Tryz.func80, Tryz.ntmps80
    go_wp2_with fail
    refine (RefStopped_any d X gd _ HD.out (Lib.hid hf.out.2.1)).mono ?_
    rintro e w1 ⟨rfl, ho, hd1, hs1⟩
    rw [HST.out]
    rw [HT.out] at hd1
    have HO := Lib.hid ho
    have HD1 := Lib.hid hd1
    clear ho hd1 hs1
    go_wp2_with fail
    go_ret
    exact ⟨by rw [HR.out]; rfl, HO.out, by rw [HR.out]; exact HD1.out.up⟩
  | false =>
    have HST := Lib.hid hst
    clear hst
    go_enter Tryz.func80, Tryz.ntmps80
    go_wp2_with fail
    refine (RefStopped_any d X gd _ HD.out (Lib.hid hf.out.2.1)).mono ?_
    rintro e w1 ⟨rfl, ho, hd1, hs1⟩
    rw [HST.out]
    have HO := Lib.hid ho
    have HD1 := Lib.hid hd1
    have HS1 := Lib.hid hs1
    have HX1 : Hid (∀ k, X k → k < w1.heap.size) := Lib.hid fun k hk => by rw [hs1]; exact HX.out k hk
    have hv1 : RepSl w1 (fun k => F k) names (.slice na names.length nc) := HV.out.same (fun _ h => h) fun k hk => ho.block k (HF.out k hk).1 (HF.out k hk).2
    have HV1 := Lib.hid hv1
    have HF1 : Hid (∀ k, F k → k < w1.heap.size ∧ ¬ X k) := Lib.hid fun k hk => ⟨by rw [hs1]; exact (HF.out k hk).1, (HF.out k hk).2⟩
    clear ho hd1 hs1 hv1
    go_wp2_with fail
    go_loopg [5, 6] names.length (fun g i _ wr => ∃ k : Nat, i = .int .i64 (k : Int) ∧ k + g = names.length ∧ Hid (Calm w1 wr) ∧ Hid (D.OnceTo d.fs names k))
    case atStart => exact ⟨0, rfl, by omega, Lib.hid ⟨Only.refl _ _, rfl⟩, Lib.hid fun i hi h => by omega⟩
    case round =>
      obtain ⟨k, rfl, hkg, HC, HK⟩ := hrel
      obtain ⟨go, hgo⟩ : ∃ go : Nat, go = gk := ⟨_, rfl⟩
      subst hgo
      have HDR : Hid (Dsk wr X gd d.tick) := Lib.hid (HD1.out.same (fun _ h => h) fun j hj => HC.out.1.block j (HX1.out j hj) fun h => h)
      by_cases hlt : k < names.length
      · have hkk : (k : Int) < (names.length : Int) := by omega
        have hvr : RepSl wr (fun k => F k) names (.slice na names.length nc) := HV1.out.same (fun _ h => h) fun j hj => HC.out.1.block j (HF1.out j hj).1 fun h => h
        have HVR := Lib.hid hvr
        obtain ⟨b, off, rfl, hFb, hc⟩ := hvr.elem k hlt
        have hbz : b < wr.heap.size := by rw [HC.out.2]; exact (HF1.out b hFb).1
        obtain ⟨s, hs⟩ : ∃ s, s = names[k] := ⟨_, rfl⟩
        rw [← hs] at hc
        have HSN := Lib.hid hs
        clear hs hvr
        go_wp2_with fail
        refine (RefFind_any d.tick X gd s _ HDR.out).mono ?_
        rintro e w' ⟨rfl, rfl⟩
        rw [tick_fs]
        cases hta : D.isThere d.fs s with
        | false =>
          have HE : Hid (D.remove d names = (30, d.tick)) := Lib.hid (remove_30 HST.out (by
            cases h : D.eachOnce d.fs names with
            | false => rfl
            | true =>
              have := (D.not_once d.fs names h k hlt hlt).1
              rw [← HSN.out, hta] at this
              cases this))
          rw [findR_neg hta]
          clear hta
          go_wp2_with fail
          go_ret
          exact ⟨by rw [HE.out]; rfl, HO.out.trans (HC.out.1.mono fun _ h => h.elim), by rw [HE.out]; exact HDR.out.up⟩
        | true =>
          obtain ⟨h1, h2⟩ := findR_pos hta
          rw [h1]
          have HTA := Lib.hid hta
          clear h1 h2 hta
          go_wp2_with fail
          obtain ⟨wo, hwo⟩ : ∃ wo : World, wo = wr := ⟨_, rfl⟩
          subst hwo
          go_loopg [6] k (fun g z wr => ∃ j : Nat, z = .int .i64 (j : Int) ∧ j + g = k ∧ Hid (Calm wo wr) ∧ Hid (∀ (m : Nat) (hm : m < j) (h : m < names.length), (names[m].toList == s.toList) = false))
          case atStart => exact ⟨0, rfl, by omega, Lib.hid ⟨Only.refl _ _, rfl⟩, Lib.hid fun m hm => by omega⟩
          case round =>
            obtain ⟨j, rfl, hjg, HC2, HJ⟩ := hrel
            by_cases hjk : j < k
            · have hjj : (j : Int) < (k : Int) := by omega
              have hjl : j < names.length := by omega
              have hvr2 : RepSl wr (fun k => F k) names (.slice (some ⟨b, off, none⟩) names.length nc) := HVR.out.same (fun _ h => h) fun m hm => HC2.out.1.block m (by rw [HC.out.2]; exact (HF1.out m hm).1) fun h => h
              obtain ⟨b', off', he, hFb', hcj⟩ := hvr2.elem j hjl
              cases he
              obtain ⟨b', off', he, -, hck⟩ := hvr2.elem k hlt
              cases he
              rw [← HSN.out] at hck
              have hbz2 : b < wr.heap.size := by rw [HC2.out.2]; exact hbz
              have hjl2 : (j : Int) < (names.length : Int) := by omega
              obtain ⟨t, ht⟩ : ∃ t, t = names[j] := ⟨_, rfl⟩
              rw [← ht] at hcj
              have HTN := Lib.hid ht
              clear ht hvr2 hc
              cases heq : (t.toList == s.toList) with
              | true =>
                have HE : Hid (D.remove d names = (30, d.tick)) := Lib.hid (remove_30 HST.out (by
                  cases h : D.eachOnce d.fs names with
                  | false => rfl
                  | true =>
                    have := (D.not_once d.fs names h k hlt hlt).2 j hjk
                    rw [← HSN.out, ← HTN.out, heq] at this
                    cases this))
                have heq1 : (t.toList == s.toList) = true := heq
                clear heq
                go_wp2_with fail
                go_quiet (fail)
                go_wp2_with fail
                go_ret
                exact ⟨by rw [HE.out]; rfl, (HO.out.trans (HC.out.1.mono fun _ h => h.elim)).trans (Only.mono (X := fun _ => False) ⟨HC2.out.1.os, HC2.out.1.tape, HC2.out.1.output, HC2.out.1.size, HC2.out.1.block⟩ fun _ h => h.elim), by
                  rw [HE.out]
                  exact (HDR.out.same (fun _ h => .inl h) fun m hm => HC2.out.1.block m (by rw [HC.out.2]; exact HX1.out m hm) fun h => h)⟩
              | false =>
                have HJ2 : Hid (∀ (m : Nat) (hm : m < j + 1) (h : m < names.length), (names[m].toList == s.toList) = false) := Lib.hid fun m hm h => by
                  rcases Nat.lt_or_ge m j with h1 | h1
                  · exact HJ.out m h1 h
                  · obtain rfl : m = j := by omega
                    rw [← HTN.out]; exact heq
                have heq1 : (t.toList == s.toList) = false := heq
                clear heq
                go_wp2_with fail
                go_quiet (fail)
                go_wp2_with fail
                go_roundg (gk - 1)
                case measure => omega
                case rel => exact ⟨j + 1, by go_num, by omega, Lib.hid HC2.out.drewN, HJ2⟩
            · have hjj : ¬ (j : Int) < (k : Int) := by omega
              obtain rfl : j = k := by omega
              have HN : Hid (D.OnceTo d.fs names (j + 1)) := Lib.hid fun i hi hij => by
                rcases Nat.lt_or_ge i j with h1 | h1
                · exact HK.out i hi h1
                · obtain rfl : i = j := by omega
                  exact ⟨by rw [← HSN.out]; exact HTA.out, fun m hm => by rw [← HSN.out]; exact HJ.out m hm (by omega)⟩
              have HCN : Hid (Calm w1 wr) := Lib.hid ⟨HC.out.1.trans (HC2.out.1.mono fun _ h => h.elim), HC2.out.2.trans HC.out.2⟩
              go_wp2_with fail
              go_roundg (go - 1)
              case measure => omega
              case rel => exact ⟨j + 1, by go_num, by omega, HCN, HN⟩
      · have hkk : ¬ (k : Int) < (names.length : Int) := by omega
        obtain rfl : k = names.length := by omega
        have HALL : Hid (D.eachOnce d.fs names = true) := Lib.hid (D.once_of d.fs names HK.out)
        obtain ⟨ws, hws⟩ : ∃ ws : World, ws = wr := ⟨_, rfl⟩
        subst hws
        have HR0 : Hid (RemAt ws X gd d.tick names 0 ws) := Lib.hid ⟨Nat.zero_le _, Only.refl _ _, HDR.out.up, by have := hf.out.1; simp only [List.take_zero, List.foldl_nil, tick_fs]; exact this⟩
        have HXS : Hid (∀ k, X k → k < ws.heap.size) := Lib.hid fun k hk => by rw [HC.out.2]; exact HX1.out k hk
        have HVS : Hid (RepSl ws (fun k => F k) names (.slice na names.length nc)) := Lib.hid (HV1.out.same (fun _ h => h) fun j hj => HC.out.1.block j (HF1.out j hj).1 fun h => h)
        have HFS : Hid (∀ k, F k → k < ws.heap.size ∧ ¬ X k) := Lib.hid fun k hk => ⟨by rw [HC.out.2]; exact (HF1.out k hk).1, (HF1.out k hk).2⟩
        go_wp2_with fail
        go_loopw [7] (fun i wr => ∃ k : Nat, i = .int .i64 (k : Int) ∧ RemAt ws X gd d.tick names k wr) (fun i _ => names.length - (intOf i).toNat)
        case atStart => exact ⟨0, rfl, HR0.out⟩
        case round =>
          obtain ⟨k, rfl, hat⟩ := hrel
          obtain ⟨hk2, ho, hdk, h4⟩ := hat
          have HOW := Lib.hid ho
          have HDK := Lib.hid hdk
          have HL4 := Lib.hid h4
          clear ho hdk h4
          by_cases hlt2 : k < names.length
          · have hkk2 : (k : Int) < (names.length : Int) := by omega
            have hv2 : RepSl wr (fun k => F k) names (.slice na names.length nc) := HVS.out.same (fun _ h => h) fun j hj => HOW.out.block j (HFS.out j hj).1 (HFS.out j hj).2
            obtain ⟨b, off, rfl, hFb, hc⟩ := hv2.elem k hlt2
            have hbz : b < wr.heap.size := Nat.lt_of_lt_of_le (HFS.out b hFb).1 HOW.out.size
            obtain ⟨s, hs⟩ : ∃ s, s = names[k] := ⟨_, rfl⟩
            rw [← hs] at hc
            have hth := D.isThere_erases HALL.out k hlt2
            rw [← hs] at hth
            obtain ⟨fs, hfs⟩ : ∃ fs, fs = (names.take k).foldl (fun fs s => fs.eraseIdx (D.find fs s)) d.tick.fs := ⟨_, rfl⟩
            have hdk := HDK.out
            have hl4 := HL4.out
            rw [← hfs] at hdk hl4
            rw [← tick_fs d, ← hfs] at hth
            obtain ⟨q1, q2⟩ := findR_pos hth
            obtain ⟨i, hi⟩ : ∃ i, i = D.find fs s := ⟨_, rfl⟩
            rw [← hi] at q1 q2
            obtain ⟨vl, fv, hat⟩ := hdk
            have hil : i < fv.length := by have := hat.len.2; simp only at this; omega
            have HATR := Lib.hid hat
            have Q1 := Lib.hid q1
            have HIL := Lib.hid hil
            have HLF : Hid (fv.length ≤ 4096) := Lib.hid (by have := hat.len.2; simp only at this; omega)
            have HNF : Hid ((names.take (k + 1)).foldl (fun fs s => fs.eraseIdx (D.find fs s)) d.tick.fs = fs.eraseIdx i) := Lib.hid (by
              rw [List.take_succ_eq_append_getElem hlt2, List.foldl_append, ← hfs, ← hs]
              simp only [List.foldl_cons, List.foldl_nil]
              rw [← hi])
            have HQ2 := Lib.hid q2
            have HXW : Hid (∀ j, More X ws wr j → j < wr.heap.size) := Lib.hid fun j hj => by
              rcases hj with hj | hj
              · exact Nat.lt_of_lt_of_le (HXS.out j hj) HOW.out.size
              · exact hj.2
            clear hfs hat hth q1 q2 hi hil hs hv2 hl4
            go_wp2_with fail
            refine (RefFind_any { d.tick with fs := fs } (More X ws wr) gd s _ ⟨vl, fv, HATR.out⟩).mono ?_
            rintro e w' ⟨rfl, rfl⟩
            rw [show ({ d.tick with fs := fs } : Dk).fs = fs from rfl, Q1.out]
            go_wp2_with fail
            refine (RefTake_any _ (More X ws wr) gd vl fv i _ HATR.out HXW.out HIL.out HLF).mono ?_
            rintro e w2 ⟨vl2, rfl, ho2, hat2, -, -⟩
            have HN : Hid (RemAt ws X gd d.tick names (k + 1) w2) := Lib.hid (by
              have s1 := HOW.out.size
              have s2 := ho2.size
              refine ⟨by omega, HOW.out.trans (ho2.mono fun j hj => hj ▸ HATR.out.own), ?_, ?_⟩
              · rw [HNF.out]
                refine ⟨vl2, _, hat2.same (fun j hj => ?_) fun _ _ => rfl⟩
                exact More.trans s1 s2 hj
              · rw [HNF.out, List.length_eraseIdx]
                have := HLF.out
                have h5 := HATR.out.len.2
                simp only at h5
                split <;> omega)
            clear ho2 hat2
            go_wp2_with fail
            go_roundw
            case rel => exact ⟨k + 1, by go_num, HN.out⟩
            case measure => simp [intOf]; omega
          · have hkk2 : ¬ (k : Int) < (names.length : Int) := by omega
            obtain rfl : k = names.length := by omega
            have HE : Hid (D.remove d names = _) := Lib.hid (remove_0 HST.out HALL.out)
            go_wp2_with fail
            go_ret
            have s1 := HO.out.size
            have s2 := HC.out.1.size
            have s3 := HOW.out.size
            refine ⟨by rw [HE.out]; rfl, (HO.out.trans (HC.out.1.mono fun _ h => h.elim)).trans (HOW.out.mono fun k hk => .inl hk), ?_⟩
            rw [HE.out]
            have := HDK.out
            simp only [List.take_length, tick_fs] at this
            refine this.same (fun j hj => ?_) fun _ _ => rfl
            rcases hj with hj | hj
            · exact .inl hj
            · exact .inr ⟨by omega, hj.2⟩
end Go.Proofs.YtbcpcopapbgcdaaGreatDoor.M
