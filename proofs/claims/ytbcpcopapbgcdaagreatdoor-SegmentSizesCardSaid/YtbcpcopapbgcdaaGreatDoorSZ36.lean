/- A file removed: the disk lies where it lay. Package segment: a file removed. -/
import Derived.Test.YtbcpcopapbgcdaaGreatDoorSZ23
import Derived.Test.YtbcpcopapbgcdaaGreatDoorSZ35
/- Part: ProjR. -/
namespace Go.Proofs.YtbcpcopapbgcdaaGreatDoor.M
open Go.RowKit Go.Maps
open D (Fl Dk)

/-- What a call leaves that makes no memory of the disk's. -/
def PPostX (w : World) (X : Nat → Prop) (gd : Nat) (r : Int × Dk) (e : Ending) (w' : World) : Prop :=
  e = .returned (.int .i64 r.1) ∧ Only X w w' ∧ PDsk w' X gd r.2

theorem PPostX.of {w w1 w' : World} {X : Nat → Prop} {gd : Nat} {n : Int} {d : Dk} {e : Ending} (h1 : Only X w w1) (he : e = .returned (.int .i64 n)) (h2 : Only X w1 w') (h3 : PDsk w' X gd d) : PPostX w X gd (n, d) e w' := ⟨he, h1.then h2, h3⟩

theorem PPostX.wrap {w W w' : World} {X : Nat → Prop} {gd : Nat} {r : Int × Dk} {e : Ending} (h1 : Only X w W) (h : PPostX W X gd r e w') : PPostX w X gd r e w' := ⟨h.1, h1.then h.2.1, h.2.2⟩

theorem PPostX.after {w w1 w' : World} {X : Nat → Prop} {gd : Nat} {r : Int × Dk} {e : Ending} (h1 : Only X w w1) (_ : w1.heap.size = w.heap.size) (h : PPostX w1 X gd r e w') : PPostX w X gd r e w' := h.wrap h1

set_option maxRecDepth 20000 in
set_option maxHeartbeats 1600000 in
/-- One of the calls that change a disk: the closure's contract is asked of the disk behind the count. -/
theorem WorkX_any (n : Nat) (caps : Array Value) (he : ∀ (args : Array Value) (w : World), (callFunc n args).run Tryz.prog w = .ok (.enter n args) w) (d : Dk) (X : Nat → Prop) (gd : Nat) (r : Int × Dk) (w : World) (hd : PDsk w X gd d) (hc : d.calls ≤ 9223372036854775807)
    (hdo : ∀ w1, Only X w w1 → w1.heap.size = w.heap.size → PDsk w1 X gd d.tick → d.stopped = false → Calls Tryz.prog n caps w1 (PPostX w1 X gd r)) :
    Calls Tryz.prog 91 #[.pointer (some ⟨gd, 0, none⟩), .func (.func n) #[] caps] w (PPostX w X gd (if d.stopped then (32, d) else r)) := by
  have HD := Lib.hid hd
  have HDO := Lib.hid hdo
  obtain ⟨gm, M, E, hat⟩ := hd
  obtain ⟨⟨-, c1, -⟩, ⟨-, f1, -⟩, hz⟩ := hat.cells
  have HAT := Lib.hid hat
  clear hat hdo
  cases hst : d.stopped with
  | true =>
    rw [rest_stopped hst] at c1
    have HST := Lib.hid hst
    clear hst
    go_enter Tryz.func91, Tryz.ntmps91
    go_wp2_with fail
    go_ret
    exact ⟨rfl, Only.refl _ _, HD.out⟩
  | false =>
    rcases rest_not hst with ⟨h1, h2⟩ | ⟨h1, h2, h3, h4⟩
    · rw [h1] at c1
      have HC : Hid (Calls Tryz.prog n caps w (PPostX w X gd r)) := Lib.hid (HDO.out w (Only.refl _ _) rfl (by rw [h2]; exact HD.out) hst)
      clear h1 h2 hst
      go_enter Tryz.func91, Tryz.ntmps91
      go_wp2_with fail
      refine HC.out.mono ?_
      rintro e w' ⟨rfl, ho, hd2⟩
      have HO := Lib.hid ho
      have HD2 := Lib.hid hd2
      clear ho hd2
      go_wp2_with fail
      go_ret
      exact ⟨rfl, HO.out, HD2.out⟩
    · obtain ⟨x, hx⟩ : ∃ x, x = restOf d := ⟨_, rfl⟩
      rw [← hx] at c1 h1 h2 h3 h4
      have q1 : x ≤ 9223372036854775807 := by omega
      have q2 : (x == 0) = false := by simp; omega
      have q3 : (x == -1) = false := by simp; omega
      have HC : Hid (∀ w1, w1 = w.setCell ⟨gd, 1, none⟩ (.int .i64 (x - 1)) → Only X w w1 ∧ w1.heap.size = w.heap.size ∧ Calls Tryz.prog n caps w1 (PPostX w1 X gd r)) := Lib.hid fun w1 hw => by
        obtain ⟨a1, a2, a3⟩ := HD.out.ticked h4.symm hw
        exact ⟨a1, a2, HDO.out w1 a1 a2 a3 hst⟩
      have q4 : 0 < x := h1
      clear h2 h3 h4 hst hx h1
      go_enter Tryz.func91, Tryz.ntmps91
      go_wp2_with fail
      obtain ⟨a1, a2, a3⟩ := HC.out _ rfl
      refine a3.mono ?_
      rintro e w' hp
      have HP := Lib.hid (hp.after a1 a2)
      obtain ⟨rfl, -, -⟩ := hp
      clear a1 a2 a3
      go_wp2_with fail
      go_ret
      exact HP.out

set_option maxRecDepth 20000 in
set_option maxHeartbeats 3200000 in
theorem RemoveCX_any (d : Dk) (X : Nat → Prop) (gd bd bn : Nat) (names : List ByteArray) (F : Nat → Prop) (vn : Value) (w : World) (hd : PDskIn w X gd d) (hg : Good d) (hs : ∀ s ∈ names, s.size ≤ 9223372036854775807)
    (hv : RepSl w F names vn) (hF : ∀ k, F k → k < w.heap.size ∧ ¬ X k)
    (c1 : w.cell? ⟨bd, 0, none⟩ = some (.pointer (some ⟨gd, 0, none⟩))) (c2 : w.cell? ⟨bn, 0, none⟩ = some vn) (hbx : (bd < w.heap.size ∧ ¬ X bd) ∧ (bn < w.heap.size ∧ ¬ X bn)) :
    Calls Tryz.prog 140 #[.pointer (some ⟨bd, 0, none⟩), .pointer (some ⟨bn, 0, none⟩)] w (PPostX w X gd (removeB d names)) := by
  obtain ⟨na, nc, rfl, hnl⟩ := hv.slice
  have HV := Lib.hid hv
  have HF := Lib.hid hF
  have HX := Lib.hid hd.2
  have HD := Lib.hid hd.1
  have HG := Lib.hid hg
  have HS := Lib.hid hs
  have HBX := Lib.hid hbx
  have HC1 := Lib.hid c1
  have HC2 := Lib.hid c2
  obtain ⟨⟨b1, -⟩, b2, -⟩ := hbx
  clear hv hF hd hg hs
  go_enter Tryz.func140, Tryz.ntmps140
  go_wp2_with fail
  refine (Has_any d X gd names F _ w HD.out HV.out (fun k hk => (HF.out k hk).1) HS.out).mono ?_
  rintro e w1 ⟨rfl, rfl⟩
  cases hall : names.all (D.isThere d.fs) with
  | false =>
    have HE : Hid (removeB d names = (30, d)) := Lib.hid (by unfold removeB; rw [once_is, hall]; rfl)
    clear hall
    go_wp2_with fail
    go_ret
    rw [HE.out]
    exact PPostX.of (Only.refl _ _) rfl (Only.refl _ _) HD.out
  | true =>
    have HALL := Lib.hid hall
    clear hall
    go_wp2_with fail
    refine (Twice_any names F _ w HV.out (fun k hk => (HF.out k hk).1) HS.out).mono ?_
    rintro e w1 ⟨rfl, hb1⟩
    have HO1 : Hid (Only X w w1) := Lib.hid ((Only.of_below hb1).mono fun _ h => h)
    have HD1 : Hid (PDsk w1 X gd d) := Lib.hid (HD.out.same (fun _ h => h) fun k hk => hb1.block k (HX.out k hk))
    have c1 : w1.cell? ⟨bd, 0, none⟩ = some (.pointer (some ⟨gd, 0, none⟩)) := (cell_only HO1.out HBX.out.1.1 HBX.out.1.2 0).trans HC1.out
    have c2 : w1.cell? ⟨bn, 0, none⟩ = some (.slice na names.length nc) := (cell_only HO1.out HBX.out.2.1 HBX.out.2.2 0).trans HC2.out
    have b1 : bd < w1.heap.size := Nat.lt_of_lt_of_le HBX.out.1.1 HO1.out.size
    have b2 : bn < w1.heap.size := Nat.lt_of_lt_of_le HBX.out.2.1 HO1.out.size
    clear hb1
    cases hdup : dupB names with
    | true =>
      have HE : Hid (removeB d names = (30, d)) := Lib.hid (by unfold removeB; rw [once_is, hdup]; simp)
      clear hdup
      go_wp2_with fail
      go_ret
      rw [HE.out]
      exact PPostX.of HO1.out rfl (Only.refl _ _) HD1.out
    | false =>
      have HONCE : Hid (D.eachOnce d.fs names = true) := Lib.hid (by rw [once_is, HALL.out, hdup]; rfl)
      have HE : Hid (removeB d names = (0, { d with fs := removeF d.fs names })) := Lib.hid (by unfold removeB; rw [HONCE.out]; rfl)
      obtain ⟨gm, M, E, hat⟩ := HD1.out
      have H0 : Hid (PRemAt w1 X gd gm d E names 0 w1) := Lib.hid ⟨Only.refl _ _, rfl, M, d.free, rfl, hat⟩
      clear hdup hat
      go_wp2_with fail
      go_loopw [4, 15] (fun _ i wr => ∃ k : Nat, k ≤ names.length ∧ i = .int .i64 (k : Int) ∧ PRemAt w1 X gd gm d E names k wr) (fun _ i _ => names.length - (intOf i).toNat)
      case atStart => exact ⟨0, Nat.zero_le _, rfl, H0.out⟩
      case round =>
        obtain ⟨k, hk, rfl, ho, hz, M2, fr, hfr, hat⟩ := hrel
        have HOw : Hid (Only X w wr) := Lib.hid (HO1.out.then ho)
        by_cases hlt : k < names.length
        · have hkk : (k : Int) < (names.length : Int) := by omega
          have hv2 : RepSl wr F names (.slice na names.length nc) := HV.out.same (fun _ h => h) fun j hj => HOw.out.block j (HF.out j hj).1 (HF.out j hj).2
          obtain ⟨b, off, rfl, hFb, hc⟩ := hv2.elem k hlt
          have hbz : b < wr.heap.size := Nat.lt_of_lt_of_le (HF.out b hFb).1 HOw.out.size
          obtain ⟨s, hse⟩ : ∃ s, s = names[k] := ⟨_, rfl⟩
          rw [← hse] at hc
          have hmem : s ∈ names := by rw [hse]; exact List.getElem_mem hlt
          have HSS := Lib.hid (HS.out s hmem)
          have hr2 := removeF_rising (names.take k) d.fs HG.out.2.1
          have hsum : 0 ≤ fr ∧ fr + (D.used (removeF d.fs (names.take k)) : Int) ≤ 9223372036854775807 := by
            have h1 := removeF_used (names.take k) d.fs HG.out.2.1
            have h2 := HG.out.1.2.2.1
            have h3 := HG.out.1.2.2.2.2
            rw [hfr]
            unfold D.Dk.free at h2 ⊢
            simp only
            omega
          have HSUM := Lib.hid hsum
          have HR2 := Lib.hid hr2
          have HAT := Lib.hid hat
          have HNEXT : Hid (∀ w2 M', PDAt w2 X gd { d with fs := (removeF d.fs (names.take k)).eraseIdx (D.find (removeF d.fs (names.take k)) s) } (fr + ((bytesOf (removeF d.fs (names.take k)) s).length : Int)) gm M' E → Only X wr w2 → w2.heap.size = wr.heap.size → PRemAt w1 X gd gm d E names (k + 1) w2) := Lib.hid fun w2 M' h1 h2 h3 => by
            have e : removeF d.fs (names.take (k + 1)) = (removeF d.fs (names.take k)).eraseIdx (D.find (removeF d.fs (names.take k)) s) := by
              rw [List.take_succ_eq_append_getElem hlt, ← hse]
              unfold removeF
              rw [List.foldl_append]
              rfl
            refine ⟨ho.then h2, by omega, M', fr + ((bytesOf (removeF d.fs (names.take k)) s).length : Int), ?_, by rw [e]; exact h1⟩
            have h4 := bytesOf_erase hr2 s
            rw [e, hfr]
            unfold D.Dk.free
            simp only
            omega
          have c1 : wr.cell? ⟨bd, 0, none⟩ = some (.pointer (some ⟨gd, 0, none⟩)) := (cell_only HOw.out HBX.out.1.1 HBX.out.1.2 0).trans HC1.out
          have b1 : bd < wr.heap.size := Nat.lt_of_lt_of_le HBX.out.1.1 HOw.out.size
          clear hat hr2 hsum hmem hse hv2 ho hz hfr
          go_wp2_with fail
          refine (Drop_any _ X gd gm fr M2 E s wr HAT.out HR2.out HSS.out HSUM.out.1 HSUM.out.2).mono ?_
          rintro e w2 ⟨rfl, h2, h3, -, M', h1⟩
          have HN := Lib.hid (HNEXT.out w2 M' h1 h2 h3)
          clear h1 h2 h3
          go_wp2_with fail
          go_roundw
          case rel => exact ⟨k + 1, by omega, by go_num, HN.out⟩
          case measure => simp [intOf]; omega
        · have hkk : ¬ (k : Int) < (names.length : Int) := by omega
          obtain rfl : k = names.length := by omega
          have HP : Hid (PPostX w X gd (removeB d names) (.returned (.int .i64 0)) wr) := Lib.hid (by
            rw [HE.out]
            rw [List.take_length] at hat hfr
            refine PPostX.of HO1.out rfl ho ⟨gm, M2, E, ?_⟩
            rw [← hfr]
            exact hat)
          clear hat ho hz hfr
          go_wp2_with fail
          go_ret
          exact HP.out

set_option maxRecDepth 20000 in
set_option maxHeartbeats 1600000 in
theorem PRemoveX_any (d : Dk) (X : Nat → Prop) (gd : Nat) (names : List ByteArray) (F : Nat → Prop) (vn : Value) (w : World) (hd : PDskIn w X gd d) (hg : Good d) (hs : ∀ s ∈ names, s.size ≤ 9223372036854775807)
    (hv : RepSl w F names vn) (hF : ∀ k, F k → k < w.heap.size ∧ ¬ X k) :
    Calls Tryz.prog 88 #[.pointer (some ⟨gd, 0, none⟩), vn] w (PPostX w X gd (D.remove d names)) := by
  obtain ⟨na, nc, rfl, hnl⟩ := hv.slice
  have HV := Lib.hid hv
  have HF := Lib.hid hF
  have HD := Lib.hid hd
  have HG := Lib.hid hg
  have HS := Lib.hid hs
  clear hv hF hd hg hs
  obtain ⟨W, hW⟩ : ∃ W, W = (w.alloc (.cells #[.pointer (some ⟨gd, 0, none⟩)] 24)).alloc (.cells #[.slice na names.length nc] 43) := ⟨_, rfl⟩
  have HO : Hid (Only X w W) := Lib.hid (by rw [hW]; exact ((Only.refl X w).alloc _).alloc _)
  have HB : Hid (Below w.heap.size w W) := Lib.hid (by rw [hW]; exact ((Below.refl _ w).alloc (by omega) _).alloc (by simp) _)
  have HSZ : Hid (W.heap.size = w.heap.size + 2) := Lib.hid (by rw [hW]; simp)
  have HC : Hid (W.cell? ⟨w.heap.size, 0, none⟩ = some (.pointer (some ⟨gd, 0, none⟩)) ∧ W.cell? ⟨w.heap.size + 1, 0, none⟩ = some (.slice na names.length nc)) := Lib.hid (by
    rw [hW]
    exact ⟨cell_past _ (cell_new1 _ _ _ rfl) (by simp), cell_new1 _ _ _ (by simp)⟩)
  have hwk := WorkX_any 140 #[.pointer (some ⟨w.heap.size, 0, none⟩), .pointer (some ⟨w.heap.size + 1, 0, none⟩)] en44 d X gd (removeB d.tick names) W
    (HD.out.1.same (fun _ h => h) fun k hk => HB.out.block k (HD.out.2 k hk)) HG.out.1.2.1 (fun w1 ho hz hd1 hst => by
      have hnx : ∀ k, w.heap.size ≤ k → ¬ X k := fun k hk hx => by have := HD.out.2 k hx; omega
      have hsz := HSZ.out
      exact RemoveCX_any d.tick X gd _ _ names F _ w1 ⟨hd1, fun k hk => by have := HD.out.2 k hk; omega⟩ HG.out.tick HS.out
        (HV.out.same (fun _ h => h) fun k hk => (ho.block k (by have := (HF.out k hk).1; omega) (HF.out k hk).2).trans (HB.out.block k (HF.out k hk).1)) (fun k hk => ⟨by have := (HF.out k hk).1; omega, (HF.out k hk).2⟩)
        ((cell_only ho (by omega) (hnx _ (by omega)) 0).trans HC.out.1) ((cell_only ho (by omega) (hnx _ (by omega)) 0).trans HC.out.2)
        ⟨⟨by omega, hnx _ (by omega)⟩, by omega, hnx _ (by omega)⟩)
  rw [← remove_eq] at hwk
  have HWK := Lib.hid hwk
  have HWE := Lib.hid hW
  clear hwk hW
  go_enter Tryz.func88, Tryz.ntmps88
  go_wp2_with fail
  rw [← HWE.out]
  refine HWK.out.mono ?_
  intro e w' hp
  have HP := Lib.hid (hp.wrap HO.out)
  obtain ⟨rfl, -, -⟩ := hp
  go_wp2_with fail
  go_ret
  exact HP.out
end Go.Proofs.YtbcpcopapbgcdaaGreatDoor.M

/- Part: SegRem. -/
namespace Go.Proofs.YtbcpcopapbgcdaaGreatDoor.M
open Go.RowKit Go.Maps
open D (Fl Dk)

theorem DRemoveX {w : World} {X : Nat → Prop} {gd : Nat} {d : Dk} {wr : World} (h : DS w X gd d wr) (names : List ByteArray) (F : Nat → Prop) (vn : Value) (hs : ∀ s ∈ names, s.size ≤ 9223372036854775807) (hv : RepSl wr F names vn) (hF : ∀ k, F k → k < wr.heap.size ∧ ¬ X k) :
    Calls Tryz.prog 88 #[.pointer (some ⟨gd, 0, none⟩), vn] wr fun e w' => e = .returned (.int .i64 (D.remove d names).1) ∧ Only X wr w' ∧ DS w X gd (D.remove d names).2 w' :=
  (PRemoveX_any d X gd names F vn wr h.dsk h.well.1 hs hv hF).mono fun _ w' ⟨h1, h2, h3⟩ => ⟨h1, h2, ⟨⟨h2.os.trans h.below.os, h2.tape.trans h.below.tape, h2.output.trans h.below.output, Nat.le_trans h.below.size h2.size, fun k hk => by
    rw [h2.block k (Nat.lt_of_lt_of_le hk h.below.size) fun hx => by have := h.own k hx; omega]
    exact h.below.block k hk⟩, h.own, ⟨h3, fun k hk => Nat.lt_of_lt_of_le (h.lt k hk) h2.size⟩, (remove_well h.well names).1⟩⟩

/-- Behind a call on the disk that makes it no memory. -/
theorem LS.diskX {K : Nat → Obj → Prop} {w wr w' : World} {X Xd : Nat → Prop} {g gd : Nat} {least : Int} {h : Hd} {d d' : Dk} (l : LS K w X Xd g gd least h d wr) (ho : Only Xd wr w') (hd : DS w Xd gd d' w') : LS K w X Xd g gd least h d' w' :=
  ⟨hd, l.lg.only ho l.dis, l.own, l.dis, fun k o hk => by
    obtain ⟨k1, k2, k3⟩ := l.kp k o hk
    exact ⟨(ho.block k (lt_of_heap k1) k3).trans k1, k2, k3⟩⟩

theorem LS.setFiles {K : Nat → Obj → Prop} {w wr w1 w' : World} {X Xd : Nat → Prop} {g gd : Nat} {least : Int} {h : Hd} {d : Dk} (l : LS K w X Xd g gd least h d wr) {vr vf u : Value} {rv : List (Rw × Value)} {fs : List Fi} (la : LgAt wr X g gd least h vr vf rv)
    (ho1 : Only (fun k => vf.ownBlock = some k) wr w1) (hr : w1.ownsRow 0 114 5 u fs.length (fiCells fs)) (hu : u.ownBlock = vf.ownBlock) (ho2 : Only (fun k => k = g) w1 w')
    (hbox : w'.heap[g]? = some (.cells #[.int .i64 h.mi, .int .i64 h.mt, vr, u, .int .i64 h.synced, .pointer (some ⟨gd, 0, none⟩), .int .i64 least] 104)) : LS K w X Xd g gd least { h with files := fs } d w' := by
  have lz := l.lg.2
  have oX : Only X wr w' := (ho1.mono fun k hk => (la.ff k hk).1).then (ho2.mono fun k hk => by rw [hk]; exact la.fg)
  have bl : ∀ q, q < wr.heap.size → q ≠ g → vf.ownBlock ≠ some q → w'.heap[q]? = wr.heap[q]? := fun q hq h1 h2 => (ho2.block q (Nat.lt_of_lt_of_le hq ho1.size) h1).trans (ho1.block q hq h2)
  refine l.self oX (fun q hq => .inl hq) ⟨⟨vr, u, rv, hbox, la.rows, ownsRow_same la.rrow fun q hq => bl q (lz q (la.fr q hq).1) (la.fr q hq).2.1 (la.fr q hq).2.2,
    ownsRow_same hr fun q hq => ho2.block q (Nat.lt_of_lt_of_le (lz q (la.ff q (hu ▸ hq)).1) ho1.size) (la.ff q (hu ▸ hq)).2, fun p hp => ?_, la.fg, fun k hk => ⟨(la.fr k hk).1, (la.fr k hk).2.1, by rw [hu]; exact (la.fr k hk).2.2⟩, fun k hk => la.ff k (hu ▸ hk)⟩, fun q hq => Nat.lt_of_lt_of_le (lz q hq) oX.size⟩
  obtain ⟨B, b1, b2⟩ := la.bod p hp
  exact ⟨B, b1.same (fun _ h => h) fun q hq => bl q (lz q (b2 q hq).1) (b2 q hq).2.1 (b2 q hq).2.2.2, fun q hq => ⟨(b2 q hq).1, (b2 q hq).2.1, (b2 q hq).2.2.1, by rw [hu]; exact (b2 q hq).2.2.2⟩⟩

/-- The files' row stays in its block. -/
def SameFB (g : Nat) (w w' : World) : Prop := ∀ b n c, w.cell? ⟨g, 3, none⟩ = some (.slice (some ⟨b, 0, none⟩) n c) → ∃ n' c', w'.cell? ⟨g, 3, none⟩ = some (.slice (some ⟨b, 0, none⟩) n' c')

theorem ownsRow_block {w : World} {base t s n b : Nat} {v : Value} {xs : List Value} (h : w.ownsRow base t s v n xs) (hb : v.ownBlock = some b) : ∃ c, v = .slice (some ⟨b, 0, none⟩) n c := by
  rcases h.2 with ⟨h1, -⟩ | ⟨g, cap, cur, hv, -⟩
  · rw [h1] at hb; cases hb
  · rw [hv] at hb
    cases hb
    exact ⟨cap, hv⟩

/-- What removing a file leaves. -/
def removedE (h : Hd) (d : Dk) (i : Nat) (f : Fi) : Int × Hd × Dk :=
  ((D.remove d [sgName f.first]).1, if (D.remove d [sgName f.first]).1 = 0 then { h with files := h.files.eraseIdx i } else h, (D.remove d [sgName f.first]).2)

set_option maxRecDepth 20000 in
set_option maxHeartbeats 3200000 in
theorem remove_any (K : Nat → Obj → Prop) (w wa : World) (X Xd : Nat → Prop) (g gd : Nat) (least : Int) (h : Hd) (d : Dk) (l : LS K w X Xd g gd least h d wa) (i m : Nat) (f : Fi) (hn : h.files.length = i + 1 + m) (hf : h.files[i]? = some f) (hl : h.files.length ≤ 1000000) (hb : 0 ≤ f.first ∧ f.first < 10000000000) (hP : Hid (Pow10 w)) :
    Calls Tryz.prog 64 #[.pointer (some ⟨g, 0, none⟩), .int .i64 (i : Int)] wa fun e w' => e = .returned (.int .i64 (removedE h d i f).1) ∧ LS K w X Xd g gd least (removedE h d i f).2.1 (removedE h d i f).2.2 w' ∧ Only (fun k => X k ∨ Xd k) wa w' ∧ SameFB g wa w' := by
  have HL := Lib.hid l
  obtain ⟨⟨vr, vf, rv, la⟩, lz⟩ := l.lg
  obtain ⟨c0, c1, c2, c3, c4, c5, c6, cz⟩ := seven_cells la.box
  have hil : i < h.files.length := by omega
  obtain ⟨ga, fc, hvf, hgz, hlc, hcm, hcs, -⟩ := row5_elem (f := fiV) (fun _ => rfl) la.frow i hil
  have hfi : h.files[i] = f := by rw [List.getElem?_eq_getElem hil] at hf; exact Option.some.inj hf
  have s0 := hcs 0 (by omega)
  rw [hfi] at s0
  simp only [fiV, List.getElem?_cons_zero, Nat.add_zero] at s0
  have hX : ∀ k, X k → ¬ Xd k := l.dis
  have hgX := la.fg
  have hga := la.ff ga (by rw [hvf]; rfl)
  have keep : ∀ {q o : Nat} {v : Value}, X q → wa.cell? ⟨q, o, none⟩ = some v → ∀ w', Only Xd wa w' → w'.cell? ⟨q, o, none⟩ = some v := fun {q o v} hq hv w' ho => (World.cell?_of_block (a := ⟨q, o, none⟩) (ho.block q (lz q hq) (hX q hq))).trans hv
  have HLA := Lib.hid la
  have r0 := keep hgX c5
  have r1 := keep hgX c3
  have r2 := keep hga.1 s0
  have hS : Only Xd wa wa.drew := (Only.refl _ _).drawn
  have HDR := Lib.hid ((l.next (Below.refl _ wa).drew))
  have HLZ := Lib.hid lz
  have HX := Lib.hid hX
  obtain ⟨nf, hnf⟩ : ∃ nf, nf = h.files.length := ⟨_, rfl⟩
  rw [hvf, ← hnf] at r1
  have q1 : (i : Int) < (nf : Int) := by omega
  have HNF := Lib.hid hnf
  have HVF := Lib.hid hvf
  have HN := Lib.hid hn
  have HBD := Lib.hid hb
  have HHL := Lib.hid hl
  obtain ⟨ff, hff⟩ : ∃ ff, ff = f.first := ⟨_, rfl⟩
  rw [← hff] at r2
  have HFF := Lib.hid hff
  clear l la lz c0 c1 c2 c3 c4 c5 c6 hil hlc hcm hcs hfi s0 hX hgX hga keep hnf hvf hn hf hl hff hb
  go_enter Tryz.func64, Tryz.ntmps64
  go_wp2_with fail
  refine wp_region_held (S := fun w' => Only Xd wa w') (by kernel_rfl) ?_
  refine H_take (i := 0) (v := ?_) rfl (by as_aux_lemma => kernel_rfl) (by as_aux_lemma => kernel_rfl) (by as_aux_lemma => kernel_rfl) (fun _ _ _ h => h) (by rfl) hS ?_ ?_
  rotate_left
  · intro w' hw'; go_simp; with_reducible rfl
  go_simp
  refine H_take (i := 1) (v := ?_) rfl (by as_aux_lemma => kernel_rfl) (by as_aux_lemma => kernel_rfl) (by as_aux_lemma => kernel_rfl) (fun _ _ _ h => h) (by rfl) hS ?_ ?_
  rotate_left
  · intro w' hw'; go_simp; with_reducible rfl
  go_simp
  refine H_take (i := 2) (v := ?_) rfl (by as_aux_lemma => kernel_rfl) (by as_aux_lemma => kernel_rfl) (by as_aux_lemma => kernel_rfl) (fun _ _ _ h => h) (by rfl) hS ?_ ?_
  rotate_left
  · intro w' hw'; go_simp; with_reducible rfl
  go_simp
  refine H_take (i := 3) (v := ?_) rfl (by as_aux_lemma => kernel_rfl) (by as_aux_lemma => kernel_rfl) (by as_aux_lemma => kernel_rfl) (fun _ _ _ h => h) (by rfl) hS ?_ ?_
  rotate_left
  · intro w' hw'; go_simp; with_reducible rfl
  go_simp
  refine H_take (i := 4) (v := ?_) rfl (by as_aux_lemma => kernel_rfl) (by as_aux_lemma => kernel_rfl) (by as_aux_lemma => kernel_rfl) (fun _ _ _ h => h) (by rfl) hS ?_ ?_
  rotate_left
  · intro w' hw'; go_simp; with_reducible rfl
  go_simp
  refine H_take (i := 5) (v := ?_) rfl (by as_aux_lemma => kernel_rfl) (by as_aux_lemma => kernel_rfl) (by as_aux_lemma => kernel_rfl) (fun _ _ _ h => h) (by rfl) hS ?_ ?_
  rotate_left
  · intro w' hw'; go_simp; with_reducible rfl
  go_simp
  refine H_take (i := 6) (v := ?_) rfl (by as_aux_lemma => kernel_rfl) (by as_aux_lemma => kernel_rfl) (by as_aux_lemma => kernel_rfl) (fun _ _ _ h => h) (by rfl) hS ?_ ?_
  rotate_left
  · intro w' hw'; go_simp; with_reducible rfl
  go_simp
  refine H_take (i := 7) (v := ?_) rfl (by as_aux_lemma => kernel_rfl) (by as_aux_lemma => kernel_rfl) (by as_aux_lemma => kernel_rfl) (fun _ _ _ h => h) (by rfl) hS ?_ ?_
  rotate_left
  · intro w' hw'; go_simp; with_reducible rfl
  go_simp
  refine H_take (i := 8) (v := ?_) rfl (by as_aux_lemma => kernel_rfl) (by as_aux_lemma => kernel_rfl) (by as_aux_lemma => kernel_rfl) (fun _ _ _ h => h) (by rfl) hS ?_ ?_
  rotate_left
  · intro w' hw'; go_simp; with_reducible rfl
  go_simp
  refine H_take (i := 9) (v := ?_) rfl (by as_aux_lemma => kernel_rfl) (by as_aux_lemma => kernel_rfl) (by as_aux_lemma => kernel_rfl) (fun _ _ _ h => h) (by rfl) hS ?_ ?_
  rotate_left
  · intro w' hw'; go_simp; with_reducible rfl
  go_simp
  refine H_take (i := 10) (v := ?_) rfl (by as_aux_lemma => kernel_rfl) (by as_aux_lemma => kernel_rfl) (by as_aux_lemma => kernel_rfl) (fun _ _ _ h => h) (by rfl) hS ?_ ?_
  rotate_left
  · intro w' hw'; go_simp; with_reducible rfl
  go_simp
  refine H_take (i := 11) (v := ?_) rfl (by as_aux_lemma => kernel_rfl) (by as_aux_lemma => kernel_rfl) (by as_aux_lemma => kernel_rfl) (fun _ _ _ h => h) (by rfl) hS ?_ ?_
  rotate_left
  · intro w' hw'; go_simp; with_reducible rfl
  go_simp
  refine H_take (i := 12) (v := ?_) rfl (by as_aux_lemma => kernel_rfl) (by as_aux_lemma => kernel_rfl) (by as_aux_lemma => kernel_rfl) (fun _ _ _ h => h) (by rfl) hS ?_ ?_
  rotate_left
  · intro w' hw'; go_simp; with_reducible rfl
  go_simp
  refine H_one (i := 13) (by as_aux_lemma => kernel_rfl) rfl (by rfl) ?_
  go_simp
  refine (nameOf_any ff wa.drew (by rw [HFF.out]; exact HBD.out.1) (by rw [HFF.out]; exact HBD.out.2) (Lib.hid (hP.out.next HDR.out.below))).mono ?_
  rintro e w1 ⟨rfl, hb1⟩
  have HB1 : Hid (Below wa.heap.size wa w1) := Lib.hid ((Below.refl _ wa).drew.trans hb1)
  have hS1 : Only Xd wa w1 := (Only.refl _ _).next HB1.out
  refine ⟨hS1, ?_⟩
  clear hb1
  go_simp
  refine H_one (i := 14) (by as_aux_lemma => kernel_rfl) rfl (by rfl) ?_
  go_simp
  obtain ⟨W2, hW2⟩ : ∃ W2, W2 = w1.alloc (.cells #[.string (sgName ff)] 9) := ⟨_, rfl⟩
  obtain ⟨g2, hg2⟩ : ∃ g2, g2 = w1.heap.size := ⟨_, rfl⟩
  have hb2 : Below w1.heap.size w1 W2 := by rw [hW2]; exact below_alloc _ _
  have HB2 : Hid (Below wa.heap.size wa W2) := Lib.hid (HB1.out.trans (hb2.mono HB1.out.size))
  have HRS : Hid (RepSl W2 (fun b => b = g2) [sgName ff] (.slice (some ⟨g2, 0, none⟩) 1 1)) := Lib.hid (by rw [hW2]; exact RepSl.new (ls := [sgName ff]) hg2 rfl (by simp))
  have HG2 : Hid (wa.heap.size ≤ g2 ∧ g2 < W2.heap.size) := Lib.hid ⟨by rw [hg2]; exact HB1.out.size, by rw [hg2, hW2]; simp⟩
  have hS2 : Only Xd wa W2 := (Only.refl _ _).next HB2.out
  rw [← hW2, ← hg2]
  refine ⟨hS2, ?_⟩
  clear hW2 hg2 hb2
  go_simp
  have HL2 := Lib.hid (HL.out.next HB2.out)
  refine H_one (i := 15) (by as_aux_lemma => kernel_rfl) rfl (by rfl) ?_
  go_simp
  refine (DRemoveX HL2.out.ds [sgName ff] (fun b => b = g2) _ (fun s hs => by
    obtain rfl : s = sgName ff := by simpa using hs
    unfold sgName
    have := dg_length 10 ff.toNat
    simp [ByteArray.size]
    omega) HRS.out (fun k hk => by
      subst hk
      exact ⟨HG2.out.2, fun hx => by have := HL.out.ds.lt _ hx; have := HG2.out.1; omega⟩)).mono ?_
  rintro e w3 ⟨rfl, ho3, hd3⟩
  have hS3 : Only Xd wa w3 := hS2.then ho3
  have HL3 := Lib.hid (HL2.out.diskX ho3 hd3)
  have HO3 := Lib.hid hS3
  refine ⟨hS3, ?_⟩
  clear ho3 hd3
  go_simp
  refine H_take (i := 16) (v := ?_) rfl (by as_aux_lemma => kernel_rfl) (by as_aux_lemma => kernel_rfl) (by as_aux_lemma => kernel_rfl) (fun _ _ _ h => h) (by rfl) hS3 ?_ ?_
  rotate_left
  · intro w' hw'; go_simp; with_reducible rfl
  go_simp
  refine wpAnyH_done (by as_aux_lemma => kernel_rfl) ?_ _
  clear r0 r1 r2 hS hS1 hS2 hS3
  have HLA3 : Hid (LgAt w3 X g gd least h vr vf rv) := Lib.hid (HLA.out.same (fun _ h => h) fun k hk => HO3.out.block k (HLZ.out k hk) (HX.out k hk))
  obtain ⟨c0, c1, c2, c3, c4, c5, c6, cz⟩ := seven_cells HLA3.out.box
  have fz := frozen_of_row _ _ 3 _ _ HLA3.out.box
  clear c0 c1 c2 c4 c5 c6
  by_cases hr : (D.remove d [sgName ff]).1 = 0
  · have HR := Lib.hid hr
    have HDL := Lib.hid (DeleteFi_any h.files vf i m HN.out w3 HLA3.out.frow HHL.out)
    rw [HVF.out, ← HNF.out] at HDL
    rw [HVF.out, ← HNF.out] at c3
    clear hr
    rw [HR.out]
    have q2 : (i : Int) ≤ 1000000 := by have := HNF.out; have := HHL.out; omega
    go_wp2_with fail
    refine HDL.out.mono ?_
    rintro e w4 ⟨u, rfl, hu, hrow, hon⟩
    obtain ⟨ua, uc, rfl, -, -⟩ := row5_slice hrow
    have hz4 := hon.size
    have hgv : (Value.slice (some ⟨ga, 0, none⟩) nf fc).ownBlock ≠ some g := fun e => (HLA.out.ff g (by rw [HVF.out, ← HNF.out]; exact e)).2 rfl
    have hbox4 := (hon.block g cz fun e => hgv e).trans HLA3.out.box
    have HBOX := Lib.hid (heap_seven3 (y := .slice ua (i + m) uc) hbox4)
    have HON := Lib.hid hon
    have HU := Lib.hid hu
    have HRW := Lib.hid hrow
    have fz4 := frozen_of_row _ _ 3 _ _ hbox4
    have k3 := cell_of_row _ _ 3 _ _ _ hbox4
    have cz4 := lt_of_heap hbox4
    clear hu hrow hon hbox4 c3 fz
    go_wp2_with fail
    go_ret
    unfold removedE
    rw [← HFF.out, if_pos HR.out]
    have hle : (h.files.eraseIdx i).length = i + m := by rw [List.length_eraseIdx_of_lt (by have := HN.out; omega)]; have := HN.out; omega
    refine ⟨by rw [HR.out]; rfl, HL3.out.setFiles HLA3.out (by rw [HVF.out, ← HNF.out]; exact HON.out) (by rw [hle]; exact HRW.out) (by rw [HVF.out, ← HNF.out]; exact HU.out) (Only.set (g := g) (Only.refl (fun k => k = g) w4) (.inl rfl) _) HBOX.out, ?_, fun b n c hc => ?_⟩
    · exact (HO3.out.mono fun _ h => .inr h).then ((HON.out.mono fun k hk => .inl (HLA.out.ff k (by rw [HVF.out, ← HNF.out]; exact hk)).1).then (Only.set (g := g) (Only.refl (fun k => X k ∨ Xd k) w4) (.inl (.inl HLA.out.fg)) _))
    · have h1 := cell_of_row _ _ 3 _ _ _ HLA.out.box
      rw [hc, HVF.out] at h1
      cases h1
      obtain ⟨c', hc'⟩ := ownsRow_block HRW.out HU.out
      exact ⟨_, _, (cell_of_row _ _ 3 _ _ _ HBOX.out).trans (congrArg some hc')⟩
  · have HR := Lib.hid hr
    obtain ⟨rr, hrr⟩ : ∃ rr, rr = (D.remove d [sgName ff]).1 := ⟨_, rfl⟩
    rw [← hrr] at hr ⊢
    have HRR := Lib.hid hrr
    have q0 : (rr == 0) = false := beq_eq_false_iff_ne.2 hr
    clear hr hrr c3
    go_wp2_with fail
    go_ret
    unfold removedE
    rw [← HFF.out, if_neg HR.out]
    exact ⟨by first | rfl | (rw [HRR.out]; rfl), HL3.out, HO3.out.mono fun _ h => .inr h, fun b n c hc => by
      have h1 := cell_of_row _ _ 3 _ _ _ HLA.out.box
      rw [hc] at h1
      have h2 := cell_of_row _ _ 3 _ _ _ HLA3.out.box
      rw [← h1] at h2
      exact ⟨_, _, h2⟩⟩
end Go.Proofs.YtbcpcopapbgcdaaGreatDoor.M
