/- The program's disk: Remove. The program's disk: Rename, Remove, Cut as they are called. The program's disk: Crash. What stays true of a disk, whatever is done to it. A server's hard state as plain lists: slots as bytes, what is newest, a save. step, back: one bit's step of the register, and one back. feed: a register led on by bytes, half a byte at a time, by the table. More, Of, Fits: sums of pieces. Package hard: a sum as four bytes; a slot's bytes. The program's disk in a law's own memory; the document's examples. Arrays of four bytes compared. -/
import Derived.Test.YtikcdchmggdmdaaDoorHB5
import Derived.Test.YtikcdchmggdmdaaDoorHB3
import Derived.Test.YtikcdchmggdmdaaDoorHB1
import Derived.IntWalk
import Derived.Laws.BitsAllLaws
import Derived.Test.YtikcdchmggdmdaaDoorHB2
import Derived.ChangeKeysEq
/- Part: ProjO. -/
namespace Go.Proofs.YtikcdchmggdmdaaDoor.M
open Go.RowKit Go.Maps
open D (Fl Dk)

def removeF (fs : List Fl) (l : List ByteArray) : List Fl := l.foldl (fun fs s => fs.eraseIdx (D.find fs s)) fs

def removeB (e : Dk) (names : List ByteArray) : Int × Dk := if D.eachOnce e.fs names = false then (30, e) else (0, { e with fs := removeF e.fs names })

theorem remove_eq (d : Dk) (names : List ByteArray) : D.remove d names = if d.stopped then (32, d) else removeB d.tick names := rfl

theorem once_is (fs : List Fl) : ∀ l : List ByteArray, D.eachOnce fs l = (l.all (D.isThere fs) && !dupB l)
  | [] => by simp [D.eachOnce, dupB]
  | s :: r => by
    unfold D.eachOnce
    rw [once_is fs r]
    have e : (r.any fun t => t.toList == s.toList) = decide (∃ t ∈ r, t = s) := by
      rw [Bool.eq_iff_iff, List.any_eq_true, decide_eq_true_eq]
      constructor
      · rintro ⟨t, ht, h⟩; exact ⟨t, ht, by rw [D.beq_nm] at h; simpa using h⟩
      · rintro ⟨t, ht, h⟩; exact ⟨t, ht, by rw [D.beq_nm]; simpa using h⟩
    rw [e]
    have e2 : dupB (s :: r) = (decide (∃ t ∈ r, t = s) || dupB r) := by
      unfold dupB
      rw [Bool.eq_iff_iff, Bool.or_eq_true, decide_eq_true_eq, decide_eq_true_eq, decide_eq_true_eq, List.nodup_cons]
      constructor
      · intro h
        by_cases h2 : s ∈ r
        · exact .inl ⟨s, h2, rfl⟩
        · exact .inr fun h3 => h ⟨h2, h3⟩
      · rintro (⟨t, h1, rfl⟩ | h) ⟨h2, h3⟩
        · exact h2 h1
        · exact h h3
    rw [e2]
    simp only [List.all_cons]
    cases D.isThere fs s <;> cases r.all (D.isThere fs) <;> cases decide (∃ t ∈ r, t = s) <;> cases dupB r <;> rfl

/-- The state at the head of the loop. -/
def PRemAt (w1 : World) (X : Nat → Prop) (gd gm : Nat) (d : Dk) (E : ByteArray → Nat × Value) (names : List ByteArray) (k : Nat) (wr : World) : Prop :=
  Only X w1 wr ∧ wr.heap.size = w1.heap.size ∧ ∃ M fr, fr = ({ d with fs := removeF d.fs (names.take k) } : Dk).free ∧ PDAt wr X gd { d with fs := removeF d.fs (names.take k) } fr gm M E

theorem removeF_rising (l : List ByteArray) : ∀ fs : List Fl, D.Rising fs → D.Rising (removeF fs l) := by
  induction l with
  | nil => intro fs h; exact h
  | cons s r ih => intro fs h; exact ih _ (h.erase _)

theorem removeF_used (l : List ByteArray) : ∀ fs : List Fl, D.Rising fs → D.used (removeF fs l) ≤ D.used fs := by
  induction l with
  | nil => intro fs _; exact Nat.le_refl _
  | cons s r ih =>
    intro fs h
    have h1 := ih _ (h.erase (D.find fs s))
    have h2 := bytesOf_erase h s
    unfold removeF at h1 ⊢
    simp only [List.foldl_cons]
    omega

set_option maxRecDepth 20000 in
set_option maxHeartbeats 3200000 in
theorem RemoveC_any (d : Dk) (X : Nat → Prop) (gd bd bn : Nat) (names : List ByteArray) (F : Nat → Prop) (vn : Value) (w : World) (hd : PDskIn w X gd d) (hg : Good d) (hs : ∀ s ∈ names, s.size ≤ 9223372036854775807)
    (hv : RepSl w F names vn) (hF : ∀ k, F k → k < w.heap.size ∧ ¬ X k)
    (c1 : w.cell? ⟨bd, 0, none⟩ = some (.pointer (some ⟨gd, 0, none⟩))) (c2 : w.cell? ⟨bn, 0, none⟩ = some vn) (hbx : (bd < w.heap.size ∧ ¬ X bd) ∧ (bn < w.heap.size ∧ ¬ X bn)) :
    Calls Tryd.prog 35 #[.pointer (some ⟨bd, 0, none⟩), .pointer (some ⟨bn, 0, none⟩)] w (PPost w X gd (removeB d names)) := by
  obtain ⟨na, nc, rfl, hnl⟩ := hv.slice
  have HV := Lib.hid hv
  have HF := Lib.hid hF
  have HX := Lib.hid hd.2
  have HD := Lib.hid hd.1
  have HG := Lib.hid hg
  have HS := Lib.hid hs
  have HBX := Lib.hid hbx
  have HC1 := Lib.hid c1
  have HC2 := Lib.hid c2
  obtain ⟨⟨b1, -⟩, b2, -⟩ := hbx
  clear hv hF hd hg hs
  go_enter Tryd.func35, Tryd.ntmps35
  go_wp2_with fail
  refine (Has_any d X gd names F _ w HD.out HV.out (fun k hk => (HF.out k hk).1) HS.out).mono ?_
  rintro e w1 ⟨rfl, rfl⟩
  cases hall : names.all (D.isThere d.fs) with
  | false =>
    have HE : Hid (removeB d names = (30, d)) := Lib.hid (by unfold removeB; rw [once_is, hall]; rfl)
    clear hall
    go_wp2_with fail
    go_ret
    rw [HE.out]
    exact PPost.of (Only.refl _ _) rfl (Only.refl _ _) HD.out.up
  | true =>
    have HALL := Lib.hid hall
    clear hall
    go_wp2_with fail
    refine (Twice_any names F _ w HV.out (fun k hk => (HF.out k hk).1) HS.out).mono ?_
    rintro e w1 ⟨rfl, hb1⟩
    have HO1 : Hid (Only X w w1) := Lib.hid ((Only.of_below hb1).mono fun _ h => h)
    have HD1 : Hid (PDsk w1 X gd d) := Lib.hid (HD.out.same (fun _ h => h) fun k hk => hb1.block k (HX.out k hk))
    have c1 : w1.cell? ⟨bd, 0, none⟩ = some (.pointer (some ⟨gd, 0, none⟩)) := (cell_only HO1.out HBX.out.1.1 HBX.out.1.2 0).trans HC1.out
    have c2 : w1.cell? ⟨bn, 0, none⟩ = some (.slice na names.length nc) := (cell_only HO1.out HBX.out.2.1 HBX.out.2.2 0).trans HC2.out
    have b1 : bd < w1.heap.size := Nat.lt_of_lt_of_le HBX.out.1.1 HO1.out.size
    have b2 : bn < w1.heap.size := Nat.lt_of_lt_of_le HBX.out.2.1 HO1.out.size
    clear hb1
    cases hdup : dupB names with
    | true =>
      have HE : Hid (removeB d names = (30, d)) := Lib.hid (by unfold removeB; rw [once_is, hdup]; simp)
      clear hdup
      go_wp2_with fail
      go_ret
      rw [HE.out]
      exact PPost.of HO1.out rfl (Only.refl _ _) HD1.out.up
    | false =>
      have HONCE : Hid (D.eachOnce d.fs names = true) := Lib.hid (by rw [once_is, HALL.out, hdup]; rfl)
      have HE : Hid (removeB d names = (0, { d with fs := removeF d.fs names })) := Lib.hid (by unfold removeB; rw [HONCE.out]; rfl)
      obtain ⟨gm, M, E, hat⟩ := HD1.out
      have H0 : Hid (PRemAt w1 X gd gm d E names 0 w1) := Lib.hid ⟨Only.refl _ _, rfl, M, d.free, rfl, hat⟩
      clear hdup hat
      go_wp2_with fail
      go_loopw [4, 15] (fun _ i wr => ∃ k : Nat, k ≤ names.length ∧ i = .int .i64 (k : Int) ∧ PRemAt w1 X gd gm d E names k wr) (fun _ i _ => names.length - (intOf i).toNat)
      case atStart => exact ⟨0, Nat.zero_le _, rfl, H0.out⟩
      case round =>
        obtain ⟨k, hk, rfl, ho, hz, M2, fr, hfr, hat⟩ := hrel
        have HOw : Hid (Only X w wr) := Lib.hid (HO1.out.then ho)
        by_cases hlt : k < names.length
        · have hkk : (k : Int) < (names.length : Int) := by omega
          have hv2 : RepSl wr F names (.slice na names.length nc) := HV.out.same (fun _ h => h) fun j hj => HOw.out.block j (HF.out j hj).1 (HF.out j hj).2
          obtain ⟨b, off, rfl, hFb, hc⟩ := hv2.elem k hlt
          have hbz : b < wr.heap.size := Nat.lt_of_lt_of_le (HF.out b hFb).1 HOw.out.size
          obtain ⟨s, hse⟩ : ∃ s, s = names[k] := ⟨_, rfl⟩
          rw [← hse] at hc
          have hmem : s ∈ names := by rw [hse]; exact List.getElem_mem hlt
          have HSS := Lib.hid (HS.out s hmem)
          have hr2 := removeF_rising (names.take k) d.fs HG.out.2.1
          have hsum : 0 ≤ fr ∧ fr + (D.used (removeF d.fs (names.take k)) : Int) ≤ 9223372036854775807 := by
            have h1 := removeF_used (names.take k) d.fs HG.out.2.1
            have h2 := HG.out.1.2.2.1
            have h3 := HG.out.1.2.2.2.2
            rw [hfr]
            unfold D.Dk.free at h2 ⊢
            simp only
            omega
          have HSUM := Lib.hid hsum
          have HR2 := Lib.hid hr2
          have HAT := Lib.hid hat
          have HNEXT : Hid (∀ w2 M', PDAt w2 X gd { d with fs := (removeF d.fs (names.take k)).eraseIdx (D.find (removeF d.fs (names.take k)) s) } (fr + ((bytesOf (removeF d.fs (names.take k)) s).length : Int)) gm M' E → Only X wr w2 → w2.heap.size = wr.heap.size → PRemAt w1 X gd gm d E names (k + 1) w2) := Lib.hid fun w2 M' h1 h2 h3 => by
            have e : removeF d.fs (names.take (k + 1)) = (removeF d.fs (names.take k)).eraseIdx (D.find (removeF d.fs (names.take k)) s) := by
              rw [List.take_succ_eq_append_getElem hlt, ← hse]
              unfold removeF
              rw [List.foldl_append]
              rfl
            refine ⟨ho.then h2, by omega, M', fr + ((bytesOf (removeF d.fs (names.take k)) s).length : Int), ?_, by rw [e]; exact h1⟩
            have h4 := bytesOf_erase hr2 s
            rw [e, hfr]
            unfold D.Dk.free
            simp only
            omega
          have c1 : wr.cell? ⟨bd, 0, none⟩ = some (.pointer (some ⟨gd, 0, none⟩)) := (cell_only HOw.out HBX.out.1.1 HBX.out.1.2 0).trans HC1.out
          have b1 : bd < wr.heap.size := Nat.lt_of_lt_of_le HBX.out.1.1 HOw.out.size
          clear hat hr2 hsum hmem hse hv2 ho hz hfr
          go_wp2_with fail
          refine (Drop_any _ X gd gm fr M2 E s wr HAT.out HR2.out HSS.out HSUM.out.1 HSUM.out.2).mono ?_
          rintro e w2 ⟨rfl, h2, h3, -, M', h1⟩
          have HN := Lib.hid (HNEXT.out w2 M' h1 h2 h3)
          clear h1 h2 h3
          go_wp2_with fail
          go_roundw
          case rel => exact ⟨k + 1, by omega, by go_num, HN.out⟩
          case measure => simp [intOf]; omega
        · have hkk : ¬ (k : Int) < (names.length : Int) := by omega
          obtain rfl : k = names.length := by omega
          have HP : Hid (PPost w X gd (removeB d names) (.returned (.int .i64 0)) wr) := Lib.hid (by
            rw [HE.out]
            rw [List.take_length] at hat hfr
            refine PPost.of HO1.out rfl ho ⟨gm, M2, E, ?_⟩
            rw [← hfr]
            exact hat.same (fun _ h => .inl h) fun _ _ => rfl)
          clear hat ho hz hfr
          go_wp2_with fail
          go_ret
          exact HP.out
end Go.Proofs.YtikcdchmggdmdaaDoor.M

/- Part: ProjQ. -/
namespace Go.Proofs.YtikcdchmggdmdaaDoor.M
open Go.RowKit Go.Maps
open D (Fl Dk)

set_option maxRecDepth 20000 in
set_option maxHeartbeats 1600000 in
theorem PRemove_any (d : Dk) (X : Nat → Prop) (gd : Nat) (names : List ByteArray) (F : Nat → Prop) (vn : Value) (w : World) (hd : PDskIn w X gd d) (hg : Good d) (hs : ∀ s ∈ names, s.size ≤ 9223372036854775807)
    (hv : RepSl w F names vn) (hF : ∀ k, F k → k < w.heap.size ∧ ¬ X k) :
    Calls Tryd.prog 24 #[.pointer (some ⟨gd, 0, none⟩), vn] w (PPost w X gd (D.remove d names)) := by
  obtain ⟨na, nc, rfl, hnl⟩ := hv.slice
  have HV := Lib.hid hv
  have HF := Lib.hid hF
  have HD := Lib.hid hd
  have HG := Lib.hid hg
  have HS := Lib.hid hs
  clear hv hF hd hg hs
  obtain ⟨W, hW⟩ : ∃ W, W = (w.alloc (.cells #[.pointer (some ⟨gd, 0, none⟩)] 30)).alloc (.cells #[.slice na names.length nc] 59) := ⟨_, rfl⟩
  have HO : Hid (Only X w W) := Lib.hid (by rw [hW]; exact ((Only.refl X w).alloc _).alloc _)
  have HB : Hid (Below w.heap.size w W) := Lib.hid (by rw [hW]; exact ((Below.refl _ w).alloc (by omega) _).alloc (by simp) _)
  have HSZ : Hid (W.heap.size = w.heap.size + 2) := Lib.hid (by rw [hW]; simp)
  have HC : Hid (W.cell? ⟨w.heap.size, 0, none⟩ = some (.pointer (some ⟨gd, 0, none⟩)) ∧ W.cell? ⟨w.heap.size + 1, 0, none⟩ = some (.slice na names.length nc)) := Lib.hid (by
    rw [hW]
    exact ⟨cell_past _ (cell_new1 _ _ _ rfl) (by simp), cell_new1 _ _ _ (by simp)⟩)
  have hwk := Work_any 35 #[.pointer (some ⟨w.heap.size, 0, none⟩), .pointer (some ⟨w.heap.size + 1, 0, none⟩)] en44 d X gd (removeB d.tick names) W
    (HD.out.1.same (fun _ h => h) fun k hk => HB.out.block k (HD.out.2 k hk)) HG.out.1.2.1 (fun w1 ho hz hd1 hst => by
      have hnx : ∀ k, w.heap.size ≤ k → ¬ X k := fun k hk hx => by have := HD.out.2 k hx; omega
      have hsz := HSZ.out
      exact RemoveC_any d.tick X gd _ _ names F _ w1 ⟨hd1, fun k hk => by have := HD.out.2 k hk; omega⟩ HG.out.tick HS.out
        (HV.out.same (fun _ h => h) fun k hk => (ho.block k (by have := (HF.out k hk).1; omega) (HF.out k hk).2).trans (HB.out.block k (HF.out k hk).1)) (fun k hk => ⟨by have := (HF.out k hk).1; omega, (HF.out k hk).2⟩)
        ((cell_only ho (by omega) (hnx _ (by omega)) 0).trans HC.out.1) ((cell_only ho (by omega) (hnx _ (by omega)) 0).trans HC.out.2)
        ⟨⟨by omega, hnx _ (by omega)⟩, by omega, hnx _ (by omega)⟩)
  rw [← remove_eq] at hwk
  have HWK := Lib.hid hwk
  have HWE := Lib.hid hW
  clear hwk hW
  go_enter Tryd.func24, Tryd.ntmps24
  go_wp2_with fail
  rw [← HWE.out]
  refine HWK.out.mono ?_
  intro e w' hp
  have HP := Lib.hid (hp.wrap HO.out)
  obtain ⟨rfl, -, -⟩ := hp
  go_wp2_with fail
  go_ret
  exact HP.out
end Go.Proofs.YtikcdchmggdmdaaDoor.M

/- Part: ProjP. -/
namespace Go.Proofs.YtikcdchmggdmdaaDoor.M
open Go.RowKit Go.Maps
open D (Fl Dk)

/-- What a crash makes of a file. -/
def crashG (k : Option Int) (f : Fl) : Fl := { f with b := f.b.take (D.stays f k), safe := D.stays f k }

/-- The first so many files crashed, the others as they are. -/
def crashTo (fs : List Fl) (ks : List Int) : Nat → List Fl
  | 0 => fs
  | i + 1 => (crashTo fs ks i).modify i (crashG ks[i]?)

theorem crashTo_get (fs : List Fl) (ks : List Int) : ∀ (n j : Nat), (crashTo fs ks n)[j]? = if j < n then fs[j]?.map (crashG ks[j]?) else fs[j]?
  | 0, j => by simp [crashTo]
  | n + 1, j => by
    unfold crashTo
    rw [List.getElem?_modify, crashTo_get fs ks n j]
    by_cases e : n = j
    · subst e
      simp
    · rw [show (if j < n + 1 then fs[j]?.map (crashG ks[j]?) else fs[j]?) = if j < n then fs[j]?.map (crashG ks[j]?) else fs[j]? by
        by_cases h : j < n
        · rw [if_pos h, if_pos (by omega)]
        · rw [if_neg h, if_neg (by omega)]]
      simp [e]

theorem crashFs_getq : ∀ (fs : List Fl) (ks : List Int) (j : Nat), (D.crashFs fs ks)[j]? = fs[j]?.map (crashG ks[j]?)
  | [], _, j => by simp [D.crashFs]
  | f :: r, ks, 0 => by cases ks <;> simp [D.crashFs, crashG]
  | f :: r, ks, j + 1 => by
    have := crashFs_getq r ks.tail j
    simp only [D.crashFs, List.getElem?_cons_succ]
    rw [this]
    cases ks <;> simp

theorem crashTo_all (fs : List Fl) (ks : List Int) : crashTo fs ks fs.length = D.crashFs fs ks := by
  apply List.ext_getElem?
  intro j
  rw [crashTo_get, crashFs_getq]
  by_cases h : j < fs.length
  · rw [if_pos h]
  · rw [if_neg h, List.getElem?_eq_none (by omega)]; rfl

theorem crashTo_names (fs : List Fl) (ks : List Int) : ∀ n, (crashTo fs ks n).map (·.nm) = fs.map (·.nm)
  | 0 => rfl
  | n + 1 => (D.names_modify (crashTo fs ks n) n (crashG ks[n]?) fun _ => rfl).trans (crashTo_names fs ks n)

theorem crashTo_length (fs : List Fl) (ks : List Int) (n : Nat) : (crashTo fs ks n).length = fs.length := by simpa using congrArg List.length (crashTo_names fs ks n)

theorem crashTo_here (fs : List Fl) (ks : List Int) (n : Nat) (h : n < fs.length) (h2 : n < (crashTo fs ks n).length) : (crashTo fs ks n)[n] = fs[n] := by
  have := crashTo_get fs ks n n
  rw [if_neg (by omega), List.getElem?_eq_getElem h, List.getElem?_eq_getElem h2] at this
  simpa using this

theorem crashTo_used (fs : List Fl) (ks : List Int) (hs : ∀ f ∈ fs, f.safe ≤ f.b.length) (n : Nat) (h : n < fs.length) : D.used (crashTo fs ks (n + 1)) + (fs[n].b.length - D.stays fs[n] ks[n]?) = D.used (crashTo fs ks n) := by
  have h2 : n < (crashTo fs ks n).length := by rw [crashTo_length]; exact h
  have hu := D.used_modify (crashTo fs ks n) n (crashG ks[n]?) h2
  rw [crashTo_here fs ks n h h2] at hu
  have hst := stays_le (hs _ (List.getElem_mem h)) ks[n]?
  have hl : (crashG ks[n]? fs[n]).b.length = D.stays fs[n] ks[n]? := by
    unfold crashG
    simp
    omega
  rw [hl] at hu
  show D.used ((crashTo fs ks n).modify n (crashG ks[n]?)) + _ = _
  omega

/-- What is to stay of a file, as the program takes it. -/
theorem stays_zero (f : Fl) : D.stays f (some 0) = D.stays f none := by simp [D.stays]

/-- The state at the head of the loop. -/
def PCrashAt (w1 : World) (X : Nat → Prop) (gd gm : Nat) (d : Dk) (M : DataW Nat) (ks : List Int) (k : Nat) (gone : Int) (wr : World) : Prop :=
  Only X w1 wr ∧ wr.heap.size = w1.heap.size ∧ gone = (D.used d.fs : Int) - (D.used (crashTo d.fs ks k) : Int) ∧ D.used (crashTo d.fs ks k) ≤ D.used d.fs ∧ ∃ E, PDAt wr X gd { d with fs := crashTo d.fs ks k } d.free gm M E

theorem row_cell {w : World} {base n : Nat} {t : TypeId} {a : Option Addr} {c : Nat} {xs : List Value} (h : w.ownsRow base t 1 (.slice a n c) n xs) (i : Nat) (hi : i < n) : ∃ g, a = some ⟨g, 0, none⟩ ∧ base ≤ g ∧ g < w.heap.size ∧ w.cell? ⟨g, i, none⟩ = xs[i]? := by
  have hl := h.lt
  rcases h.2 with ⟨h1, h2⟩ | ⟨g, cap, cur, h1, h2, _⟩
  · omega
  · cases h1
    exact ⟨g, rfl, h2, (hl g rfl).2, h.cellAt i (by omega)⟩

set_option maxRecDepth 20000 in
set_option maxHeartbeats 3200000 in
theorem PCrash_any (d : Dk) (X : Nat → Prop) (gd : Nat) (ks : List Int) (F : Nat → Prop) (vk : Value) (w : World) (hd : PDskIn w X gd d) (hg : Good d) (hsn : ∀ f ∈ d.fs, f.nm.size ≤ 9223372036854775807) (hv : RepI w F ks vk) (hF : ∀ k, F k → k < w.heap.size ∧ ¬ X k) :
    Calls Tryd.prog 13 #[.pointer (some ⟨gd, 0, none⟩), vk] w (PPost w X gd ((((D.crash d ks).1 : Nat) : Int), (D.crash d ks).2)) := by
  obtain ⟨na, nc, rfl, hnl⟩ := hv.slice
  have HV := Lib.hid hv
  have HF := Lib.hid hF
  have HX := Lib.hid hd.2
  have HD := Lib.hid hd
  have HG := Lib.hid hg
  have HSIZE := Lib.hid hsn
  clear hv hF hd hg hsn
  go_enter Tryd.func13, Tryd.ntmps13
  go_wp2_with fail
  refine (Names_any d X gd w HD.out HG.out.2.1 (by have := HG.out.1.1; omega)).mono ?_
  rintro e w1 ⟨v, rfl, hb1, hrow⟩
  obtain ⟨va, vc, rfl⟩ := owned_slice hrow
  have HB1 := Lib.hid hb1
  have HO1 : Hid (Only X w w1) := Lib.hid ((Only.of_below hb1).mono fun _ h => h)
  have HD1 : Hid (PDsk w1 X gd d) := Lib.hid (HD.out.1.same (fun _ h => h) fun k hk => hb1.block k (HX.out k hk))
  have HROW := Lib.hid hrow
  obtain ⟨gm, M, E, hat⟩ := HD1.out
  have H0 : Hid (PCrashAt w1 X gd gm d M ks 0 0 w1) := Lib.hid ⟨Only.refl _ _, rfl, by simp [crashTo], Nat.le_refl _, E, hat⟩
  have hfl : d.fs.length ≤ 4096 := HG.out.1.1
  clear hb1 hrow hat
  go_wp2_with fail
  go_loopw [5, 6, 7, 8, 12] (fun g _ _ _ i wr => ∃ (k : Nat) (y : Int), k ≤ d.fs.length ∧ i = .int .i64 (k : Int) ∧ g = .int .i64 y ∧ PCrashAt w1 X gd gm d M ks k y wr) (fun _ _ _ _ i _ => d.fs.length - (intOf i).toNat)
  case atStart => exact ⟨0, 0, Nat.zero_le _, rfl, rfl, H0.out⟩
  case round =>
    obtain ⟨k, y, hk, rfl, rfl, ho, hz, hy, hyu, E2, hat⟩ := hrel
    by_cases hlt : k < d.fs.length
    · have hkk : (k : Int) < (d.fs.length : Int) := by omega
      obtain ⟨gn, hva, hgn1, hgn2, hcn⟩ := row_cell HROW.out k hlt
      rw [List.getElem?_map, List.getElem?_eq_getElem hlt] at hcn
      subst hva
      obtain ⟨f, hfe⟩ : ∃ f, f = d.fs[k] := ⟨_, rfl⟩
      rw [← hfe] at hcn
      have hnX : ¬ X gn := fun h => by have := HX.out gn h; omega
      have hcn2 : wr.cell? ⟨gn, k, none⟩ = some (.string f.nm) := (cell_only ho hgn2 hnX k).trans hcn
      have hgn3 : gn < wr.heap.size := by omega
      have hk2 : k < (crashTo d.fs ks k).length := by rw [crashTo_length]; exact hlt
      have hhere := crashTo_here d.fs ks k hlt hk2
      have hfm : f ∈ crashTo d.fs ks k := by rw [hfe, ← hhere]; exact List.getElem_mem _
      have hfm0 : f ∈ d.fs := by rw [hfe]; exact List.getElem_mem _
      have hr2 : D.Rising (crashTo d.fs ks k) := HG.out.2.1.of_names (crashTo_names _ _ _)
      have ht : D.isThere (crashTo d.fs ks k) f.nm = true := D.isThere_mem.2 ⟨f, hfm, rfl⟩
      have hfind : D.find (crashTo d.fs ks k) f.nm = k := hr2.find_eq hk2 (by rw [hhere, hfe])
      have hsz : f.nm.size ≤ 9223372036854775807 := HSIZE.out f hfm0
      have hl := hat.look hsz (w' := wr) rfl
      have hp : ptrOf { d with fs := crashTo d.fs ks k } E2 f.nm = .pointer (some ⟨(E2 f.nm).1, 0, none⟩) := by
        unfold ptrOf
        simp only [ht, if_true]
      rw [hp] at hl
      have hfa := hat.each f hfm
      obtain ⟨⟨-, -, d2⟩, -, hgz⟩ := hat.cells
      have HSAFE := Lib.hid (HG.out.2.2 f hfm0)
      have hst := stays_le HSAFE.out ks[k]?
      have hub := D.used_mem hfm0
      have hroom : (D.used d.fs : Int) ≤ 9223372036854775807 := by
        have h1 := HG.out.1.2.2.2.2
        have h3 := HG.out.1.2.2.1
        unfold D.Dk.free at h3
        omega
      have hus := crashTo_used d.fs ks HG.out.2.2 k hlt
      rw [← hfe] at hus
      have hy0 : 0 ≤ y := by omega
      have HNEXT : Hid (∀ (w2 : World) (v' : Value), FileAt w2 (E2 f.nm).1 v' { f with b := f.b.take (D.stays f ks[k]?), safe := D.stays f ks[k]? } → v'.ownBlock = (E2 f.nm).2.ownBlock → Only (fun j => j = (E2 f.nm).1) wr w2 → w2.heap.size = wr.heap.size →
          PCrashAt w1 X gd gm d M ks (k + 1) (y + ((f.b.length - D.stays f ks[k]? : Nat) : Int)) w2 ∧ y + ((f.b.length - D.stays f ks[k]? : Nat) : Int) ≤ 9223372036854775807 ∧ 0 ≤ y + ((f.b.length - D.stays f ks[k]? : Nat) : Int)) := Lib.hid fun w2 v' h1 h2 h3 h4 => by
        have hx : ∀ j, X j → j < wr.heap.size := fun j hj => Nat.lt_of_lt_of_le (HX.out j hj) (Nat.le_trans HB1.out.size ho.size)
        obtain ⟨q1, E', q2⟩ := file_done (f := f) hat hx hr2 hfm (crashG ks[k]?) (fun _ => rfl) (v' := v') h1 h2 h3
        rw [hfind] at q2
        refine ⟨⟨ho.then q1, by omega, by omega, by omega, E', q2⟩, by omega, by omega⟩
      have HFA := Lib.hid hfa
      obtain ⟨b, hb⟩ : ∃ b, b = (E2 f.nm).1 := ⟨_, rfl⟩
      rw [← hb] at hl HFA HNEXT
      have HOK := Lib.hid ho
      have hzr : w.heap.size ≤ wr.heap.size := Nat.le_trans HB1.out.size ho.size
      have HKS : Hid (∀ j, F j → wr.heap[j]? = w.heap[j]? ∧ j < wr.heap.size) := Lib.hid fun j hj => ⟨(ho.block j (Nat.lt_of_lt_of_le (HF.out j hj).1 HB1.out.size) (HF.out j hj).2).trans (HB1.out.block j (HF.out j hj).1), Nat.lt_of_lt_of_le (HF.out j hj).1 hzr⟩
      by_cases hkl : k < ks.length
      · have hkl2 : (k : Int) < (ks.length : Int) := by omega
        have hv2 : RepI wr F ks (.slice na ks.length nc) := HV.out.same (fun _ h => h) fun j hj => (HKS.out j hj).1
        obtain ⟨kb, koff, rfl, hFb, hkc, hkr1, hkr2⟩ := hv2.elem k hkl
        have hkz := (HKS.out kb hFb).2
        obtain ⟨K, hK⟩ : ∃ K, K = ks[k] := ⟨_, rfl⟩
        rw [← hK] at hkc hkr1 hkr2
        have HSTAY : Hid (D.stays f (some K) = D.stays f ks[k]?) := Lib.hid (by rw [List.getElem?_eq_getElem hkl, hK])
        have HK1 := Lib.hid hkr1
        have HK2 := Lib.hid hkr2
        clear hat hfa hhere hfm hfm0 hr2 ht hfind hp hst hub hus hy hyu ho hz hb hv2 hcn hK hkr1 hkr2 hroom hfe
        go_wp2_with fail
        refine (FCrash_any b _ f K _ HFA.out HSAFE.out HK1.out HK2.out).mono ?_
        rintro e w2 ⟨rfl, h2, h3, v', h4, h1⟩
        rw [HSTAY.out] at h1 ⊢
        obtain ⟨hn1, hn2, hn3⟩ := HNEXT.out w2 v' h1 h4 h2 h3
        have HN := Lib.hid hn1
        obtain ⟨r, hr⟩ : ∃ r, r = f.b.length - D.stays f ks[k]? := ⟨_, rfl⟩
        rw [← hr] at hn2 hn3 HN ⊢
        clear h1 h2 h3 h4 hn1 hr
        go_wp2_with fail
        go_roundw
        case rel => exact ⟨k + 1, y + (r : Int), by omega, by go_num, rfl, HN.out⟩
        case measure => simp [intOf]; omega
      · have hkl2 : ¬ (k : Int) < (ks.length : Int) := by omega
        obtain ⟨K, hK⟩ : ∃ K : Int, K = 0 := ⟨_, rfl⟩
        have HSTAY : Hid (D.stays f (some K) = D.stays f ks[k]?) := Lib.hid (by rw [List.getElem?_eq_none (by omega), hK, stays_zero])
        have HK1 : Hid (-9223372036854775808 ≤ K) := Lib.hid (by omega)
        have HK2 : Hid (K ≤ 9223372036854775807) := Lib.hid (by omega)
        clear hat hfa hhere hfm hfm0 hr2 ht hfind hp hst hub hus hy hyu ho hz hb hcn hroom hfe
        subst hK
        go_wp2_with fail
        refine (FCrash_any b _ f 0 _ HFA.out HSAFE.out HK1.out HK2.out).mono ?_
        rintro e w2 ⟨rfl, h2, h3, v', h4, h1⟩
        rw [HSTAY.out] at h1 ⊢
        obtain ⟨hn1, hn2, hn3⟩ := HNEXT.out w2 v' h1 h4 h2 h3
        have HN := Lib.hid hn1
        obtain ⟨r, hr⟩ : ∃ r, r = f.b.length - D.stays f ks[k]? := ⟨_, rfl⟩
        rw [← hr] at hn2 hn3 HN ⊢
        clear h1 h2 h3 h4 hn1 hr
        go_wp2_with fail
        go_roundw
        case rel => exact ⟨k + 1, y + (r : Int), by omega, by go_num, rfl, HN.out⟩
        case measure => simp [intOf]; omega
    · have hkk : ¬ (k : Int) < (d.fs.length : Int) := by omega
      obtain rfl : k = d.fs.length := by omega
      rw [crashTo_all] at hat hy hyu
      obtain ⟨⟨d0, d1, -⟩, ⟨f0, f1, -⟩, hz1⟩ := hat.cells
      have hsum : d.free + y ≤ 9223372036854775807 ∧ 0 ≤ d.free ∧ 0 ≤ y := by
        have h1 := HG.out.1.2.2.2.2
        have h3 := HG.out.1.2.2.1
        unfold D.Dk.free at *
        omega
      obtain ⟨hs1, hs2, hs3⟩ := hsum
      have HFIN : Hid (∀ W, W = (wr.setCell ⟨gd, 0, none⟩ (.int .i64 (d.free + y))).setCell ⟨gd, 1, none⟩ (.int .i64 (-1)) → PPost w X gd ((((D.crash d ks).1 : Nat) : Int), (D.crash d ks).2) (.returned (.int .i64 y)) W) := Lib.hid fun W hW => by
        subst hW
        have hb2 := heap_setCell_same _ _ 0 _ _ (.int .i64 (d.free + y)) hat.box
        have hb3 := heap_setCell_same _ _ 1 _ _ (.int .i64 (-1)) hb2
        have hfr : ({ d with fs := D.crashFs d.fs ks, ends := false } : Dk).free = d.free + y := by
          unfold D.Dk.free
          simp only
          omega
        refine PPost.of HO1.out (by
          unfold D.crash
          simp only
          congr 2
          omega) ((ho.set (.inl hat.foot.1) _).set (.inl hat.foot.1) _) ⟨gm, M, E2, ?_⟩
        show PDAt _ _ gd { d with fs := D.crashFs d.fs ks, ends := false } ({ d with fs := D.crashFs d.fs ks, ends := false } : Dk).free gm M E2
        rw [hfr]
        exact (hat.ticked (d' := { d with fs := D.crashFs d.fs ks, ends := false }) (fr' := d.free + y) rfl (by rw [hb3]; simp [restOf]) fun j hj => by
          rw [Below.heap_setCell _ _ _ _ (by simpa using hj), Below.heap_setCell _ _ _ _ (by simpa using hj)]).same (fun _ h => .inl h) fun _ _ => rfl
      obtain ⟨fr, hfr⟩ : ∃ fr, fr = d.free := ⟨_, rfl⟩
      rw [← hfr] at hs1 hs2 d0
      rw [← hfr] at HFIN
      have hs4 : 0 ≤ fr + y := by omega
      clear hat hy hyu ho hz hfr
      go_wp2_with fail
      go_ret
      exact HFIN.out _ rfl
end Go.Proofs.YtikcdchmggdmdaaDoor.M

/- Part: DiskWell. -/
namespace Go.Proofs.YtikcdchmggdmdaaDoor.M
open D (Fl Dk)

/-- What is true of a disk from its start. -/
def Well (d : Dk) : Prop := Good d ∧ ∀ f ∈ d.fs, D.okName f.nm = true

theorem ok_size {s : ByteArray} (h : D.okName s = true) : s.size ≤ 32 := by
  unfold D.okName at h
  simp only [Bool.and_eq_true, decide_eq_true_eq] at h
  exact h.2.2

theorem Well.names {d : Dk} (h : Well d) : ∀ f ∈ d.fs, f.nm.size ≤ 9223372036854775807 := fun f hf => by
  have := ok_size (h.2 f hf)
  omega

theorem Well.of {d d' : Dk} (h : Well d) (hr : d'.room = d.room) (hc : d'.calls ≤ 9223372036854775807) (hl : d'.fs.length ≤ 4096) (hu : (D.used d'.fs : Int) ≤ d.room) (hs : D.Rising d'.fs) (he : ∀ f ∈ d'.fs, f.safe ≤ f.b.length ∧ D.okName f.nm = true) : Well d' := by
  obtain ⟨⟨⟨h1, h2, h3, h4, h5⟩, h6, h7⟩, h8⟩ := h
  refine ⟨⟨⟨hl, hc, ?_, by rw [hr]; exact h4, by rw [hr]; exact h5⟩, hs, fun f hf => (he f hf).1⟩, fun f hf => (he f hf).2⟩
  unfold D.Dk.free
  rw [hr]
  omega

theorem Well.used {d : Dk} (h : Well d) : (D.used d.fs : Int) ≤ d.room := by
  have := h.1.1.2.2.1
  unfold D.Dk.free at this
  omega

theorem Well.tick {d : Dk} (h : Well d) : Well d.tick := ⟨h.1.tick, by rw [tick_fs]; exact h.2⟩

theorem fresh_well {n : Int} (h0 : 0 ≤ n) (h1 : n ≤ 9223372036854775807) : Well (fresh n) := by
  refine ⟨⟨⟨by simp [fresh], by simp [fresh], ?_, h0, h1⟩, by simp [fresh, D.Rising], fun f hf => by simp [fresh] at hf⟩, fun f hf => by simp [fresh] at hf⟩
  simp [fresh, D.Dk.free, D.used]; exact h0

theorem stop_well {d : Dk} (h : Well d) {n : Int} (hn : n ≤ 9223372036854775807) : Well (D.stop d n) :=
  h.of rfl (by simp [D.stop]; omega) h.1.1.1 h.used h.1.2.1 fun f hf => ⟨h.1.2.2 f hf, h.2 f hf⟩

theorem append_well {d : Dk} (h : Well d) (s : ByteArray) (bs : List (List UInt8)) : Well (D.append d s bs).2 ∧ D.used (D.append d s bs).2.fs ≤ D.used d.fs + bs.flatten.length := by
  rw [append_eq]
  split
  · exact ⟨h, Nat.le_add_right _ _⟩
  · have ht := h.tick
    rw [show D.used d.fs = D.used d.tick.fs by rw [tick_fs]]
    generalize d.tick = e at ht
    unfold appendB
    split
    · exact ⟨ht, by simp⟩
    · rename_i hok
      have hok : D.okName s = true := by simpa using hok
      split
      · exact ⟨ht, by simp⟩
      · rename_i hf
        have hf1 : (bs.flatten.length : Int) ≤ e.free := by omega
        have hf2 : D.isThere e.fs s = false → e.fs.length < 4096 := fun h1 => by
          rcases Nat.lt_or_ge e.fs.length 4096 with h2 | h2
          · exact h2
          · exact absurd (.inr ⟨h1, h2⟩) hf
        simp only
        obtain ⟨fs, hfs⟩ : ∃ fs, fs = (if D.isThere e.fs s = true then e.fs else D.add e.fs ⟨s, [], 0⟩) := ⟨_, rfl⟩
        have key : D.Rising fs ∧ D.isThere fs s = true ∧ D.used fs = D.used e.fs ∧ fs.length ≤ 4096 ∧ ∀ f ∈ fs, f.safe ≤ f.b.length ∧ D.okName f.nm = true := by
          rw [hfs]
          split
          · rename_i h1
            exact ⟨ht.1.2.1, h1, rfl, ht.1.1.1, fun f hf => ⟨ht.1.2.2 f hf, ht.2 f hf⟩⟩
          · rename_i h1
            have h1 : D.isThere e.fs s = false := by simpa using h1
            refine ⟨ht.1.2.1.add (x := ⟨s, [], 0⟩) (D.isThere_not.1 h1), D.isThere_mem.2 ⟨⟨s, [], 0⟩, D.mem_add.2 (.inl rfl), rfl⟩, by rw [D.used_add]; simp, by rw [D.length_add]; exact hf2 h1, fun f hf => ?_⟩
            rcases D.mem_add.1 hf with rfl | h2
            · exact ⟨Nat.le_refl _, hok⟩
            · exact ⟨ht.1.2.2 f h2, ht.2 f h2⟩
        rw [← hfs]
        obtain ⟨k1, k2, k3, k4, k5⟩ := key
        have hu := used_layAt fs (D.find fs s) bs.flatten (D.find_lt k2)
        refine ⟨ht.of rfl ht.1.1.2.1 ?_ ?_ ?_ fun f hf => ?_, by omega⟩
        · show (D.layAt fs (D.find fs s) bs.flatten).length ≤ 4096
          unfold D.layAt
          simpa using k4
        · show (D.used (D.layAt fs (D.find fs s) bs.flatten) : Int) ≤ e.room
          have := ht.used
          unfold D.Dk.free at hf1
          omega
        · exact k1.of_names (D.names_modify _ _ _ fun _ => rfl)
        · rcases D.mem_modify k1 hf with ⟨h1, _⟩ | ⟨f0, h1, _, rfl⟩
          · exact k5 f h1
          · have := k5 f0 h1
            exact ⟨by simp; omega, this.2⟩

theorem syncF_each (l : List ByteArray) : ∀ fs : List Fl, (∀ f ∈ fs, f.safe ≤ f.b.length ∧ D.okName f.nm = true) → ∀ f ∈ syncF fs l, f.safe ≤ f.b.length ∧ D.okName f.nm = true := by
  induction l with
  | nil => intro fs h; exact h
  | cons s r ih =>
    intro fs h
    refine ih _ fun f hf => ?_
    have hf2 : f ∈ fs.modify (D.find fs s) (fun f => { f with safe := f.b.length }) := hf
    clear hf
    obtain ⟨j, hj, rfl⟩ := List.mem_iff_getElem.1 hf2
    have hj' : j < fs.length := by simpa using hj
    have := h _ (List.getElem_mem hj')
    rw [List.getElem_modify]
    split
    · exact ⟨Nat.le_refl _, this.2⟩
    · exact this

theorem sync_well {d : Dk} (h : Well d) (names : List ByteArray) : Well (D.sync d names).2 ∧ D.used (D.sync d names).2.fs ≤ D.used d.fs := by
  rw [sync_eq]
  split
  · exact ⟨h, Nat.le_refl _⟩
  · have ht := h.tick
    rw [show D.used d.fs = D.used d.tick.fs by rw [tick_fs]]
    generalize d.tick = e at ht
    unfold syncB
    split
    · exact ⟨ht, Nat.le_refl _⟩
    · have hl : (syncF e.fs names).length = e.fs.length := by simpa using congrArg List.length (syncF_names names e.fs)
      have hu := syncF_used names e.fs
      exact ⟨ht.of rfl ht.1.1.2.1 (by show (syncF e.fs names).length ≤ 4096; rw [hl]; exact ht.1.1.1) (by show (D.used (syncF e.fs names) : Int) ≤ _; rw [hu]; exact ht.used) (ht.1.2.1.of_names (syncF_names _ _)) (syncF_each names e.fs fun f hf => ⟨ht.1.2.2 f hf, ht.2 f hf⟩), Nat.le_of_eq hu⟩

theorem removeF_sub (l : List ByteArray) : ∀ fs : List Fl, (removeF fs l).Sublist fs := by
  induction l with
  | nil => intro fs; exact List.Sublist.refl _
  | cons s r ih => intro fs; exact (ih _).trans (List.eraseIdx_sublist ..)

theorem remove_well {d : Dk} (h : Well d) (names : List ByteArray) : Well (D.remove d names).2 ∧ D.used (D.remove d names).2.fs ≤ D.used d.fs := by
  rw [remove_eq]
  split
  · exact ⟨h, Nat.le_refl _⟩
  · have ht := h.tick
    rw [show D.used d.fs = D.used d.tick.fs by rw [tick_fs]]
    generalize d.tick = e at ht
    unfold removeB
    split
    · exact ⟨ht, Nat.le_refl _⟩
    · have hu := removeF_used names e.fs ht.1.2.1
      have hsub := removeF_sub names e.fs
      refine ⟨ht.of rfl ht.1.1.2.1 (Nat.le_trans hsub.length_le ht.1.1.1) ?_ (removeF_rising names e.fs ht.1.2.1) (fun f hf => ⟨ht.1.2.2 f (hsub.mem hf), ht.2 f (hsub.mem hf)⟩), hu⟩
      have := ht.used
      show (D.used (removeF e.fs names) : Int) ≤ _
      omega

theorem cut_well {d : Dk} (h : Well d) (s : ByteArray) (n : Int) : Well (D.cut d s n).2 ∧ D.used (D.cut d s n).2.fs ≤ D.used d.fs := by
  rw [cut_eq]
  split
  · exact ⟨h, Nat.le_refl _⟩
  · have ht := h.tick
    rw [show D.used d.fs = D.used d.tick.fs by rw [tick_fs]]
    generalize d.tick = e at ht
    unfold cutB
    cases hf : e.fs[D.find e.fs s]? with
    | none => exact ⟨ht, Nat.le_refl _⟩
    | some f =>
      simp only
      split
      · exact ⟨ht, Nat.le_refl _⟩
      · rename_i hn
        have hl : D.find e.fs s < e.fs.length := by
          rcases Nat.lt_or_ge (D.find e.fs s) e.fs.length with h1 | h1
          · exact h1
          · rw [List.getElem?_eq_none h1] at hf; cases hf
        have hu := D.used_modify e.fs (D.find e.fs s) (fun f => { f with b := f.b.take n.toNat, safe := min f.safe n.toNat }) hl
        simp only [List.length_take] at hu
        refine ⟨ht.of rfl ht.1.1.2.1 (by simpa using ht.1.1.1) ?_ (ht.1.2.1.of_names (D.names_modify _ _ _ fun _ => rfl)) fun f2 hf2 => ?_, by simp only; omega⟩
        · have := ht.used
          simp only
          omega
        · rcases D.mem_modify ht.1.2.1 hf2 with ⟨h1, _⟩ | ⟨f0, h1, _, rfl⟩
          · exact ⟨ht.1.2.2 f2 h1, ht.2 f2 h1⟩
          · have := ht.1.2.2 f0 h1
            exact ⟨by simp; omega, ht.2 f0 h1⟩

theorem rename_well {d : Dk} (h : Well d) (a b : ByteArray) : Well (D.rename d a b).2 ∧ D.used (D.rename d a b).2.fs ≤ D.used d.fs := by
  rw [rename_eq]
  split
  · exact ⟨h, Nat.le_refl _⟩
  · have ht := h.tick
    rw [show D.used d.fs = D.used d.tick.fs by rw [tick_fs]]
    generalize d.tick = e at ht
    unfold renameB
    split
    · exact ⟨ht, Nat.le_refl _⟩
    · rename_i hn
      have hok : D.okName b = true := by
        cases hb : D.okName b with
        | true => rfl
        | false => exact absurd (.inr hb) hn
      cases hf : e.fs[D.find e.fs a]? with
      | none => exact ⟨ht, Nat.le_refl _⟩
      | some f =>
        simp only
        have hl : D.find e.fs a < e.fs.length := by
          rcases Nat.lt_or_ge (D.find e.fs a) e.fs.length with h1 | h1
          · exact h1
          · rw [List.getElem?_eq_none h1] at hf; cases hf
        have hfe : e.fs[D.find e.fs a] = f := by rw [List.getElem?_eq_getElem hl] at hf; simpa using hf
        have hfm : f ∈ e.fs := by rw [← hfe]; exact List.getElem_mem _
        have hr1 := ht.1.2.1.erase (D.find e.fs a)
        have hr2 := hr1.erase (D.find (e.fs.eraseIdx (D.find e.fs a)) b)
        have hu1 := D.used_erase e.fs _ hl
        rw [hfe] at hu1
        have hu2 := bytesOf_erase hr1 b
        have hlen1 : (e.fs.eraseIdx (D.find e.fs a)).length + 1 = e.fs.length := by rw [List.length_eraseIdx, if_pos hl]; omega
        have hlen2 := List.length_eraseIdx_le (e.fs.eraseIdx (D.find e.fs a)) (D.find (e.fs.eraseIdx (D.find e.fs a)) b)
        have hu : D.used (D.add ((e.fs.eraseIdx (D.find e.fs a)).eraseIdx (D.find (e.fs.eraseIdx (D.find e.fs a)) b)) { f with nm := b }) ≤ D.used e.fs := by
          rw [D.used_add]
          simp only
          omega
        refine ⟨ht.of rfl ht.1.1.2.1 ?_ ?_ (hr2.add (x := { f with nm := b }) fun g hg => ((D.mem_erase hr1).1 hg).2) fun g hg => ?_, hu⟩
        · rw [D.length_add]
          have := ht.1.1.1
          omega
        · have := ht.used
          simp only
          omega
        · rcases D.mem_add.1 hg with rfl | h1
          · exact ⟨ht.1.2.2 f hfm, hok⟩
          · have h2 := List.mem_of_mem_eraseIdx (List.mem_of_mem_eraseIdx h1)
            exact ⟨ht.1.2.2 g h2, ht.2 g h2⟩

theorem crash_well {d : Dk} (h : Well d) (ks : List Int) : Well (D.crash d ks).2 ∧ D.used (D.crash d ks).2.fs ≤ D.used d.fs := by
  have hn := crashTo_names d.fs ks d.fs.length
  rw [crashTo_all] at hn
  have hu : ∀ n, n ≤ d.fs.length → D.used (crashTo d.fs ks n) ≤ D.used d.fs := fun n => by
    induction n with
    | zero => intro _; exact Nat.le_refl _
    | succ n ih =>
      intro hn
      have h1 := crashTo_used d.fs ks h.1.2.2 n (by omega)
      have h2 := ih (by omega)
      omega
  have hu2 := hu d.fs.length (Nat.le_refl _)
  rw [crashTo_all] at hu2
  have hl : (D.crashFs d.fs ks).length = d.fs.length := by simpa using congrArg List.length hn
  refine ⟨h.of rfl h.1.1.2.1 (by show (D.crashFs d.fs ks).length ≤ 4096; rw [hl]; exact h.1.1.1) ?_ (h.1.2.1.of_names hn) fun f hf => ?_, hu2⟩
  · have := h.used
    show (D.used (D.crashFs d.fs ks) : Int) ≤ _
    omega
  · obtain ⟨j, hj, rfl⟩ := List.mem_iff_getElem.1 hf
    have hg := crashFs_getq d.fs ks j
    have hj2 : j < d.fs.length := by rw [← hl]; exact hj
    have hj' : j < (D.crashFs d.fs ks).length := hj
    rw [List.getElem?_eq_getElem hj', List.getElem?_eq_getElem hj2] at hg
    simp only [Option.map_some, Option.some.injEq] at hg
    have hm := List.getElem_mem (l := d.fs) hj2
    have hst := stays_le (h.1.2.2 _ hm) ks[j]?
    show ((D.crashFs d.fs ks)[j]).safe ≤ ((D.crashFs d.fs ks)[j]).b.length ∧ D.okName ((D.crashFs d.fs ks)[j]).nm = true
    rw [hg]
    refine ⟨?_, show D.okName (d.fs[j]).nm = true from h.2 _ hm⟩
    unfold crashG
    simp
    omega
end Go.Proofs.YtikcdchmggdmdaaDoor.M

/- Part: HardPure. -/
namespace Go.Proofs.YtikcdchmggdmdaaDoor.M
open Go.RowKit
open D (Fl Dk)

/-- The bound of numbers in a slot. -/
def top : Nat := 4611686018427387904

/-- May a state follow another one? (A state: its term, its vote.) -/
def follows (s e : Int × Int) : Bool := decide (0 ≤ s.1 ∧ -1 ≤ s.2 ∧ (e.1 < s.1 ∨ (s.1 = e.1 ∧ (s.2 = e.2 ∨ e.2 = -1))))

/-- A count's and a state's form. -/
def stForm (c : Nat) (s : Int × Int) : List UInt8 := num c ++ (num s.1.toNat ++ num (s.2 + 1).toNat)

def four (c : Nat) : List UInt8 := [UInt8.ofNat (c / 16777216), UInt8.ofNat (c / 65536), UInt8.ofNat (c / 256), UInt8.ofNat c]

/-- A slot's bytes. -/
def slotForm (c : Nat) (s : Int × Int) : List UInt8 := four (C.sumOf (stForm c s)) ++ stForm c s

/-- Three numbers at the front. -/
def three (b : List UInt8) : Except Int ((Nat × Nat × Nat) × List UInt8) :=
  match takeNum b with
  | .error e => .error e
  | .ok (x, b1) => match takeNum b1 with
    | .error e => .error e
    | .ok (y, b2) => match takeNum b2 with
      | .error e => .error e
      | .ok (z, b3) => .ok ((x, y, z), b3)

/-- What a slot's bytes say: the count (0: they aren't whole), the state. -/
def slot (b : List UInt8) : Nat × (Int × Int) :=
  if b.length < 4 then (0, (0, 0))
  else if b.take 4 ≠ four (C.sumOf (b.drop 4)) then (0, (0, 0))
  else match three (b.drop 4) with
    | .ok ((x, y, z), []) => if x < top ∧ y < top ∧ z ≤ top then (x, ((y : Int), (z : Int) - 1)) else (0, (0, 0))
    | _ => (0, (0, 0))

def nmH0 : ByteArray := ⟨#[104, 97, 114, 100, 45, 48]⟩
def nmH1 : ByteArray := ⟨#[104, 97, 114, 100, 45, 49]⟩

/-- Which slot is the newest (2: none), its count, the state on a disk. -/
def newest (fs : List Fl) : Nat × Nat × (Int × Int) :=
  if (slot (bytesOf fs nmH0)).1 = 0 ∧ (slot (bytesOf fs nmH1)).1 = 0 then (2, 0, (0, -1))
  else if (slot (bytesOf fs nmH0)).1 < (slot (bytesOf fs nmH1)).1 then (1, (slot (bytesOf fs nmH1)).1, (slot (bytesOf fs nmH1)).2)
  else (0, (slot (bytesOf fs nmH0)).1, (slot (bytesOf fs nmH0)).2)

/-- The slot that is written next. -/
def other (at' : Nat) : ByteArray := if at' = 0 then nmH1 else nmH0

/-- A file anew: away with the old one, the bytes, safe. -/
def saveF (d : Dk) (nm : ByteArray) (b : List UInt8) : Int × Dk :=
  let r := if D.isThere d.fs nm then D.remove d [nm] else (0, d)
  if r.1 ≠ 0 then r
  else
    let a := D.append r.2 nm [b]
    if a.1 ≠ 0 then a else D.sync a.2 [nm]

def save (d : Dk) (has s : Int × Int) : Int × Dk :=
  if follows s has = false ∨ (top : Int) ≤ s.1 ∨ (top : Int) ≤ s.2 then (2, d)
  else if s = has then (0, d)
  else saveF d (other (newest d.fs).1) (slotForm ((newest d.fs).2.1 + 1) s)

theorem takeNum_more {b q : List UInt8} {n : Nat} (h : takeNum b = .ok (n, q)) (r : List UInt8) : takeNum (b ++ r) = .ok (n, q ++ r) := by
  cases b with
  | nil => simp [takeNum] at h
  | cons c b =>
    rw [takeNum] at h
    rw [List.cons_append, takeNum]
    split at h
    · cases h
    · rename_i h1
      split at h
      · cases h
      · rename_i h2
        split at h
        · cases h
        · rename_i h3
          rw [if_neg h1]
          cases h
          have hl : c.toNat ≤ b.length := by omega
          rw [if_neg, if_neg (by rw [List.length_append]; omega), List.take_append_of_le_length hl, List.drop_append_of_le_length hl]
          rintro ⟨h4, h5⟩
          apply h2
          refine ⟨h4, ?_⟩
          cases b with
          | nil => simp at hl; omega
          | cons x b => simpa using h5

theorem three_more {b q : List UInt8} {t : Nat × Nat × Nat} (h : three b = .ok (t, q)) (r : List UInt8) : three (b ++ r) = .ok (t, q ++ r) := by
  unfold three at h ⊢
  cases h1 : takeNum b with
  | error e => rw [h1] at h; cases h
  | ok p =>
    obtain ⟨x, b1⟩ := p
    rw [h1] at h
    simp only at h
    rw [takeNum_more h1 r]
    simp only
    cases h2 : takeNum b1 with
    | error e => rw [h2] at h; cases h
    | ok p =>
      obtain ⟨y, b2⟩ := p
      rw [h2] at h
      simp only at h
      rw [takeNum_more h2 r]
      simp only
      cases h3 : takeNum b2 with
      | error e => rw [h3] at h; cases h
      | ok p =>
        obtain ⟨z, b3⟩ := p
        rw [h3] at h
        simp only at h
        rw [takeNum_more h3 r]
        cases h
        rfl

theorem three_form (x y z : Nat) (r : List UInt8) (hx : x < 18446744073709551616) (hy : y < 18446744073709551616) (hz : z < 18446744073709551616) : three (num x ++ (num y ++ (num z ++ r))) = .ok ((x, y, z), r) := by
  unfold three
  rw [take_num x _ hx]
  simp only
  rw [take_num y _ hy]
  simp only
  rw [take_num z _ hz]

/-- What may stand in a slot. -/
def InSlot (c : Nat) (s : Int × Int) : Prop := c < top ∧ 0 ≤ s.1 ∧ s.1 < (top : Int) ∧ -1 ≤ s.2 ∧ s.2 < (top : Int)

theorem four_length (c : Nat) : (four c).length = 4 := rfl

theorem slotForm_length (c : Nat) (s : Int × Int) : (slotForm c s).length = (stForm c s).length + 4 := by
  unfold slotForm
  rw [List.length_append, four_length]; omega

theorem stForm_le (c : Nat) (s : Int × Int) : (stForm c s).length ≤ 27 := by
  unfold stForm
  have h1 := num_le c
  have h2 := num_le s.1.toNat
  have h3 := num_le (s.2 + 1).toNat
  simp only [List.length_append]
  omega

theorem slotForm_le (c : Nat) (s : Int × Int) : (slotForm c s).length ≤ 31 := by
  have := stForm_le c s
  rw [slotForm_length]; omega

theorem three_st {c : Nat} {s : Int × Int} (h : InSlot c s) : three (stForm c s) = .ok ((c, s.1.toNat, (s.2 + 1).toNat), []) := by
  unfold InSlot top at h
  have := three_form c s.1.toNat (s.2 + 1).toNat [] (by omega) (by omega) (by omega)
  rw [List.append_nil] at this
  exact this

theorem slot_back {c : Nat} {s : Int × Int} (h : InSlot c s) : slot (slotForm c s) = (c, s) := by
  have ht := three_st h
  unfold InSlot at h
  have e4 : (slotForm c s).drop 4 = stForm c s := by
    unfold slotForm
    exact List.drop_left' rfl
  have e5 : (slotForm c s).take 4 = four (C.sumOf (stForm c s)) := by
    unfold slotForm
    exact List.take_left' rfl
  have hl := slotForm_length c s
  unfold slot
  rw [if_neg (by omega), e4, e5, if_neg (by simp), ht]
  simp only
  rw [if_pos (by unfold top at *; omega)]
  obtain ⟨t, v⟩ := s
  simp only at h ⊢
  congr 2
  · omega
  · omega

/-- A beginning of a slot's bytes is not whole. -/
theorem slot_cut {c : Nat} {s : Int × Int} (h : InSlot c s) {m : Nat} (hm : m < (slotForm c s).length) : (slot ((slotForm c s).take m)).1 = 0 := by
  have hl := slotForm_length c s
  have e0 : ((slotForm c s).take m).length = m := by rw [List.length_take]; omega
  unfold slot
  by_cases h4 : m < 4
  · rw [if_pos (by rw [e0]; exact h4)]
  · rw [if_neg (by rw [e0]; exact h4)]
    split
    · rfl
    · have e4 : ((slotForm c s).take m).drop 4 = (stForm c s).take (m - 4) := by
        unfold slotForm
        rw [List.take_append, four_length, List.take_of_length_le (by rw [four_length]; omega)]
        exact List.drop_left' rfl
      rw [e4]
      cases h3 : three ((stForm c s).take (m - 4)) with
      | error e => rfl
      | ok p =>
        obtain ⟨⟨x, y, z⟩, q⟩ := p
        cases q with
        | cons a q => rfl
        | nil =>
          exfalso
          have h5 := three_more h3 ((stForm c s).drop (m - 4))
          rw [List.take_append_drop, three_st h] at h5
          simp only [Except.ok.injEq, Prod.mk.injEq, List.nil_append] at h5
          have := congrArg List.length h5.2
          rw [List.length_drop] at this
          simp at this
          omega
end Go.Proofs.YtikcdchmggdmdaaDoor.M

/- Part: SumStep. -/
namespace Go.Proofs.YtikcdchmggdmdaaDoor.M
open Go.RowKit

theorem and_one (r : Nat) : r &&& 1 = r % 2 := Nat.and_one_is_mod r

theorem u32_and1 (r : Nat) (hr : r < 4294967296) : bits .and .u32 (r : Int) 1 = ((r % 2 : Nat) : Int) := by
  have := u32_and_nat r 1 hr (by decide)
  rw [and_one] at this
  exact this

theorem u32_x (a b : Nat) (ha : a < 4294967296) (hb : b < 4294967296) : bits .xor .u32 (a : Int) (b : Int) = ((a ^^^ b : Nat) : Int) := u32_xor_nat a b ha hb

theorem or_one {x : Nat} (h : x % 2 = 0) : x ||| 1 = x + 1 := by
  have := Nat.two_pow_add_eq_or_of_lt (i := 1) (b := 1) (by decide) (x / 2)
  rw [show 2 ^ 1 * (x / 2) = x from by omega] at this
  exact this.symm

/-- A step back. -/
def bnd (r : Nat) : Nat := if r / 2147483648 = 1 then (2 * (r ^^^ C.poly)) % 4294967296 + 1 else 2 * r

theorem bnd_lt {r : Nat} (h : r < 4294967296) : bnd r < 4294967296 := by
  unfold bnd; split <;> omega

theorem rnd_bnd {r : Nat} (h : r < 4294967296) : C.rnd (bnd r) = r := by
  unfold bnd
  split
  · rename_i h1
    have h2 : (r ^^^ C.poly) < 2147483648 := by
      have e : r ^^^ C.poly = (r - 2147483648) ^^^ (C.poly - 2147483648) := by
        have a1 : r = (r - 2147483648) ^^^ 2147483648 := by
          have := Nat.two_pow_add_eq_or_of_lt (i := 31) (b := r - 2147483648) (by omega) 1
          have h3 : (r - 2147483648) ^^^ 2147483648 = 2 ^ 31 * 1 ||| (r - 2147483648) := by
            apply Nat.eq_of_testBit_eq
            intro i
            rw [Nat.testBit_or, Nat.testBit_xor, show (2147483648 : Nat) = 2 ^ 31 from rfl, Nat.mul_one, Nat.testBit_two_pow]
            by_cases hi : i = 31
            · subst hi
              rw [Nat.testBit_lt_two_pow (by omega)]
              simp
            · simp [show ¬ 31 = i from fun e => hi e.symm]
          rw [h3, ← this]; omega
        have a2 : C.poly = (C.poly - 2147483648) ^^^ 2147483648 := by decide
        rw [show r ^^^ C.poly = ((r - 2147483648) ^^^ 2147483648) ^^^ ((C.poly - 2147483648) ^^^ 2147483648) from by rw [← a1, ← a2], C.xor_swap, Nat.xor_self, Nat.xor_zero]
      rw [e]
      exact Nat.xor_lt_two_pow (n := 31) (by omega) (by decide)
    unfold C.rnd
    rw [if_pos (by omega), show ((2 * (r ^^^ C.poly)) % 4294967296 + 1) / 2 = r ^^^ C.poly from by omega, Nat.xor_assoc, Nat.xor_self, Nat.xor_zero]
  · unfold C.rnd
    rw [if_neg (by omega)]
    omega

end Go.Proofs.YtikcdchmggdmdaaDoor.M

/- Part: SumFeed. -/
namespace Go.Proofs.YtikcdchmggdmdaaDoor.M
open Go.RowKit

def nibT : List Nat := [0, 274646895, 549293790, 820201905, 1098587580, 1361435347, 1640403810, 1905808397, 2197175160, 2460548119, 2722870694, 2987750089, 3280807620, 3553878443, 3811616794, 4084100981]

/-- The table lies in the program's variable. -/
def Tab (w : World) : Prop := 0 < w.heap.size ∧ ∀ k, k < 16 → w.cell? ⟨0, k, none⟩ = some (.int .u32 (nibT.getD k 0 : Nat))

theorem Tab.next {w w' : World} (h : Tab w) (hb : Below w.heap.size w w') : Tab w' :=
  ⟨Nat.lt_of_lt_of_le h.1 hb.size, fun k hk => (hb.cell (p := ⟨0, k, none⟩) h.1).trans (h.2 k hk)⟩

theorem nib_eq : ∀ k : Fin 16, nibT.getD k.1 0 = C.rnds 4 k.1 := by decide

theorem nib_step {x : Nat} (h : x < 4294967296) : x / 16 ^^^ nibT.getD (x % 16) 0 = C.rnds 4 x := by
  rw [nib_eq ⟨x % 16, by omega⟩]
  have e : x = (2 ^ 4 * (x / 16)) ^^^ (x % 16) := by
    have h1 := C.low_high' (x % 16) (x / 16) (by omega)
    rw [Nat.xor_comm, ← h1]; omega
  conv => rhs; rw [e]
  rw [C.rnds_xor, C.rnds_shift]

theorem lead_snoc (r : Nat) (l : List UInt8) (k : Nat) (h : k < l.length) : C.lead r (l.take (k + 1)) = C.step (C.lead r (l.take k)) l[k] := by
  rw [List.take_succ_eq_append_getElem h, C.lead_append]
  rfl

theorem and15 (x : Nat) (h : x < 4294967296) : bits .and .u32 (x : Int) 15 = ((x % 16 : Nat) : Int) := by
  have := u32_and_nat x 15 h (by decide)
  rw [show x &&& 15 = x % 16 from Nat.and_two_pow_sub_one_eq_mod x 4] at this
  exact this

set_option maxRecDepth 20000 in
set_option maxHeartbeats 800000 in
theorem feed_any (r : Nat) (L : List UInt8) (F : Nat → Prop) (v : Value) (w : World) (hr : Hid (r < 4294967296)) (hv : RepB w F L v) (ht : Hid (Tab w)) :
    Calls Tryd.prog 75 #[.int .u32 (r : Int), v] w fun e w' => e = .returned (.int .u32 (C.lead r L : Int)) ∧ w = w' := by
  obtain ⟨a, c, rfl, hl⟩ := hv.slice
  have HV := Lib.hid hv
  clear hv
  go_enter Tryd.func75, Tryd.ntmps75
  go_wp2_with fail
  go_loop [0, 9] (fun x i => ∃ (k : Nat), k ≤ L.length ∧ x = .int .u32 (C.lead r (L.take k) : Int) ∧ i = .int .i64 (k : Int)) (fun _ i => L.length - (intOf i).toNat)
  case atStart => exact ⟨0, Nat.zero_le _, rfl, rfl⟩
  case round =>
    obtain ⟨k, hk, rfl, rfl⟩ := hrel
    by_cases hlt : k < L.length
    · have HS := Lib.hid (lead_snoc r L k hlt)
      have hR : C.lead r (L.take k) < 4294967296 := C.lead_lt _ hr.out
      generalize hRe : C.lead r (L.take k) = R at *
      have hcell : ∃ b off, a = some ⟨b, off, none⟩ ∧ w.cell? ⟨b, off + k, none⟩ = some (.int .u8 (L[k].toNat : Int)) := by
        rcases HV.out with ⟨h, _⟩ | ⟨b, off, c', h, _, _, _, hc⟩
        · rw [h] at hlt; simp at hlt
        · cases h
          exact ⟨b, off, rfl, hc k hlt⟩
      obtain ⟨b, off, rfl, hcell⟩ := hcell
      generalize hbe : L[k] = x at *
      have hkk : (k : Int) < (L.length : Int) := by omega
      have hx := x.toNat_lt
      have hX1 : (R ^^^ x.toNat) < 4294967296 := Nat.xor_lt_two_pow (n := 32) hR (by omega)
      have hX2 : C.rnds 4 (R ^^^ x.toNat) < 4294967296 := C.rnds_lt 4 hX1
      have e1 : bits .xor .u32 (R : Int) (x.toNat : Int) = ((R ^^^ x.toNat : Nat) : Int) := u32_x _ _ hR (by omega)
      have HST : Hid (C.step R x = C.rnds 4 (C.rnds 4 (R ^^^ x.toNat))) := Lib.hid (C.rnds_add 4 4 (R ^^^ x.toNat))
      generalize hXe : R ^^^ x.toNat = X at *
      have e2 := and15 X hX1
      have e3 : bits .xor .u32 ((X : Int) / 16) ((nibT.getD (X % 16) 0 : Nat) : Int) = ((C.rnds 4 X : Nat) : Int) := by
        have := u32_x (X / 16) (nibT.getD (X % 16) 0) (by omega) (by rw [nib_eq ⟨X % 16, by omega⟩]; exact C.rnds_lt 4 (by show X % 16 < _; omega))
        rw [nib_step hX1] at this
        rw [← this]; simp
      have t1 := ht.out.2 (X % 16) (by omega)
      generalize hYe : C.rnds 4 X = Y at *
      have f2 := and15 Y hX2
      have f3 : bits .xor .u32 ((Y : Int) / 16) ((nibT.getD (Y % 16) 0 : Nat) : Int) = ((C.rnds 4 Y : Nat) : Int) := by
        have := u32_x (Y / 16) (nibT.getD (Y % 16) 0) (by omega) (by rw [nib_eq ⟨Y % 16, by omega⟩]; exact C.rnds_lt 4 (by show Y % 16 < _; omega))
        rw [nib_step hX2] at this
        rw [← this]; simp
      have t2 := ht.out.2 (Y % 16) (by omega)
      have hi1 : X % 16 < 16 := by omega
      have hi2 : Y % 16 < 16 := by omega
      generalize hi1e : X % 16 = i1 at *
      generalize hi2e : Y % 16 = i2 at *
      generalize nibT.getD i1 0 = n1 at *
      generalize nibT.getD i2 0 = n2 at *
      have GRe := Lib.hid hRe
      have Gbe := Lib.hid hbe
      have GXe := Lib.hid hXe
      have GYe := Lib.hid hYe
      have Gi1e := Lib.hid hi1e
      have Gi2e := Lib.hid hi2e
      clear hRe hbe hXe hYe hi1e hi2e
      go_wp2_with fail
      go_round
      case rel => exact ⟨k + 1, by omega, by rw [HS.out, HST.out], by go_num⟩
      case measure => simp [intOf]; omega
    · have hkk : ¬ (k : Int) < (L.length : Int) := by omega
      have HL : Hid (L.take k = L) := Lib.hid (List.take_of_length_le (by omega))
      go_wp2_with fail
      go_ret
      exact ⟨by simp [HL.out], rfl⟩
end Go.Proofs.YtikcdchmggdmdaaDoor.M

/- Part: SumMore. -/
namespace Go.Proofs.YtikcdchmggdmdaaDoor.M
open Go.RowKit

/-- The register that stands for a sum, and back. -/
def inv (r : Nat) : Nat := 4294967295 - r

theorem inv_xor {r : Nat} (h : r < 4294967296) : r ^^^ C.ones = inv r := by
  unfold inv
  apply Nat.eq_of_testBit_eq
  intro i
  rw [show 4294967295 - r = 2 ^ 32 - (r + 1) from by omega, Nat.testBit_two_pow_sub_succ h, Nat.testBit_xor, show C.ones = 2 ^ 32 - 1 from rfl, Nat.testBit_two_pow_sub_one]
  by_cases hi : i < 32
  · simp [hi]
  · rw [Nat.testBit_lt_two_pow (Nat.lt_of_lt_of_le h (show 2 ^ 32 ≤ 2 ^ i from Nat.pow_le_pow_right (by omega) (by omega)))]
    simp [hi]

theorem inv_lt (r : Nat) : inv r < 4294967296 := by unfold inv; omega

theorem inv_inv {r : Nat} (h : r < 4294967296) : inv (inv r) = r := by unfold inv; omega

theorem u32_not (r : Nat) (h : r < 4294967296) : bits .xor .u32 IntKind.u32.max (r : Int) = (inv r : Int) := by
  have := u32_x 4294967295 r (by decide) h
  rw [Nat.xor_comm, show (4294967295 : Nat) = C.ones from rfl, inv_xor h] at this
  exact this

def moreOf (s : Nat) (l : List UInt8) : Nat := inv (C.lead (inv s) l)

set_option maxRecDepth 20000 in
set_option maxHeartbeats 800000 in
theorem More_any (s : Nat) (ls : List (List UInt8)) (F : Nat → Prop) (v : Value) (w : World) (hs : Hid (s < 4294967296)) (hv : RepBl w F ls v) (ht : Hid (Tab w)) :
    Calls Tryd.prog 65 #[.int .u32 (s : Int), v] w fun e w' => e = .returned (.int .u32 (moreOf s ls.flatten : Int)) ∧ w = w' := by
  obtain ⟨a, c, rfl, hl⟩ := hv.slice
  have HV := Lib.hid hv
  clear hv
  have e1 := u32_not s hs.out
  go_enter Tryd.func65, Tryd.ntmps65
  go_wp2_with fail
  clear e1
  go_loop [5, 12] (fun x i => ∃ (k : Nat), k ≤ ls.length ∧ x = .int .u32 (C.lead (inv s) (ls.take k).flatten : Int) ∧ i = .int .i64 (k : Int)) (fun _ i => ls.length - (intOf i).toNat)
  case atStart => exact ⟨0, Nat.zero_le _, rfl, rfl⟩
  case round =>
    obtain ⟨k, hk, rfl, rfl⟩ := hrel
    have hR : C.lead (inv s) (ls.take k).flatten < 4294967296 := C.lead_lt _ (inv_lt s)
    by_cases hlt : k < ls.length
    · have HS : Hid (C.lead (inv s) (ls.take (k + 1)).flatten = C.lead (C.lead (inv s) (ls.take k).flatten) ls[k]) := Lib.hid (by rw [flat_snoc ls k hlt, C.lead_append])
      obtain ⟨b, off, u, rfl, -, hcell, hu⟩ := HV.out.elem k hlt
      have hkk : (k : Int) < (ls.length : Int) := by omega
      generalize hRe : C.lead (inv s) (ls.take k).flatten = R at *
      generalize hxe : ls[k] = x at *
      have HU := Lib.hid hu
      have HR := Lib.hid hR
      have GR := Lib.hid hRe
      have GX := Lib.hid hxe
      clear hu hRe hxe hR
      go_wp2_with (go_at_call 75; refine (feed_any R x F _ _ HR HU.out ht).mono ?_; rintro e w' ⟨rfl, rfl⟩)
      go_round
      case rel => exact ⟨k + 1, by omega, by rw [HS.out], by go_num⟩
      case measure => simp [intOf]; omega
    · have hkk : ¬ (k : Int) < (ls.length : Int) := by omega
      have HL : Hid (C.lead (inv s) (ls.take k).flatten = C.lead (inv s) ls.flatten) := Lib.hid (by rw [List.take_of_length_le (by omega)])
      have e2 := u32_not _ hR
      rw [HL.out] at e2
      rw [HL.out]
      go_wp2_with fail
      go_ret
      exact ⟨rfl, rfl⟩

theorem sum_more (l : List UInt8) : moreOf 0 l = C.sumOf l := by
  unfold moreOf C.sumOf
  rw [inv_xor (C.lead_lt _ (by decide))]
  rfl

theorem sum_lt (l : List UInt8) : C.sumOf l < 4294967296 := C.sumOf_lt l

theorem more_sum (a b : List UInt8) : moreOf (C.sumOf a) b = C.sumOf (a ++ b) := by
  unfold moreOf
  have h : inv (C.sumOf a) = C.lead C.ones a := by
    unfold C.sumOf
    rw [inv_xor (C.lead_lt _ (by decide)), inv_inv (C.lead_lt _ (by decide))]
  rw [h, ← C.lead_append, ← inv_xor (C.lead_lt _ (by decide))]
  rfl

theorem Of_any (ls : List (List UInt8)) (F : Nat → Prop) (v : Value) (w : World) (hv : RepBl w F ls v) (ht : Hid (Tab w)) :
    Calls Tryd.prog 47 #[v] w fun e w' => e = .returned (.int .u32 (C.sumOf ls.flatten : Int)) ∧ w = w' := by
  go_enter Tryd.func47, Tryd.ntmps47
  go_wp2_with (go_at_call 65; refine (More_any 0 ls F _ _ (Lib.hid (by decide)) hv ht).mono ?_; rintro e w' ⟨rfl, rfl⟩)
  go_ret
  exact ⟨by simp [sum_more], rfl⟩

theorem int_beq (a b : Nat) : ((a : Int) == (b : Int)) = decide (a = b) := by
  rw [Bool.eq_iff_iff]; simp; omega

end Go.Proofs.YtikcdchmggdmdaaDoor.M

/- Part: PHard2. -/
namespace Go.Proofs.YtikcdchmggdmdaaDoor.M
open Go.RowKit

theorem RepB.elem2 {w : World} {F : Nat → Prop} {L : List UInt8} {a : Option Addr} {n c : Nat} (h : RepB w F L (.slice a n c)) {i : Nat} (hi : i < L.length) :
    ∃ b off, a = some ⟨b, off, none⟩ ∧ F b ∧ ∀ (j : Nat) (hj : j < L.length), w.cell? ⟨b, off + j, none⟩ = some (.int .u8 (L[j].toNat : Int)) := by
  rcases h with ⟨h, _⟩ | ⟨b, off, c', h, hb, _, _, hc⟩
  · rw [h] at hi; simp at hi
  · cases h
    exact ⟨b, off, rfl, hb, hc⟩

/-- A sum's four bytes as a value. -/
def fourV (cs : Nat) : Value := .agg #[.int .u8 ((cs : Int) / 16777216), .int .u8 ((cs : Int) / 65536 % 256), .int .u8 ((cs : Int) / 256 % 256), .int .u8 ((cs : Int) % 256)]

set_option maxRecDepth 20000 in
set_option maxHeartbeats 1600000 in
theorem sumOf_any (L : List UInt8) (F : Nat → Prop) (v : Value) (w : World) (hv : RepB w F L v) (hF : ∀ k, F k → k < w.heap.size) (ht : Hid (Tab w)) :
    Calls Tryd.prog 31 #[v] w fun r w' => r = .returned (fourV (C.sumOf L)) ∧ Below w.heap.size w w' := by
  obtain ⟨va, vc, rfl, hl⟩ := hv.slice
  have HV := Lib.hid hv
  have HF := Lib.hid hF
  clear hv hF
  have hcs : C.sumOf L < 4294967296 := C.sumOf_lt L
  go_enter Tryd.func31, Tryd.ntmps31
  go_wp2_with fail
  have hu : RepB (w.alloc (.cells #[.int .u8 0, .int .u8 0, .int .u8 0, .int .u8 0] 74)) (fun k => k < w.heap.size) L (.slice va L.length vc) := HV.out.same HF.out fun k hk => Below.heap_alloc _ _ _ (HF.out k hk)
  refine (Of_any [L] _ _ _ (RepBl.one hu (by simp) (fun k hk => by simp; omega)) (Lib.hid (ht.out.next ((below_alloc _ _).trans ((below_alloc _ _).mono (by simp)))))).mono ?_
  rintro e w1 ⟨rfl, rfl⟩
  rw [show [L].flatten = L by simp]
  obtain ⟨cs, hcs2⟩ : ∃ cs, cs = C.sumOf L := ⟨_, rfl⟩
  rw [← hcs2] at hcs ⊢
  have HCS := Lib.hid hcs2
  clear hu hcs2
  go_wp2_with fail
  refine bodyPost_ret (v := fourV cs) (by simp [results, Tryd.results31, go_sem]; rfl) rfl ?_
  refine ⟨by rw [← HCS.out], ?_⟩
  exact (below_alloc _ _).trans ((below_alloc _ _).mono (by simp))

def slotV (c : Nat) (s : Int × Int) : Value := .agg #[.int .i64 (c : Int), .int .i64 s.1, .int .i64 s.2]

def nmRow : ByteArray := ⟨#[91, 110, 110, 110, 93]⟩

theorem shape_row : shape nmRow.data.toList = some (.row [.num, .num, .num]) := by kernel_rfl

def rowOf (c t v : Nat) : V := .mk 0 [] [.mk c [] [], .mk t [] [], .mk v [] []]

theorem put_row (c t v : Nat) : putAll nmRow.data.toList [rowOf c t v] = .ok (num c ++ (num t ++ num v)) := by
  unfold putAll
  rw [shape_row]
  simp only
  rw [if_pos (by simp [rowOf, isV, isVs, V.l])]
  simp [rowOf, putV, putVs, V.l, V.n]

theorem rep_row {w : World} {c t v : Nat} {g : Nat} (hg : g = w.heap.size) (hc : c < 18446744073709551616) (ht : t < 18446744073709551616) (hv : v < 18446744073709551616) {T1 T2 : TypeId} :
    RepVl ((w.alloc (.cells #[.int .u64 (c : Int), .slice none 0 0, .slice none 0 0, .int .u64 (t : Int), .slice none 0 0, .slice none 0 0, .int .u64 (v : Int), .slice none 0 0, .slice none 0 0] T1)).alloc
      (.cells #[.int .u64 0, .slice none 0 0, .slice (some ⟨g, 0, none⟩) 3 3] T2)) (fun k => g ≤ k ∧ k < g + 2) [rowOf c t v] (.slice (some ⟨g + 1, 0, none⟩) 1 1) := by
  subst hg
  obtain ⟨W, hW⟩ : ∃ W, W = (w.alloc (.cells #[.int .u64 (c : Int), .slice none 0 0, .slice none 0 0, .int .u64 (t : Int), .slice none 0 0, .slice none 0 0, .int .u64 (v : Int), .slice none 0 0, .slice none 0 0] T1)).alloc
      (.cells #[.int .u64 0, .slice none 0 0, .slice (some ⟨w.heap.size, 0, none⟩) 3 3] T2) := ⟨_, rfl⟩
  have b0 : W.heap[w.heap.size]? = some (.cells #[.int .u64 (c : Int), .slice none 0 0, .slice none 0 0, .int .u64 (t : Int), .slice none 0 0, .slice none 0 0, .int .u64 (v : Int), .slice none 0 0, .slice none 0 0] T1) := by
    rw [hW]; exact old_alloc (heap_new w _ _ rfl)
  have b1 : W.heap[w.heap.size + 1]? = some (.cells #[.int .u64 0, .slice none 0 0, .slice (some ⟨w.heap.size, 0, none⟩) 3 3] T2) := by
    rw [hW]; exact heap_new _ _ _ (by simp)
  rw [← hW]
  clear hW
  have c0 := fun j => cell_of_row W w.heap.size j _ T1 _ b0
  have c1 := fun j => cell_of_row W (w.heap.size + 1) j _ T2 _ b1
  have one : ∀ n : Nat, n < 18446744073709551616 → RepV W (fun k => w.heap.size ≤ k ∧ k < w.heap.size + 2) (.mk n [] []) (.agg #[.int .u64 (n : Int), .slice none 0 0, .slice none 0 0]) := fun n hn =>
    RepV_mk.2 ⟨_, _, rfl, hn, .inl ⟨rfl, Bare.nil⟩, .inl ⟨rfl, Bare.nil⟩⟩
  refine .inr ⟨w.heap.size + 1, 0, 1, rfl, ⟨by omega, by omega⟩, Nat.le_refl _, by omega, ?_⟩
  refine RepVs.of _ fun i hi => ?_
  obtain rfl : i = 0 := by simpa using hi
  refine ⟨.agg #[.int .u64 0, .slice none 0 0, .slice (some ⟨w.heap.size, 0, none⟩) 3 3], ⟨_, _, _, rfl, c1 0, c1 1, c1 2⟩, ?_⟩
  refine RepV_mk.2 ⟨.slice none 0 0, .slice (some ⟨w.heap.size, 0, none⟩) 3 3, rfl, by omega, .inl ⟨rfl, Bare.nil⟩, .inr ⟨w.heap.size, 0, 3, rfl, ⟨by omega, by omega⟩, Nat.le_refl _, by omega, ?_⟩⟩
  refine RepVs.of _ fun i hi => ?_
  match i, hi with
  | 0, _ => exact ⟨_, ⟨_, _, _, rfl, c0 0, c0 1, c0 2⟩, one c hc⟩
  | 1, _ => exact ⟨_, ⟨_, _, _, rfl, c0 3, c0 4, c0 5⟩, one t ht⟩
  | 2, _ => exact ⟨_, ⟨_, _, _, rfl, c0 6, c0 7, c0 8⟩, one v hv⟩

theorem row_size (c t v : Nat) : vsizes [rowOf c t v] ≤ 1099511627776 := by
  simp [vsizes, vsize, rowOf]

set_option maxRecDepth 20000 in
set_option maxHeartbeats 1600000 in
theorem bytes_any (c t v : Nat) (w : World) (hc : c ≤ 4611686018427387904) (ht : t < 4611686018427387904) (hv : v ≤ 4611686018427387904) (hT : Hid (Tab w)) :
    Calls Tryd.prog 26 #[.agg #[.int .i64 (c : Int), .int .i64 (t : Int), .int .i64 ((v : Int) - 1)]] w fun e w' => ∃ u, e = .returned u ∧ Own w (slotForm c ((t : Int), (v : Int) - 1)) u w' := by
  go_enter Tryd.func26, Tryd.ntmps26
  go_wp2_with fail
  refine (Put_any nmRow _ _ _ _ (by decide) (rep_row (c := c) (t := t) (v := v) (by simp) (by omega) (by omega) (by omega)) (fun k hk => by simp at hk ⊢; omega) (row_size _ _ _)).mono ?_
  rintro e w1 ⟨hb, hr⟩
  rw [put_row] at hr
  obtain ⟨u, rfl, hu⟩ := hr
  have HB1 : Hid (Below w.heap.size w w1) := Lib.hid ((below_alloc _ _).trans (((below_alloc _ _).trans (((below_alloc _ _).trans (hb.mono (by simp))).mono (by simp))).mono (by simp)))
  have HU : Hid (RepB w1 (fun k => k < w1.heap.size) (num c ++ (num t ++ num v)) u) := Lib.hid ((RepB.of_own hu).weak fun k hk => hk.2)
  obtain ⟨L, hL⟩ : ∃ L, L = num c ++ (num t ++ num v) := ⟨_, rfl⟩
  rw [← hL] at HU
  have HL := Lib.hid hL
  have hlen : 3 ≤ L.length ∧ L.length ≤ 27 := by
    rw [hL]
    have h1 := num_le c
    have h2 := num_le t
    have h3 := num_le v
    simp only [List.length_append]
    simp only [num, List.length_cons] at h1 h2 h3 ⊢
    omega
  have hcs : C.sumOf L < 4294967296 := C.sumOf_lt L
  obtain ⟨ub, uo, uc, rfl⟩ : ∃ ub uo uc, u = .slice (some ⟨ub, uo, none⟩) L.length uc := by
    rcases HU.out with ⟨h, -⟩ | ⟨b, off, c', h, -⟩
    · rw [h] at hlen; simp at hlen
    · exact ⟨_, _, _, h⟩
  clear hb hu hL
  go_wp2_with fail
  refine (sumOf_any L _ _ w1 HU.out (fun _ h => h) (Lib.hid (hT.out.next HB1.out))).mono ?_
  rintro e w2 ⟨rfl, hb2⟩
  obtain ⟨cs, hcs2⟩ : ∃ cs, cs = C.sumOf L := ⟨_, rfl⟩
  rw [← hcs2] at hcs ⊢
  have HCS := Lib.hid hcs2
  have HB2 : Hid (Below w.heap.size w w2) := Lib.hid (HB1.out.trans (hb2.mono HB1.out.size))
  have HU2 : Hid (RepB w2 (fun k => k < w2.heap.size) L (.slice (some ⟨ub, uo, none⟩) L.length uc)) := Lib.hid (HU.out.same (fun k hk => Nat.lt_of_lt_of_le hk hb2.size) fun k hk => hb2.block k hk)
  clear hcs2 hb2
  unfold fourV
  obtain ⟨ib, hib, hib0, hib1, hib2⟩ := info_parts infoByte
  go_wp2_with (at_builtin; refine wpList_append_grows _ rfl (.tmp 30) (.tmp 31) 65 rfl 5 ib (.int .u8 0) 1 1 Tryd.underlying65 hib hib0 hib1 hib2 rfl (by decide) (some ⟨w2.heap.size, 0, none⟩) 4 4 [.int .u8 ((cs : Int) / 16777216), .int .u8 ((cs : Int) / 65536 % 256), .int .u8 ((cs : Int) / 256 % 256), .int .u8 ((cs : Int) % 256)] rfl (fun h => by cases h) rfl ?c1 ⟨ub, uo, none⟩ L.length uc (L.map byteV) rfl ?c2 ?c3 ?c4 ?c5 ?c6 ?c7 ?_)
  case c1 => 
    intro b hb j u hj
    cases hb
    have h := cell_of_row _ w2.heap.size j _ 74 _ (heap_alloc_new w2 (.cells #[.int .u8 ((cs : Int) / 16777216), .int .u8 ((cs : Int) / 65536 % 256), .int .u8 ((cs : Int) / 256 % 256), .int .u8 ((cs : Int) % 256)] 74))
    rw [addr_add, Nat.zero_add, h]
    simpa using hj
  case c2 => simp
  case c3 =>
    intro j u hj
    rw [List.getElem?_map] at hj
    cases he : L[j]? with
    | none => rw [he] at hj; cases hj
    | some x =>
      rw [he] at hj
      cases hj
      obtain ⟨hjl, rfl⟩ := List.getElem?_eq_some_iff.1 he
      obtain ⟨b, off, h1, hF, h2⟩ := RepB.elem2 HU2.out hjl
      cases h1
      have := h2 j hjl
      rw [addr_add]
      exact ((below_alloc w2 _).cell (p := ⟨ub, uo + j, none⟩) hF).trans this
  case c4 =>
    intro u hu
    obtain ⟨x, -, rfl⟩ := List.mem_map.1 hu
    rfl
  case c5 => omega
  case c6 => unfold maxLen; omega
  case c7 => omega
  intro v' w' hown hgr
  have HO : Hid (Own w (slotForm c ((t : Int), (v : Int) - 1)) v' w') := Lib.hid (by
    have e : (slotForm c ((t : Int), (v : Int) - 1)) = four cs ++ L := by
      unfold slotForm stForm
      simp only [Int.toNat_natCast, show ((v : Int) - 1 + 1).toNat = v by omega]
      rw [← HL.out, ← HCS.out]
    rw [e]
    have e4 : (four cs).map byteV = [.int .u8 ((cs : Int) / 16777216), .int .u8 ((cs : Int) / 65536 % 256), .int .u8 ((cs : Int) / 256 % 256), .int .u8 ((cs : Int) % 256)] := by
      unfold four
      simp only [List.map_cons, List.map_nil, byteV, UInt8.toNat_ofNat']
      congr 2 <;> omega
    have hz := HB2.out.size
    have hg2 := hgr.size
    simp only [World.size_alloc] at hg2
    refine ⟨⟨hgr.os.trans HB2.out.os, hgr.tape.trans HB2.out.tape, hgr.output.trans HB2.out.output, by omega, fun k hk => ?_⟩, ?_⟩
    · rw [hgr.block k (by simp; omega) (by simp), Below.heap_alloc _ _ _ (by omega)]
      exact HB2.out.block k hk
    · rw [List.length_append, List.map_append, e4, four_length]
      refine ⟨?_, ?_⟩
      · exact hown.1
      · rcases hown.2 with h1 | ⟨g, cap, cur, h1, h2, h3⟩
        · exact .inl h1
        · exact .inr ⟨g, cap, cur, h1, by omega, h3⟩)
  clear hown hgr
  go_wp2_with fail
  go_ret
  exact ⟨_, rfl, HO.out⟩
end Go.Proofs.YtikcdchmggdmdaaDoor.M

/- Part: DiskLaw. -/
namespace Go.Proofs.YtikcdchmggdmdaaDoor.M
open Go.RowKit Go.Maps
open D (Fl Dk)

/-- A disk that a call has made, since the world w. -/
structure DS (w : World) (X : Nat → Prop) (gd : Nat) (d : Dk) (wr : World) : Prop where
  below : Below w.heap.size w wr
  own : ∀ k, X k → w.heap.size ≤ k
  dsk : PDskIn wr X gd d
  well : Well d

theorem PDskIn.next {w w' : World} {X : Nat → Prop} {gd : Nat} {d : Dk} (h : PDskIn w X gd d) (hb : Below w.heap.size w w') : PDskIn w' X gd d := ⟨h.1.same (fun _ h => h) fun k hk => hb.block k (h.2 k hk), fun k hk => Nat.lt_of_lt_of_le (h.2 k hk) hb.size⟩

theorem DS.next {w wr w' : World} {X : Nat → Prop} {gd : Nat} {d : Dk} (h : DS w X gd d wr) (hb : Below wr.heap.size wr w') : DS w X gd d w' :=
  ⟨h.below.trans (hb.mono h.below.size), h.own, h.dsk.next hb, h.well⟩

theorem DS.alloc {w wr : World} {X : Nat → Prop} {gd : Nat} {d : Dk} (h : DS w X gd d wr) (o : Obj) : DS w X gd d (wr.alloc o) := h.next (below_alloc _ _)

theorem DS.lt {w wr : World} {X : Nat → Prop} {gd : Nat} {d : Dk} (h : DS w X gd d wr) : ∀ k, X k → k < wr.heap.size := h.dsk.2

/-- Behind a call on it. -/
theorem DS.call {w wr w' : World} {X : Nat → Prop} {gd : Nat} {d : Dk} {r : Int × Dk} {e : Ending} (h : DS w X gd d wr) (hp : PPost wr X gd r e w') (hw : Well r.2) : DS w (More X wr w') gd r.2 w' := by
  obtain ⟨-, ho, hd⟩ := hp
  refine ⟨⟨ho.os.trans h.below.os, ho.tape.trans h.below.tape, ho.output.trans h.below.output, Nat.le_trans h.below.size ho.size, fun k hk => ?_⟩, fun k hk => ?_, ⟨hd, fun k hk => ?_⟩, hw⟩
  · rw [ho.block k (Nat.lt_of_lt_of_le hk h.below.size) fun hx => by have := h.own k hx; omega]
    exact h.below.block k hk
  · rcases hk with hk | hk
    · exact h.own k hk
    · exact Nat.le_trans h.below.size hk.1
  · rcases hk with hk | hk
    · exact Nat.lt_of_lt_of_le (h.lt k hk) ho.size
    · exact hk.2

/-- What a call on it leaves. -/
def DPost (w : World) (X : Nat → Prop) (gd : Nat) (wr : World) (r : Int × Dk) (e : Ending) (w' : World) : Prop :=
  e = .returned (.int .i64 r.1) ∧ Only X wr w' ∧ ∃ X', (∀ k, X' k → X k ∨ wr.heap.size ≤ k) ∧ DS w X' gd r.2 w'

theorem DS.post {w wr w' : World} {X : Nat → Prop} {gd : Nat} {d : Dk} {r : Int × Dk} {e : Ending} (h : DS w X gd d wr) (hw : Well r.2) (hp : PPost wr X gd r e w') : DPost w X gd wr r e w' :=
  ⟨hp.1, hp.2.1, _, fun k hk => by
    rcases hk with hk | hk
    · exact .inl hk
    · exact .inr hk.1, h.call hp hw⟩

section
variable {w : World} {X : Nat → Prop} {gd : Nat} {d : Dk} {wr : World} (h : DS w X gd d wr)
include h

theorem DAppend (s : ByteArray) (bs : List (List UInt8)) (F : Nat → Prop) (vb : Value) (hs : s.size ≤ 9223372036854775807) (hv : RepBl wr F bs vb) (hF : ∀ k, F k → k < wr.heap.size ∧ ¬ X k) (hu : D.used d.fs + bs.flatten.length ≤ 1099511627776) :
    Calls Tryd.prog 25 #[.pointer (some ⟨gd, 0, none⟩), .string s, vb] wr (DPost w X gd wr (D.append d s bs)) :=
  (PAppend_any d X gd s bs F vb wr h.dsk h.well.1 hs hv hF hu).mono fun _ _ hp => h.post (append_well h.well s bs).1 hp

theorem DSync (names : List ByteArray) (F : Nat → Prop) (vn : Value) (hs : ∀ s ∈ names, s.size ≤ 9223372036854775807) (hv : RepSl wr F names vn) (hF : ∀ k, F k → k < wr.heap.size ∧ ¬ X k) :
    Calls Tryd.prog 27 #[.pointer (some ⟨gd, 0, none⟩), vn] wr (DPost w X gd wr (D.sync d names)) :=
  (PSync_any d X gd names F vn wr h.dsk h.well.1 hs hv hF).mono fun _ _ hp => h.post (sync_well h.well names).1 hp

theorem DRemove (names : List ByteArray) (F : Nat → Prop) (vn : Value) (hs : ∀ s ∈ names, s.size ≤ 9223372036854775807) (hv : RepSl wr F names vn) (hF : ∀ k, F k → k < wr.heap.size ∧ ¬ X k) :
    Calls Tryd.prog 24 #[.pointer (some ⟨gd, 0, none⟩), vn] wr (DPost w X gd wr (D.remove d names)) :=
  (PRemove_any d X gd names F vn wr h.dsk h.well.1 hs hv hF).mono fun _ _ hp => h.post (remove_well h.well names).1 hp

theorem DCrash (ks : List Int) (F : Nat → Prop) (vk : Value) (hv : RepI wr F ks vk) (hF : ∀ k, F k → k < wr.heap.size ∧ ¬ X k) :
    Calls Tryd.prog 13 #[.pointer (some ⟨gd, 0, none⟩), vk] wr (DPost w X gd wr ((((D.crash d ks).1 : Nat) : Int), (D.crash d ks).2)) :=
  (PCrash_any d X gd ks F vk wr h.dsk h.well.1 h.well.names hv hF).mono fun _ _ hp => h.post (crash_well h.well ks).1 hp
end

theorem RepSl.new {w : World} {ls : List ByteArray} {t : TypeId} {g n : Nat} (hg : g = w.heap.size) (hn : n = ls.length) (hl : ls.length ≤ 9223372036854775807) :
    RepSl (w.alloc (.cells (ls.map Value.string).toArray t)) (fun b => b = g) ls (.slice (some ⟨g, 0, none⟩) n n) := by
  subst hg hn
  refine .inr ⟨w.heap.size, 0, ls.length, rfl, rfl, Nat.le_refl _, hl, fun i hi => ?_⟩
  have := cell_of_row _ w.heap.size (0 + i) _ t _ (heap_alloc_new w (.cells (ls.map Value.string).toArray t))
  rw [this]
  simp [hi]

theorem RepI.new {w : World} {ls : List Int} {t : TypeId} {g n : Nat} (hg : g = w.heap.size) (hn : n = ls.length) (hl : ls.length ≤ 9223372036854775807) (hb : ∀ i ∈ ls, -9223372036854775808 ≤ i ∧ i ≤ 9223372036854775807) :
    RepI (w.alloc (.cells (ls.map (Value.int .i64)).toArray t)) (fun b => b = g) ls (.slice (some ⟨g, 0, none⟩) n n) := by
  subst hg hn
  refine .inr ⟨w.heap.size, 0, ls.length, rfl, rfl, Nat.le_refl _, hl, fun i hi => ⟨?_, hb _ (List.getElem_mem hi)⟩⟩
  have := cell_of_row _ w.heap.size (0 + i) _ t _ (heap_alloc_new w (.cells (ls.map (Value.int .i64)).toArray t))
  rw [this]
  simp [hi]

def nmA : ByteArray := ⟨#[97]⟩
def nmB : ByteArray := ⟨#[98]⟩
def x1 : Dk := fresh 10
def x2 : Dk := (D.append x1 nmA [[120, 121, 122]]).2
def x3 : Dk := (D.sync x2 [nmA]).2
def x4 : Dk := (D.append x3 nmA [[117], [118, 119]]).2
def x5 : Dk := (D.append x4 nmB [[49, 50, 51, 52, 53]]).2
def x6 : Dk := (D.crash x5 [1]).2

theorem ex_2 : (D.append x1 nmA [[120, 121, 122]]).1 = 0 ∧ D.used x2.fs = 3 := by decide +kernel
theorem ex_3 : (D.sync x2 [nmA]).1 = 0 ∧ D.used x3.fs = 3 := by decide +kernel
theorem ex_4 : (D.append x3 nmA [[117], [118, 119]]).1 = 0 ∧ D.used x4.fs = 6 := by decide +kernel
theorem ex_5 : (D.append x4 nmB [[49, 50, 51, 52, 53]]).1 = 31 ∧ D.used x5.fs = 6 := by decide +kernel
theorem ex_6 : (D.crash x5 [1]).1 = 2 ∧ D.used x6.fs = 4 := by decide +kernel
theorem ex_7 : bytesOf x6.fs nmA = [120, 121, 122, 117] ∧ D.isThere x6.fs nmA = true := by decide +kernel
end Go.Proofs.YtikcdchmggdmdaaDoor.M

/- Part: Eq4. -/
namespace Go.Proofs.YtikcdchmggdmdaaDoor.M
open Go.RowKit

theorem cells_u8 : Tryd.prog.cellsOf 5 = 1 := by kernel_rfl

set_option maxRecDepth 20000 in
theorem eq4_any (a b c d a' b' c' d' : Int) (w : World) :
    (Op.equalIn 10000 74 (.agg #[.int .u8 a, .int .u8 b, .int .u8 c, .int .u8 d]) (.agg #[.int .u8 a', .int .u8 b', .int .u8 c', .int .u8 d'])).run Tryd.prog w = .ok (a == a' && (b == b' && (c == c' && d == d'))) w := by
  have u5 := Tryd.underlying5
  have a5 := Tryd.isAgg5
  obtain ⟨ib, hib, hib0, hib1, hib2⟩ := info_parts infoByte
  rw [show (10000 : Nat) = 9999 + 1 from rfl, Go.run_equalIn_array w 9999 _ _ Tryd.underlying74 hib, cells_u8]
  simp only [show List.range 4 = [0, 1, 2, 3] from rfl, Op.eqItems]
  go_simp
  by_cases h1 : a = a' <;> by_cases h2 : b = b' <;> by_cases h3 : c = c' <;> by_cases h4 : d = d' <;> simp [h1, h2, h3, h4]
end Go.Proofs.YtikcdchmggdmdaaDoor.M
