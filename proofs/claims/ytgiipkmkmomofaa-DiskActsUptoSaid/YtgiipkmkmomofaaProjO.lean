/- The program's disk: Remove. -/
import Derived.Test.YtgiipkmkmomofaaProjN
import Derived.Test.YtgiipkmkmomofaaProjL
import Derived.Test.YtgiipkmkmomofaaProjH
namespace Go.Proofs.Ytgiipkmkmomofaa.M
open Go.RowKit Go.Maps
open D (Fl Dk)

def removeF (fs : List Fl) (l : List ByteArray) : List Fl := l.foldl (fun fs s => fs.eraseIdx (D.find fs s)) fs

def removeB (e : Dk) (names : List ByteArray) : Int × Dk := if D.eachOnce e.fs names = false then (30, e) else (0, { e with fs := removeF e.fs names })

theorem remove_eq (d : Dk) (names : List ByteArray) : D.remove d names = if d.stopped then (32, d) else removeB d.tick names := rfl

theorem once_is (fs : List Fl) : ∀ l : List ByteArray, D.eachOnce fs l = (l.all (D.isThere fs) && !dupB l)
  | [] => by simp [D.eachOnce, dupB]
  | s :: r => by
    unfold D.eachOnce
    rw [once_is fs r]
    have e : (r.any fun t => t.toList == s.toList) = decide (∃ t ∈ r, t = s) := by
      rw [Bool.eq_iff_iff, List.any_eq_true, decide_eq_true_eq]
      constructor
      · rintro ⟨t, ht, h⟩; exact ⟨t, ht, by rw [D.beq_nm] at h; simpa using h⟩
      · rintro ⟨t, ht, h⟩; exact ⟨t, ht, by rw [D.beq_nm]; simpa using h⟩
    rw [e]
    have e2 : dupB (s :: r) = (decide (∃ t ∈ r, t = s) || dupB r) := by
      unfold dupB
      rw [Bool.eq_iff_iff, Bool.or_eq_true, decide_eq_true_eq, decide_eq_true_eq, decide_eq_true_eq, List.nodup_cons]
      constructor
      · intro h
        by_cases h2 : s ∈ r
        · exact .inl ⟨s, h2, rfl⟩
        · exact .inr fun h3 => h ⟨h2, h3⟩
      · rintro (⟨t, h1, rfl⟩ | h) ⟨h2, h3⟩
        · exact h2 h1
        · exact h h3
    rw [e2]
    simp only [List.all_cons]
    cases D.isThere fs s <;> cases r.all (D.isThere fs) <;> cases decide (∃ t ∈ r, t = s) <;> cases dupB r <;> rfl

/-- The state at the head of the loop. -/
def PRemAt (w1 : World) (X : Nat → Prop) (gd gm : Nat) (d : Dk) (E : ByteArray → Nat × Value) (names : List ByteArray) (k : Nat) (wr : World) : Prop :=
  Only X w1 wr ∧ wr.heap.size = w1.heap.size ∧ ∃ M fr, fr = ({ d with fs := removeF d.fs (names.take k) } : Dk).free ∧ PDAt wr X gd { d with fs := removeF d.fs (names.take k) } fr gm M E

theorem removeF_rising (l : List ByteArray) : ∀ fs : List Fl, D.Rising fs → D.Rising (removeF fs l) := by
  induction l with
  | nil => intro fs h; exact h
  | cons s r ih => intro fs h; exact ih _ (h.erase _)

theorem removeF_used (l : List ByteArray) : ∀ fs : List Fl, D.Rising fs → D.used (removeF fs l) ≤ D.used fs := by
  induction l with
  | nil => intro fs _; exact Nat.le_refl _
  | cons s r ih =>
    intro fs h
    have h1 := ih _ (h.erase (D.find fs s))
    have h2 := bytesOf_erase h s
    unfold removeF at h1 ⊢
    simp only [List.foldl_cons]
    omega

set_option maxRecDepth 20000 in
set_option maxHeartbeats 3200000 in
theorem RemoveC_any (d : Dk) (X : Nat → Prop) (gd bd bn : Nat) (names : List ByteArray) (F : Nat → Prop) (vn : Value) (w : World) (hd : PDskIn w X gd d) (hg : Good d) (hs : ∀ s ∈ names, s.size ≤ 9223372036854775807)
    (hv : RepSl w F names vn) (hF : ∀ k, F k → k < w.heap.size ∧ ¬ X k)
    (c1 : w.cell? ⟨bd, 0, none⟩ = some (.pointer (some ⟨gd, 0, none⟩))) (c2 : w.cell? ⟨bn, 0, none⟩ = some vn) (hbx : (bd < w.heap.size ∧ ¬ X bd) ∧ (bn < w.heap.size ∧ ¬ X bn)) :
    Calls Try.prog 44 #[.pointer (some ⟨bd, 0, none⟩), .pointer (some ⟨bn, 0, none⟩)] w (PPost w X gd (removeB d names)) := by
  obtain ⟨na, nc, rfl, hnl⟩ := hv.slice
  have HV := Lib.hid hv
  have HF := Lib.hid hF
  have HX := Lib.hid hd.2
  have HD := Lib.hid hd.1
  have HG := Lib.hid hg
  have HS := Lib.hid hs
  have HBX := Lib.hid hbx
  have HC1 := Lib.hid c1
  have HC2 := Lib.hid c2
  obtain ⟨⟨b1, -⟩, b2, -⟩ := hbx
  clear hv hF hd hg hs
  go_enter Try.func44, Try.ntmps44
  go_wp2_with fail
  refine (Has_any d X gd names F _ w HD.out HV.out (fun k hk => (HF.out k hk).1) HS.out).mono ?_
  rintro e w1 ⟨rfl, rfl⟩
  cases hall : names.all (D.isThere d.fs) with
  | false =>
    have HE : Hid (removeB d names = (30, d)) := Lib.hid (by unfold removeB; rw [once_is, hall]; rfl)
    clear hall
    go_wp2_with fail
    go_ret
    rw [HE.out]
    exact PPost.of (Only.refl _ _) rfl (Only.refl _ _) HD.out.up
  | true =>
    have HALL := Lib.hid hall
    clear hall
    go_wp2_with fail
    refine (Twice_any names F _ w HV.out (fun k hk => (HF.out k hk).1) HS.out).mono ?_
    rintro e w1 ⟨rfl, hb1⟩
    have HO1 : Hid (Only X w w1) := Lib.hid ((Only.of_below hb1).mono fun _ h => h)
    have HD1 : Hid (PDsk w1 X gd d) := Lib.hid (HD.out.same (fun _ h => h) fun k hk => hb1.block k (HX.out k hk))
    have c1 : w1.cell? ⟨bd, 0, none⟩ = some (.pointer (some ⟨gd, 0, none⟩)) := (cell_only HO1.out HBX.out.1.1 HBX.out.1.2 0).trans HC1.out
    have c2 : w1.cell? ⟨bn, 0, none⟩ = some (.slice na names.length nc) := (cell_only HO1.out HBX.out.2.1 HBX.out.2.2 0).trans HC2.out
    have b1 : bd < w1.heap.size := Nat.lt_of_lt_of_le HBX.out.1.1 HO1.out.size
    have b2 : bn < w1.heap.size := Nat.lt_of_lt_of_le HBX.out.2.1 HO1.out.size
    clear hb1
    cases hdup : dupB names with
    | true =>
      have HE : Hid (removeB d names = (30, d)) := Lib.hid (by unfold removeB; rw [once_is, hdup]; simp)
      clear hdup
      go_wp2_with fail
      go_ret
      rw [HE.out]
      exact PPost.of HO1.out rfl (Only.refl _ _) HD1.out.up
    | false =>
      have HONCE : Hid (D.eachOnce d.fs names = true) := Lib.hid (by rw [once_is, HALL.out, hdup]; rfl)
      have HE : Hid (removeB d names = (0, { d with fs := removeF d.fs names })) := Lib.hid (by unfold removeB; rw [HONCE.out]; rfl)
      obtain ⟨gm, M, E, hat⟩ := HD1.out
      have H0 : Hid (PRemAt w1 X gd gm d E names 0 w1) := Lib.hid ⟨Only.refl _ _, rfl, M, d.free, rfl, hat⟩
      clear hdup hat
      go_wp2_with fail
      go_loopw [4, 15] (fun _ i wr => ∃ k : Nat, k ≤ names.length ∧ i = .int .i64 (k : Int) ∧ PRemAt w1 X gd gm d E names k wr) (fun _ i _ => names.length - (intOf i).toNat)
      case atStart => exact ⟨0, Nat.zero_le _, rfl, H0.out⟩
      case round =>
        obtain ⟨k, hk, rfl, ho, hz, M2, fr, hfr, hat⟩ := hrel
        have HOw : Hid (Only X w wr) := Lib.hid (HO1.out.then ho)
        by_cases hlt : k < names.length
        · have hkk : (k : Int) < (names.length : Int) := by omega
          have hv2 : RepSl wr F names (.slice na names.length nc) := HV.out.same (fun _ h => h) fun j hj => HOw.out.block j (HF.out j hj).1 (HF.out j hj).2
          obtain ⟨b, off, rfl, hFb, hc⟩ := hv2.elem k hlt
          have hbz : b < wr.heap.size := Nat.lt_of_lt_of_le (HF.out b hFb).1 HOw.out.size
          obtain ⟨s, hse⟩ : ∃ s, s = names[k] := ⟨_, rfl⟩
          rw [← hse] at hc
          have hmem : s ∈ names := by rw [hse]; exact List.getElem_mem hlt
          have HSS := Lib.hid (HS.out s hmem)
          have hr2 := removeF_rising (names.take k) d.fs HG.out.2.1
          have hsum : 0 ≤ fr ∧ fr + (D.used (removeF d.fs (names.take k)) : Int) ≤ 9223372036854775807 := by
            have h1 := removeF_used (names.take k) d.fs HG.out.2.1
            have h2 := HG.out.1.2.2.1
            have h3 := HG.out.1.2.2.2.2
            rw [hfr]
            unfold D.Dk.free at h2 ⊢
            simp only
            omega
          have HSUM := Lib.hid hsum
          have HR2 := Lib.hid hr2
          have HAT := Lib.hid hat
          have HNEXT : Hid (∀ w2 M', PDAt w2 X gd { d with fs := (removeF d.fs (names.take k)).eraseIdx (D.find (removeF d.fs (names.take k)) s) } (fr + ((bytesOf (removeF d.fs (names.take k)) s).length : Int)) gm M' E → Only X wr w2 → w2.heap.size = wr.heap.size → PRemAt w1 X gd gm d E names (k + 1) w2) := Lib.hid fun w2 M' h1 h2 h3 => by
            have e : removeF d.fs (names.take (k + 1)) = (removeF d.fs (names.take k)).eraseIdx (D.find (removeF d.fs (names.take k)) s) := by
              rw [List.take_succ_eq_append_getElem hlt, ← hse]
              unfold removeF
              rw [List.foldl_append]
              rfl
            refine ⟨ho.then h2, by omega, M', fr + ((bytesOf (removeF d.fs (names.take k)) s).length : Int), ?_, by rw [e]; exact h1⟩
            have h4 := bytesOf_erase hr2 s
            rw [e, hfr]
            unfold D.Dk.free
            simp only
            omega
          have c1 : wr.cell? ⟨bd, 0, none⟩ = some (.pointer (some ⟨gd, 0, none⟩)) := (cell_only HOw.out HBX.out.1.1 HBX.out.1.2 0).trans HC1.out
          have b1 : bd < wr.heap.size := Nat.lt_of_lt_of_le HBX.out.1.1 HOw.out.size
          clear hat hr2 hsum hmem hse hv2 ho hz hfr
          go_wp2_with fail
          refine (Drop_any _ X gd gm fr M2 E s wr HAT.out HR2.out HSS.out HSUM.out.1 HSUM.out.2).mono ?_
          rintro e w2 ⟨rfl, h2, h3, -, M', h1⟩
          have HN := Lib.hid (HNEXT.out w2 M' h1 h2 h3)
          clear h1 h2 h3
          go_wp2_with fail
          go_roundw
          case rel => exact ⟨k + 1, by omega, by go_num, HN.out⟩
          case measure => simp [intOf]; omega
        · have hkk : ¬ (k : Int) < (names.length : Int) := by omega
          obtain rfl : k = names.length := by omega
          have HP : Hid (PPost w X gd (removeB d names) (.returned (.int .i64 0)) wr) := Lib.hid (by
            rw [HE.out]
            rw [List.take_length] at hat hfr
            refine PPost.of HO1.out rfl ho ⟨gm, M2, E, ?_⟩
            rw [← hfr]
            exact hat.same (fun _ h => .inl h) fun _ _ => rfl)
          clear hat ho hz hfr
          go_wp2_with fail
          go_ret
          exact HP.out
end Go.Proofs.Ytgiipkmkmomofaa.M
