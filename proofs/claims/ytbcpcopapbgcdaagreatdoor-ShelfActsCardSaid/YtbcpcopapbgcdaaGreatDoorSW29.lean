/- Package shelf: a file's name, the Index that a name says. Package shelf: a file read as a snapshot. -/
import Derived.Test.YtbcpcopapbgcdaaGreatDoorSW27
import Derived.Test.YtbcpcopapbgcdaaGreatDoorSW28
import Derived.Shelf.Small.Wraps
/- Part: ShF. -/
namespace Go.Proofs.YtbcpcopapbgcdaaGreatDoor.M
open Go.RowKit Go.Maps
open D (Fl Dk)

set_option maxRecDepth 20000 in
theorem ShName_any (i : Int) (w : World) (h0 : 0 ≤ i) (h1 : i < 10000000000) (hT : Hid (Pow10 w)) :
    Calls Tryz.prog 85 #[.int .i64 i] w fun e w' => e = .returned (.string (snName i)) ∧ Below w.heap.size w w' := by
  obtain ⟨hl, hp⟩ := dg_pad 9 i.toNat (by omega)
  have HP := Lib.hid hp
  have HL := Lib.hid hl
  have hpos := decDigits_pos i.toNat
  have HI := Lib.hid (itoa_any i w h0 h1 hT)
  obtain ⟨L, hL⟩ : ∃ L, L = Lib.decDigits i.toNat := ⟨_, rfl⟩
  rw [← hL] at HI hl hpos
  obtain ⟨n, hn⟩ : ∃ n, n = L.length := ⟨_, rfl⟩
  have HLE := Lib.hid hL
  have HNE := Lib.hid hn
  rw [← hn] at hl hpos
  have hsz : (⟨L.toArray⟩ : ByteArray).size = n := by rw [hn]; rfl
  clear hp hL hn
  go_enter Tryz.func85, Tryz.ntmps85
  go_wp2_with fail
  refine HI.out.mono ?_
  rintro e w1 ⟨rfl, hb1⟩
  go_wp2_with fail
  refine (repeat_any (10 - (n : Int)) w1 (by omega) (by omega)).mono ?_
  rintro e w2 ⟨rfl, hb2⟩
  have HB : Hid (Below w.heap.size w w2) := Lib.hid (hb1.trans (hb2.mono hb1.size))
  obtain ⟨m, hm⟩ : ∃ m, m = (10 - (n : Int)).toNat := ⟨_, rfl⟩
  have HM : Hid (m = 10 - n) := Lib.hid (by omega)
  rw [← hm]
  have hmn : ¬ 9223372036854775807 < 5 + m + n := by omega
  clear hb1 hb2 hm
  go_wp2_with fail
  go_ret
  refine ⟨?_, HB.out⟩
  have hc : snName i = (⟨#[115, 110, 97, 112, 45]⟩ : ByteArray) ++ ⟨Array.replicate m 48⟩ ++ ⟨L.toArray⟩ := by
    unfold snName
    rw [show dg 10 i.toNat = List.replicate m 48 ++ L by rw [HLE.out, HM.out, HNE.out, HLE.out]; exact HP.out]
    apply ByteArray.ext
    simp
  rw [hc]
  rfl

def snPfx : List UInt8 := [115, 110, 97, 112, 45]

theorem cutSn_any (s : ByteArray) (w : World) :
    Calls Tryz.prog 139 #[.string s, .string ⟨#[115, 110, 97, 112, 45]⟩] w fun e w' => e = .returned (.tuple #[.string ⟨(Lib.trimPrefix s.data.toList snPfx).toArray⟩, .bool (Lib.hasPrefix s.data.toList snPfx)]) ∧ w' = w := by
  have h := Any.strings_CutPrefix Tryz.laysCut s ⟨#[115, 110, 97, 112, 45]⟩ w
  rw [fCut] at h
  exact h

theorem pfx_iff (l : List UInt8) : Lib.hasPrefix l snPfx = true ↔ l.take 5 = snPfx := by
  unfold Lib.hasPrefix
  rw [List.isPrefixOf_iff_prefix, List.prefix_iff_eq_take]
  exact eq_comm

theorem snIdx_nopfx {s : ByteArray} (h : Lib.hasPrefix s.data.toList snPfx = false) : snIdx s = none := by
  unfold snIdx
  rw [if_neg]
  rintro ⟨-, h2, -⟩
  rw [(pfx_iff _).2 h2] at h
  cases h

theorem snIdx_pfx {s : ByteArray} (h : Lib.hasPrefix s.data.toList snPfx = true) : Lib.trimPrefix s.data.toList snPfx = s.data.toList.drop 5 ∧ s.size = (s.data.toList.drop 5).length + 5 ∧
    snIdx s = if (s.data.toList.drop 5).length = 10 ∧ (s.data.toList.drop 5).all isDig = true then some (digs (s.data.toList.drop 5)) else none := by
  have h2 := (pfx_iff _).1 h
  have hl : 5 ≤ s.data.toList.length := by
    have := congrArg List.length h2
    rw [List.length_take] at this
    simp [snPfx] at this
    simp
    omega
  have hz : s.size = (s.data.toList.drop 5).length + 5 := by
    rw [List.length_drop]
    show s.data.size = _
    simp at hl ⊢
    omega
  refine ⟨by unfold Lib.trimPrefix; rw [h]; rfl, hz, ?_⟩
  unfold snIdx
  have h3 : s.data.toList.take 5 = [115, 110, 97, 112, 45] := h2
  by_cases h4 : (s.data.toList.drop 5).length = 10 ∧ (s.data.toList.drop 5).all isDig = true
  · rw [if_pos h4, if_pos ⟨by omega, h3, h4.2⟩]
  · rw [if_neg h4, if_neg]
    rintro ⟨h5, -, h6⟩
    exact h4 ⟨by omega, h6⟩

theorem digs_bound (l : List UInt8) (h : l.all isDig = true) : digs l < 10 ^ l.length := (dg_digs l.length l rfl h).2

theorem take_digs {t : List UInt8} {k : Nat} (h : k < t.length) : digs (t.take (k + 1)) = 10 * digs (t.take k) + (t[k].toNat - 48) := by
  rw [List.take_succ_eq_append_getElem h, digs_snoc]

def idxV (s : ByteArray) : Value := .tuple #[.int .i64 (((snIdx s).getD 0 : Nat) : Int), .bool (snIdx s).isSome]

theorem idxV_none {s : ByteArray} (h : snIdx s = none) : idxV s = .tuple #[.int .i64 0, .bool false] := by unfold idxV; rw [h]; rfl
theorem idxV_some {s : ByteArray} {n : Nat} (h : snIdx s = some n) : idxV s = .tuple #[.int .i64 (n : Int), .bool true] := by unfold idxV; rw [h]; rfl

set_option maxRecDepth 20000 in
set_option maxHeartbeats 1600000 in
theorem ShIdx_any (nm : ByteArray) (w : World) (hnm : nm.size ≤ 9223372036854775807) :
    Calls Tryz.prog 87 #[.string nm] w fun e w' => e = .returned (idxV nm) ∧ Below w.heap.size w w' := by
  have HCUT := Lib.hid (cutSn_any nm w)
  cases hp : Lib.hasPrefix nm.data.toList snPfx with
  | false =>
    have HE := Lib.hid (idxV_none (snIdx_nopfx hp))
    rw [hp] at HCUT
    obtain ⟨t, ht⟩ : ∃ t : ByteArray, t = ⟨(Lib.trimPrefix nm.data.toList snPfx).toArray⟩ := ⟨_, rfl⟩
    rw [← ht] at HCUT
    obtain ⟨R, hR⟩ : ∃ R, R = idxV nm := ⟨_, rfl⟩
    rw [← hR] at HE ⊢
    clear hp ht hR hnm
    go_enter Tryz.func87, Tryz.ntmps87
    go_wp2_with fail
    refine HCUT.out.mono ?_
    rintro e w1 ⟨rfl, rfl⟩
    go_wp2_with fail
    go_ret2
    exact ⟨by rw [HE.out]; rfl, Below.refl _ _⟩
  | true =>
    obtain ⟨ht, hz, hidx⟩ := snIdx_pfx hp
    rw [hp, ht] at HCUT
    obtain ⟨T, hT⟩ : ∃ T, T = nm.data.toList.drop 5 := ⟨_, rfl⟩
    rw [← hT] at HCUT hz hidx
    obtain ⟨R, hR⟩ : ∃ R, R = idxV nm := ⟨_, rfl⟩
    have HIX := Lib.hid hidx
    have HRR : Hid ((∀ (_ : ¬ (T.length = 10 ∧ T.all isDig = true)), R = .tuple #[.int .i64 0, .bool false]) ∧ (T.length = 10 ∧ T.all isDig = true → R = .tuple #[.int .i64 ((digs T : Nat) : Int), .bool true])) := Lib.hid ⟨fun h => by rw [hR]; exact idxV_none (by rw [HIX.out, if_neg h]), fun h => by rw [hR]; exact idxV_some (by rw [HIX.out, if_pos h])⟩
    rw [← hR]
    obtain ⟨s, hs⟩ : ∃ s : ByteArray, s = ⟨T.toArray⟩ := ⟨_, rfl⟩
    have hsz : s.size = T.length := by rw [hs]; show T.toArray.size = _; simp
    rw [← hs] at HCUT
    have HS := Lib.hid hs
    have hTl : T.length ≤ 9223372036854775807 := by omega
    clear hp ht hz hidx hT hR hs HIX hnm
    by_cases h10 : T.length = 10
    · have hs3 : (s.size : Int) = 10 := by omega
      have HD : Hid (∀ (k : Nat) (hk : k < s.size) (hk2 : k < T.length), s[k] = T[k]) := Lib.hid fun k hk hk2 => by
        have h := HS.out
        subst h
        rfl
      have HTL := Lib.hid h10
      have hcv : ∀ w, (convert 9 34 (.string s)).run Tryz.prog w = _ := fun w => run_bytes_of_string w 9 34 5 s Tryz.underlying9 Tryz.underlying34 Tryz.underlying5
      obtain ⟨C, hC⟩ : ∃ C, C = bytesRow s (grownCap w s.size 0 5) := ⟨_, rfl⟩
      obtain ⟨cp, hcp⟩ : ∃ cp, cp = grownCap w s.size 0 5 := ⟨_, rfl⟩
      have hsn : s.size = 10 := by omega
      have hcw : (convert 9 34 (.string s)).run Tryz.prog w = .ok (.slice (some ⟨w.heap.size, 0, none⟩) 10 cp) (w.drew.alloc (.cells C 5 (C.size, C.size + 1))) := by
        rw [hcv w, hC, hcp, hsn]
      have HC : Hid (∀ (j : Nat) (hj : j < s.size), (w.drew.alloc (.cells C 5 (C.size, C.size + 1))).cell? ⟨w.heap.size, j, none⟩ = some (.int .u8 (s[j].toNat : Int))) := Lib.hid fun j hj => by
        have h2 := World.cell?_alloc_mark w.drew C 5 (C.size, C.size + 1) j
        have e : w.drew.heap.size = w.heap.size := rfl
        rw [e] at h2
        rw [h2, hC, bytesRow_at s _ j hj]
        rfl
      obtain ⟨w2, hw2⟩ : ∃ w2, w2 = w.drew.alloc (.cells C 5 (C.size, C.size + 1)) := ⟨_, rfl⟩
      rw [← hw2] at hcw HC
      have HB : Hid (Below w.heap.size w w2) := Lib.hid (by rw [hw2]; exact Below.mkBytes _ _ _ _)
      have HSZ : Hid (s.size = T.length) := Lib.hid hsz
      clear hcv hC hcp hw2 hsn hsz hTl h10
      go_enter Tryz.func87, Tryz.ntmps87
      go_wp2_with fail
      refine HCUT.out.mono ?_
      rintro e w1 ⟨rfl, rfl⟩
      go_wp2_with fail
      go_loop [6, 8, 24] (fun x _ j => ∃ k : Nat, k ≤ 10 ∧ j = .int .i64 (k : Int) ∧ x = .int .i64 ((digs (T.take k) : Nat) : Int) ∧ Hid ((T.take k).all isDig = true)) (fun _ _ j => 10 - (intOf j).toNat)
      case atStart => exact ⟨0, Nat.zero_le _, rfl, rfl, Lib.hid rfl⟩
      case round =>
        obtain ⟨k, hk, rfl, rfl, HAL⟩ := hrel
        have HRX := HRR.out
        have HRN := Lib.hid HRX.1
        have HRY := Lib.hid HRX.2
        clear HRX
        by_cases hlt : k < 10
        · have hkk : (k : Int) < 10 := by omega
          have hlt2 : k < T.length := by rw [HTL.out]; exact hlt
          have hc := HC.out k (by rw [HSZ.out]; exact hlt2)
          rw [HD.out k (by rw [HSZ.out]; exact hlt2) hlt2] at hc
          have hb : digs (T.take k) < 10000000000 := by
            have h1 := digs_bound _ HAL.out
            rw [List.length_take, Nat.min_eq_left (by omega)] at h1
            have : 10 ^ k ≤ 10 ^ 10 := Nat.pow_le_pow_right (by omega) (by omega)
            omega
          have hcl := T[k].toNat_lt
          obtain ⟨c, hcc⟩ : ∃ c : Nat, c = T[k].toNat := ⟨_, rfl⟩
          have hdg : isDig T[k] = decide (48 ≤ c ∧ c ≤ 57) := by unfold isDig; rw [hcc]
          have HND : Hid (¬ (48 ≤ c ∧ c ≤ 57) → T.all isDig = false) := Lib.hid fun h => by
            rw [Bool.eq_false_iff]
            intro h2
            have h3 := List.all_eq_true.1 h2 _ (List.getElem_mem hlt2)
            rw [hdg] at h3
            exact h (of_decide_eq_true h3)
          have HST : Hid (digs (T.take (k + 1)) = 10 * digs (T.take k) + (c - 48) ∧ ((48 ≤ c ∧ c ≤ 57) → (T.take (k + 1)).all isDig = true)) := Lib.hid ⟨by rw [hcc]; exact take_digs hlt2, fun h => by
            rw [List.take_succ_eq_append_getElem hlt2, List.all_append, HAL.out]
            simp only [List.all_cons, List.all_nil, Bool.and_true, Bool.true_and]
            rw [hdg]
            exact decide_eq_true h⟩
          rw [← hcc] at hc hcl
          obtain ⟨p, hp⟩ : ∃ p, p = digs (T.take k) := ⟨_, rfl⟩
          rw [← hp] at hb HST ⊢
          have HLT := Lib.hid hlt
          have b1 : (p : Int) < 10000000000 := by omega
          have b3 : (0 : Int) ≤ (p : Int) := by omega
          clear hdg hcc hlt2 hp hb hs3
          rcases (show c < 48 ∨ (48 ≤ c ∧ ¬ c ≤ 57) ∨ (48 ≤ c ∧ c ≤ 57) by omega) with h | ⟨h, h2⟩ | ⟨h, h2⟩
          · have p1 : (c : Int) < 48 := by omega
            have HF : Hid (R = .tuple #[.int .i64 0, .bool false]) := Lib.hid (HRN.out fun q => by
              rw [HND.out (by omega)] at q
              cases q.2)
            clear h
            go_wp2_with fail
            go_ret2
            exact ⟨by rw [HF.out]; rfl, HB.out⟩
          · have p1 : decide ((c : Int) < 48) = false := decide_eq_false (by omega)
            have p2 : (57 : Int) < (c : Int) := by omega
            have HF : Hid (R = .tuple #[.int .i64 0, .bool false]) := Lib.hid (HRN.out fun q => by
              rw [HND.out (by omega)] at q
              cases q.2)
            clear h h2
            go_wp2_with fail
            go_ret2
            exact ⟨by rw [HF.out]; rfl, HB.out⟩
          · have p1 : decide ((c : Int) < 48) = false := decide_eq_false (by omega)
            have p2 : decide ((57 : Int) < (c : Int)) = false := decide_eq_false (by omega)
            have p3 : (48 : Int) ≤ (c : Int) := by omega
            have p4 : (c : Int) ≤ 57 := by omega
            have HAL2 : Hid ((T.take (k + 1)).all isDig = true) := Lib.hid (HST.out.2 ⟨h, h2⟩)
            have HC48 := Lib.hid h
            clear h h2
            go_wp2_with fail
            go_round
            case rel => exact ⟨k + 1, by omega, by go_num, by rw [HST.out.1]; have := HC48.out; go_num, HAL2⟩
            case measure => simp [intOf]; omega
        · have hkk : ¬ (k : Int) < 10 := by omega
          obtain rfl : k = 10 := by omega
          have HF : Hid (R = .tuple #[.int .i64 ((digs (T.take 10) : Nat) : Int), .bool true]) := Lib.hid (by
            have e : T.take 10 = T := List.take_of_length_le (by rw [HTL.out]; omega)
            have h := HAL.out
            rw [e] at h ⊢
            exact HRY.out ⟨HTL.out, h⟩)
          go_wp2_with fail
          go_ret2
          exact ⟨by rw [HF.out]; rfl, HB.out⟩
    · have HF : Hid (R = .tuple #[.int .i64 0, .bool false]) := Lib.hid (HRR.out.1 fun q => h10 q.1)
      have q1 : ((s.size : Int) == 10) = false := beq_eq_false_iff_ne.2 (by omega)
      have q2 : ((s.size : Int) != 10) = true := by simp; omega
      clear h10 hsz
      go_enter Tryz.func87, Tryz.ntmps87
      go_wp2_with fail
      refine HCUT.out.mono ?_
      rintro e w1 ⟨rfl, rfl⟩
      go_wp2_with fail
      go_ret2
      exact ⟨by rw [HF.out]; rfl, Below.refl _ _⟩
end Go.Proofs.YtbcpcopapbgcdaaGreatDoor.M

/- Part: ShG. -/
namespace Go.Proofs.YtbcpcopapbgcdaaGreatDoor.M
open Go.RowKit Go.Maps
open D (Fl Dk)

/-- What the file of a name has, if it is whole. -/
def readN (fs : List Fl) (nm : ByteArray) : Option Sn :=
  match snIdx nm with
  | none => none
  | some n => match snParse (bytesOf fs nm) with
    | .error _ => none
    | .ok x => if x.idx = n then some x else none

theorem bytesOf_mem {fs : List Fl} (h : D.Rising fs) {f : Fl} (hf : f ∈ fs) : bytesOf fs f.nm = f.b := by
  unfold bytesOf
  cases hq : fs.find? (fun g => decide (g.nm = f.nm)) with
  | none =>
    rw [List.find?_eq_none] at hq
    exact absurd (decide_eq_true rfl) (hq f hf)
  | some g =>
    have h1 : g.nm = f.nm := by have := List.find?_some hq; simpa using this
    have h2 := List.mem_of_find?_eq_some hq
    rw [h.uniq h2 hf h1]

theorem readN_mem {fs : List Fl} (h : D.Rising fs) {f : Fl} (hf : f ∈ fs) : readN fs f.nm = readF f := by
  unfold readN readF
  rw [bytesOf_mem h hf]
  cases snIdx f.nm with
  | none => rfl
  | some n => cases snParse f.b <;> rfl

/-- What a reading of a file answers. -/
def RdPost (w : World) (r : Option Sn) (e : Ending) (w' : World) : Prop :=
  Below w.heap.size w w' ∧ match r with
  | none => e = .returned (.tuple #[snAgg Sn.zero (.slice none 0 0) (.slice none 0 0), .bool false])
  | some x => ∃ u1 u2, e = .returned (.tuple #[snAgg x u1 u2, .bool true]) ∧ RepB w' (fun k => w.heap.size ≤ k ∧ k < w'.heap.size) x.conf u1 ∧ RepB w' (fun k => w.heap.size ≤ k ∧ k < w'.heap.size) x.body u2

set_option maxRecDepth 20000 in
set_option maxHeartbeats 3200000 in
theorem ShRead_any (d : Dk) (X : Nat → Prop) (gd : Nat) (nm : ByteArray) (w : World) (hd : PDskIn w X gd d) (hr : D.Rising d.fs) (hs : nm.size ≤ 9223372036854775807) (hu : D.used d.fs ≤ 1099511627776) (hT : Hid (Tab w)) :
    Calls Tryz.prog 134 #[.pointer (some ⟨gd, 0, none⟩), .string nm] w (RdPost w (readN d.fs nm)) := by
  obtain ⟨W, hW⟩ : ∃ W, W = w.alloc (.cells #[.int .i64 0, .int .i64 0, .slice none 0 0, .slice none 0 0] 53) := ⟨_, rfl⟩
  have hb0 : Below w.heap.size w W := by rw [hW]; exact below_alloc _ _
  have HB0 := Lib.hid hb0
  have hx0 : W.heap[w.heap.size]? = some (.cells #[.int .i64 0, .int .i64 0, .slice none 0 0, .slice none 0 0] 53) := by rw [hW]; exact heap_new _ _ _ rfl
  have HX0 := Lib.hid hx0
  have HD := Lib.hid (hd.next hb0)
  have HIC := Lib.hid (ShIdx_any nm W hs)
  obtain ⟨R, hR⟩ : ∃ R, R = readN d.fs nm := ⟨_, rfl⟩
  rw [← hR]
  have HR := Lib.hid hR
  have HW := Lib.hid hW
  have HU := Lib.hid hu
  clear hd hb0 hx0 hR hW hu
  have zero : Hid (∀ w5 : World, Below w.heap.size w w5 → w5.heap[w.heap.size]? = some (.cells #[.int .i64 0, .int .i64 0, .slice none 0 0, .slice none 0 0] 53) → Below w.heap.size w ((((w5.setCell ⟨w.heap.size, 0, none⟩ (.int .i64 0)).setCell ⟨w.heap.size, 1, none⟩ (.int .i64 0)).setCell ⟨w.heap.size, 2, none⟩ (.slice none 0 0)).setCell ⟨w.heap.size, 3, none⟩ (.slice none 0 0))) := Lib.hid fun w5 h _ =>
    (((h.setCell (p := ⟨w.heap.size, 0, none⟩) (Nat.le_refl _) _).setCell (p := ⟨w.heap.size, 1, none⟩) (Nat.le_refl _) _).setCell (p := ⟨w.heap.size, 2, none⟩) (Nat.le_refl _) _).setCell (p := ⟨w.heap.size, 3, none⟩) (Nat.le_refl _) _
  cases hi : snIdx nm with
  | none =>
    have HE : Hid (R = none) := Lib.hid (by rw [HR.out]; unfold readN; rw [hi])
    rw [idxV_none hi] at HIC
    clear hi
    go_enter Tryz.func134, Tryz.ntmps134
    go_wp2_with fail
    rw [← HW.out]
    refine HIC.out.mono ?_
    rintro e w1 ⟨rfl, hb1⟩
    have HB1 := Lib.hid (HB0.out.trans (hb1.mono HB0.out.size))
    have HX1 := Lib.hid (old_below HX0.out hb1)
    obtain ⟨c0, c1, c2, c3, f0, f1, f2, f3, cz⟩ := sh_four HX1.out
    clear hb1
    go_wp2_with fail
    refine bodyPost_ret (v := .tuple #[.agg #[.int .i64 0, .int .i64 0, .slice none 0 0, .slice none 0 0], .bool false]) (by simp [results, Tryz.results134, go_sem, c0, c1, c2, c3, cz]) rfl ?_
    rw [HE.out]
    refine ⟨?_, rfl⟩
    first
      | exact HB1.out
      | exact zero.out _ HB1.out HX1.out
  | some n =>
    rw [idxV_some hi] at HIC
    obtain ⟨P, hP⟩ : ∃ P, P = snParse (bytesOf d.fs nm) := ⟨_, rfl⟩
    have HRN : Hid ((∀ c, P = .error c → R = none) ∧ ∀ x, P = .ok x → R = if x.idx = n then some x else none) := Lib.hid (by
      rw [HR.out]
      unfold readN
      rw [hi]
      simp only
      rw [← hP]
      exact ⟨fun c h => by rw [h], fun x h => by rw [h]⟩)
    have HPN : Hid (∀ c, P = .error c → (c != 0) = true) := Lib.hid fun c h => by
      have h2 := snParse_err (hP.symm.trans h)
      rcases h2 with h2 | h2 | h2 | h2 <;> simp [h2]
    have hl := bytes_le d.fs nm
    obtain ⟨L, hL⟩ : ∃ L, L = bytesOf d.fs nm := ⟨_, rfl⟩
    have HL : Hid (L.length ≤ 1099511627776) := Lib.hid (by rw [hL]; exact Nat.le_trans hl HU.out)
    rw [← hL] at hP
    have HPL := Lib.hid hP
    have HLE := Lib.hid hL
    clear hi hP hl hL
    go_enter Tryz.func134, Tryz.ntmps134
    go_wp2_with fail
    rw [← HW.out]
    refine HIC.out.mono ?_
    rintro e w1 ⟨rfl, hb1⟩
    have HB1 := Lib.hid (HB0.out.trans (hb1.mono HB0.out.size))
    have HX1 := Lib.hid (old_below HX0.out hb1)
    have HD1 := Lib.hid (HD.out.next hb1)
    clear hb1
    go_wp2_with fail
    refine (PRead_any d X gd nm w1 HD1.out hr hs (by have := HU.out; omega)).mono ?_
    rintro e w2 ⟨u, rfl, hown⟩
    rw [← HLE.out] at hown
    obtain ⟨ua, uc, rfl⟩ := hown.slice
    obtain ⟨ln, hln⟩ : ∃ n, n = L.length := ⟨_, rfl⟩
    rw [← hln] at hown ⊢
    have HB2 := Lib.hid (HB1.out.trans (hown.1.mono HB1.out.size))
    have HX2 := Lib.hid (old_below HX1.out hown.1)
    have HCP := Lib.hid (ShParse_any L _ _ w2 hown.now (fun _ h => h) HL.out (Lib.hid (hT.out.next HB2.out)))
    rw [← HPL.out] at HCP
    obtain ⟨bb, hbb⟩ : ∃ bb, bb = D.isThere d.fs nm := ⟨_, rfl⟩
    rw [← hbb]
    clear hown hln hbb
    go_wp2_with fail
    refine HCP.out.mono ?_
    intro e w3 hp
    have HB3 := Lib.hid (HB2.out.trans (hp.1.mono HB2.out.size))
    have HX3 := Lib.hid (old_below HX2.out hp.1)
    cases hPP : P with
    | error c =>
      rw [hPP] at hp
      have hne := HPN.out c hPP
      have HE := Lib.hid (HRN.out.1 c hPP)
      have he := hp.2
      simp only at he
      subst he
      obtain ⟨c0, c1, c2, c3, f0, f1, f2, f3, cz⟩ := sh_four HX3.out
      unfold snAgg Sn.zero
      simp only
      clear hp hPP
      go_wp2_with fail
      refine bodyPost_ret (v := .tuple #[.agg #[.int .i64 0, .int .i64 0, .slice none 0 0, .slice none 0 0], .bool false]) (by simp [results, Tryz.results134, go_sem, c0, c1, c2, c3, cz]) rfl ?_
      rw [HE.out]
      refine ⟨?_, rfl⟩
      have hz := HB3.out.size
      have h5 := HB3.out.alloc (o := .cells #[.int .i64 0, .int .i64 0, .slice none 0 0, .slice none 0 0] 53) HB3.out.size
      first
        | exact h5
        | exact (zero.out _ HB3.out HX3.out).alloc (by simp; omega) _
        | exact zero.out _ h5 (old_alloc HX3.out)
    | ok x =>
      rw [hPP] at hp
      have HE := Lib.hid (HRN.out.2 x hPP)
      obtain ⟨hp1, u1, u2, he, r1, r2⟩ := hp
      obtain ⟨xi, xt, xc, xb⟩ := x
      simp only at r1 r2 HE
      subst he
      obtain ⟨a1, c1', rfl, -⟩ := r1.slice
      obtain ⟨a2, c2', rfl, -⟩ := r2.slice
      have R1 := Lib.hid r1
      have R2 := Lib.hid r2
      obtain ⟨cn, hcn⟩ : ∃ n, n = xc.length := ⟨_, rfl⟩
      obtain ⟨bn, hbn⟩ : ∃ n, n = xb.length := ⟨_, rfl⟩
      have HCN := Lib.hid hcn
      have HBN := Lib.hid hbn
      have HZ : Hid (w.heap.size < w2.heap.size) := Lib.hid (lt_of_heap HX2.out)
      obtain ⟨c0, c1, c2, c3, f0, f1, f2, f3, cz⟩ := sh_four HX3.out
      unfold snAgg
      simp only
      rw [← hcn, ← hbn]
      clear hp1 r1 r2 hPP hcn hbn
      by_cases hxn : xi = (n : Int)
      · have HE2 : Hid (R = some ⟨xi, xt, xc, xb⟩) := Lib.hid (by rw [HE.out, if_pos hxn])
        have q1 : (xi == (n : Int)) = true := by simp [hxn]
        have q2 : (xi != (n : Int)) = false := by simp [hxn]
        clear hxn
        go_wp2_with fail
        refine bodyPost_ret (v := .tuple #[.agg #[.int .i64 xi, .int .i64 xt, .slice a1 cn c1', .slice a2 bn c2'], .bool true]) (by simp [results, Tryz.results134, go_sem, c0, c1, c2, c3, cz]) rfl ?_
        rw [HE2.out]
        have hz := HB3.out.size
        have ho : Only (fun k => k = w.heap.size) w3 (((((w3.setCell ⟨w.heap.size, 0, none⟩ (.int .i64 xi)).setCell ⟨w.heap.size, 1, none⟩ (.int .i64 xt)).setCell ⟨w.heap.size, 2, none⟩ (.slice a1 cn c1')).setCell ⟨w.heap.size, 3, none⟩ (.slice a2 bn c2')).alloc (.cells #[.int .i64 xi, .int .i64 xt, .slice a1 cn c1', .slice a2 bn c2'] 53)) :=
          (((((Only.refl (fun k => k = w.heap.size) w3).set (.inl rfl) _).set (.inl rfl) _).set (.inl rfl) _).set (.inl rfl) _).alloc _
        have h43 := ho.size
        have hw2 := HZ.out
        have h3 := HB3.out
        refine ⟨⟨ho.os.trans h3.os, ho.tape.trans h3.tape, ho.output.trans h3.output, Nat.le_trans h3.size ho.size, fun k hk => (ho.block k (by omega) (by omega)).trans (h3.block k hk)⟩, .slice a1 cn c1', .slice a2 bn c2', rfl, ?_, ?_⟩
        · have h := R1.out
          rw [← HCN.out] at h
          exact h.same (fun k hk => ⟨by omega, by omega⟩) fun k hk => ho.block k hk.2 (by omega)
        · have h := R2.out
          rw [← HBN.out] at h
          exact h.same (fun k hk => ⟨by omega, by omega⟩) fun k hk => ho.block k hk.2 (by omega)
      · have HE2 : Hid (R = none) := Lib.hid (by rw [HE.out, if_neg hxn])
        have q1 : (xi == (n : Int)) = false := by simp [hxn]
        have q2 : (xi != (n : Int)) = true := by simp [hxn]
        clear hxn
        go_wp2_with fail
        refine bodyPost_ret (v := .tuple #[.agg #[.int .i64 0, .int .i64 0, .slice none 0 0, .slice none 0 0], .bool false]) (by simp [results, Tryz.results134, go_sem, c0, c1, c2, c3, cz]) rfl ?_
        rw [HE2.out]
        refine ⟨?_, rfl⟩
        have hz := HB3.out.size
        have h5 := HB3.out.alloc (o := .cells #[.int .i64 xi, .int .i64 xt, .slice a1 cn c1', .slice a2 bn c2'] 53) HB3.out.size
        first
          | exact h5
          | exact (zero.out _ HB3.out HX3.out).alloc (by simp; omega) _
          | exact zero.out _ h5 (old_alloc HX3.out)
end Go.Proofs.YtbcpcopapbgcdaaGreatDoor.M
