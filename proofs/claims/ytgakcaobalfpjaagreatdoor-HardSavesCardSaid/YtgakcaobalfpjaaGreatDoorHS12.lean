/- The document's Save. The document's disk: Crash. Acts on a disk as they come in: strings, numbers, and the structs of them. Slices of hard states as they come in. Acts of law 4 as they come in; slices of structs, opened element by element. -/
import Derived.Test.YtgakcaobalfpjaaGreatDoorHS9
import Derived.Test.YtgakcaobalfpjaaGreatDoorHS10
import Derived.Test.YtgakcaobalfpjaaGreatDoorHS11
import Derived.Deep.QuietTactic
import Derived.BigQuiet
import Derived.Test.YtgakcaobalfpjaaGreatDoorHS4
import Derived.Test.YtgakcaobalfpjaaGreatDoorHS8
/- Part: Hard7. -/
namespace Go.Proofs.YtgakcaobalfpjaaGreatDoor.M
open Go.RowKit
open D (Fl Dk)

/-- What the document's Save leaves. -/
def RSPost (w : World) (X : Nat → Prop) (gr : Nat) (r : Int × Dk) (e : Ending) (w' : World) : Prop :=
  e = .returned (.int .i64 r.1) ∧ Only X w w' ∧ ∃ X', (∀ k, X' k → X k ∨ w.heap.size ≤ k) ∧ DskIn w' X' gr r.2

set_option maxRecDepth 20000 in
set_option maxHeartbeats 6400000 in
theorem RefSave_any (d : Dk) (X : Nat → Prop) (gr : Nat) (has s : Int × Int) (w : World) (hd : DskIn w X gr d) (hw : Well d) (hu : D.used d.fs ≤ 1000000000) :
    Calls Tryz.prog 9 #[.pointer (some ⟨gr, 0, none⟩), stV has, stV s] w (RSPost w X gr (save d has s)) := by
  obtain ⟨et, ev⟩ := has
  obtain ⟨st, sv⟩ := s
  simp only [stV]
  obtain ⟨W, hW⟩ : ∃ W, W = (w.alloc (.cells #[.int .i64 et, .int .i64 ev] 33)).alloc (.cells #[.int .i64 st, .int .i64 sv] 33) := ⟨_, rfl⟩
  have HB : Hid (Below w.heap.size w W) := Lib.hid (by rw [hW]; exact ((Below.refl _ w).alloc (Nat.le_refl _) _).alloc (by simp) _)
  have hx0 : W.heap[w.heap.size]? = some (.cells #[.int .i64 et, .int .i64 ev] 33) := by rw [hW]; exact old_alloc (heap_new _ _ _ rfl)
  have hx1 : W.heap[w.heap.size + 1]? = some (.cells #[.int .i64 st, .int .i64 sv] 33) := by rw [hW]; exact heap_new _ _ _ (by simp)
  have HX0 := Lib.hid hx0
  have HX1 := Lib.hid hx1
  have HW := Lib.hid hW
  have HD := Lib.hid hd
  have HWE := Lib.hid hw
  have HU := Lib.hid hu
  clear hW hx0 hx1 hd hw hu
  go_enter Tryz.func9, Tryz.ntmps9
  obtain ⟨c0, c1, -, -, cz⟩ := block2 HX0.out
  obtain ⟨d0, d1, -, -, dz⟩ := block2 HX1.out
  go_wp2_with fail
  rw [← HW.out]
  refine (RefFollows_any (st, sv) (et, ev) W).mono ?_
  rintro e w1 ⟨rfl, hb1⟩
  have HB1 : Hid (Below w.heap.size w w1) := Lib.hid (HB.out.trans (hb1.mono HB.out.size))
  have HY0 := Lib.hid (old_below HX0.out hb1)
  have HY1 := Lib.hid (old_below HX1.out hb1)
  obtain ⟨f, hf⟩ : ∃ f, f = follows (st, sv) (et, ev) := ⟨_, rfl⟩
  rw [← hf]
  have HFO := Lib.hid hf
  clear hf hb1 c0 c1 d0 d1 cz dz
  obtain ⟨c0, c1, -, -, cz⟩ := block2 HY0.out
  obtain ⟨d0, d1, -, -, dz⟩ := block2 HY1.out
  have refuse : Hid (∀ w', Below w.heap.size w w' → RSPost w X gr (2, d) (.returned (.int .i64 2)) w') := Lib.hid fun w' hb => ⟨rfl, Only.of_below hb, X, fun k hk => .inl hk, HD.out.1.same (fun _ h => h) (fun k hk => hb.block k (HD.out.2 k hk)), fun k hk => Nat.lt_of_lt_of_le (HD.out.2 k hk) hb.size⟩
  cases f with
  | false =>
    have HE : Hid (save d (et, ev) (st, sv) = (2, d)) := Lib.hid (by unfold save; rw [if_pos (.inl HFO.out.symm)])
    go_wp2_with fail
    go_ret
    rw [HE.out]
    exact refuse.out _ HB1.out
  | true =>
    by_cases h1 : (4611686018427387904 : Int) ≤ st
    · have HE : Hid (save d (et, ev) (st, sv) = (2, d)) := Lib.hid (by unfold save top; rw [if_pos (.inr (.inl h1))])
      go_wp2_with fail
      go_ret
      rw [HE.out]
      exact refuse.out _ HB1.out
    · have h1' : decide ((4611686018427387904 : Int) ≤ st) = false := by simp; omega
      by_cases h2 : (4611686018427387904 : Int) ≤ sv
      · have HE : Hid (save d (et, ev) (st, sv) = (2, d)) := Lib.hid (by unfold save top; rw [if_pos (.inr (.inr h2))])
        clear h1
        go_wp2_with fail
        go_ret
        rw [HE.out]
        exact refuse.out _ HB1.out
      · have h2' : decide ((4611686018427387904 : Int) ≤ sv) = false := by simp; omega
        have HTP : Hid (st < 4611686018427387904 ∧ sv < 4611686018427387904) := Lib.hid (by omega)
        by_cases heq : (st, sv) = (et, ev)
        · have HE : Hid (save d (et, ev) (st, sv) = (0, d)) := Lib.hid (by
            unfold save
            rw [if_neg (by rw [← HFO.out]; unfold top; simp; omega), if_pos heq])
          have same : Hid (∀ w', Below w.heap.size w w' → RSPost w X gr (0, d) (.returned (.int .i64 0)) w') := Lib.hid fun w' hb => ⟨rfl, Only.of_below hb, X, fun k hk => .inl hk, HD.out.1.same (fun _ h => h) (fun k hk => hb.block k (HD.out.2 k hk)), fun k hk => Nat.lt_of_lt_of_le (HD.out.2 k hk) hb.size⟩
          cases heq
          clear h1 h2
          go_wp2_with fail
          go_ret
          rw [HE.out]
          exact same.out _ HB1.out
        · have HE : Hid (save d (et, ev) (st, sv) = saveF d (other (newest d.fs).1) (slotForm ((newest d.fs).2.1 + 1) (st, sv))) := Lib.hid (by
            unfold save
            rw [if_neg (by rw [← HFO.out]; unfold top; simp; omega), if_neg heq])
          have heqq : ∀ w' : World, (Op.equalIn 10000 33 (.agg #[.int .i64 st, .int .i64 sv]) (.agg #[.int .i64 et, .int .i64 ev])).run Tryz.prog w' = .ok false w' := fun w' => by
            rw [eqState_any, decide_eq_false heq]
          clear h1 h2 heq
          go_wp2_with fail
          clear heqq
          refine (RefOn_any d X gr w1 (HD.out.1.same (fun _ h => h) (fun k hk => HB1.out.block k (HD.out.2 k hk))) (fun k hk => Nat.lt_of_lt_of_le (HD.out.2 k hk) HB1.out.size) HWE.out.1.2.1 (Nat.le_trans HU.out (by decide))).mono ?_
          rintro e w2 ⟨rfl, hb2⟩
          have HB2 : Hid (Below w.heap.size w w2) := Lib.hid (HB1.out.trans (hb2.mono HB1.out.size))
          have HZ1 := Lib.hid (old_below HY1.out hb2)
          have hnl := newest_lt d.fs
          obtain ⟨n, hn⟩ : ∃ n, n = newest d.fs := ⟨_, rfl⟩
          rw [← hn] at HE hnl ⊢
          obtain ⟨na, nc, nt, nv⟩ := n
          simp only at HE hnl ⊢
          clear hn hb2
          have hnc : (nc : Int) < 4611686018427387904 := by unfold top at hnl; omega
          by_cases hna : na = 0
          · subst hna
            simp only [Int.natCast_zero]
            go_wp2_with fail
            have HOT : Hid (other 0 = nmH1) := Lib.hid (by unfold other; rfl)
            have HE2 : Hid (save d (et, ev) (st, sv) = saveF d nmH1 (slotForm (nc + 1) (st, sv))) := Lib.hid (by rw [HE.out, HOT.out])
            obtain ⟨nm, hnm⟩ : ∃ nm, nm = nmH1 := ⟨_, rfl⟩
            have HNS : Hid (nm.size ≤ 9223372036854775807) := Lib.hid (by rw [hnm]; decide)
            rw [← hnm] at HE2
            rw [show (⟨#[104, 97, 114, 100, 45, 49]⟩ : ByteArray) = nm from hnm.symm]
            clear hnm HE HOT
            obtain ⟨w3, hw3⟩ : ∃ w3, w3 = w2.alloc (.cells #[.int .i64 nt, .int .i64 nv] 33) := ⟨_, rfl⟩
            have HB3 : Hid (Below w.heap.size w w3) := Lib.hid (by rw [hw3]; exact HB2.out.trans ((below_alloc _ _).mono HB2.out.size))
            have HZ3 := Lib.hid (old_below HZ1.out (by rw [hw3]; exact below_alloc _ _ : Below w2.heap.size w2 w3))
            have HD3 : Hid (DskIn w3 X gr d) := Lib.hid ⟨HD.out.1.same (fun _ h => h) (fun k hk => HB3.out.block k (HD.out.2 k hk)), fun k hk => Nat.lt_of_lt_of_le (HD.out.2 k hk) HB3.out.size⟩
            rw [← hw3]
            clear hw3
            obtain ⟨vl, fv, hat⟩ := HD3.out.1
            obtain ⟨-, ⟨-, l1, -, -⟩, -, lz, -, -⟩ := hat.cells
            obtain ⟨va, vc, rfl⟩ := owned_slice hat.row
            have hfl : (fv.length : Int) ≤ 9223372036854775807 := by have := hat.len.1; omega
            have HLN := Lib.hid hat.len.2
            have HAT := Lib.hid hat
            clear hat
            go_loopw [11, 12] (fun t i wr => wr = w3 ∧ ∃ (k : Nat) (b : Bool), k ≤ fv.length ∧ i = .int .i64 (k : Int) ∧ t = .bool b ∧ Hid (b = (d.fs.take k).any fun f => decide (f.nm = nm))) (fun _ i _ => fv.length - (intOf i).toNat)
            case atStart => exact ⟨rfl, 0, false, Nat.zero_le _, rfl, rfl, Lib.hid rfl⟩
            case round =>
              obtain ⟨rfl, k, b, hk, rfl, rfl, HBK⟩ := hrel
              by_cases hlt : k < fv.length
              · have hkk : (k : Int) < (fv.length : Int) := by omega
                obtain ⟨ga, c, hv, -, -, hgz, -, -, e0, e1, -, -⟩ := HAT.out.file k hlt
                cases hv
                have hk2 : k < d.fs.length := by rw [HLN.out]; exact hlt
                have hgt := HAT.out.get k hlt hk2
                rw [hgt] at e0
                obtain ⟨f, hf⟩ : ∃ f, f = d.fs[k] := ⟨_, rfl⟩
                have HSN : Hid ((d.fs.take (k + 1)).any (fun f => decide (f.nm = nm)) = (b || decide (f.nm = nm))) := Lib.hid (by
                  rw [List.take_succ_eq_append_getElem hk2, List.any_append, ← HBK.out, hf]; simp)
                rw [← hf] at e0
                clear hgt hf e1
                cases b with
                | true =>
                  go_wp2_with fail
                  go_roundw
                  case rel => exact ⟨by first | trivial | rfl, k + 1, true, by omega, by go_num, rfl, Lib.hid (by rw [HSN.out]; rfl)⟩
                  case measure => simp [intOf]; omega
                | false =>
                  cases hq : (f.nm.toList == nm.toList) with
                  | true =>
                    have HQ : Hid (f.nm = nm) := Lib.hid (D.nm_ext (by simpa using hq))
                    go_wp2_with fail
                    go_roundw
                    case rel => exact ⟨by first | trivial | rfl, k + 1, true, by omega, by go_num, rfl, Lib.hid (by rw [HSN.out, decide_eq_true HQ.out]; rfl)⟩
                    case measure => simp [intOf]; omega
                  | false =>
                    have HQ : Hid (¬ f.nm = nm) := Lib.hid fun e => by rw [e] at hq; simp at hq
                    go_wp2_with fail
                    go_roundw
                    case rel => exact ⟨by first | trivial | rfl, k + 1, false, by omega, by go_num, rfl, Lib.hid (by rw [HSN.out, decide_eq_false HQ.out]; rfl)⟩
                    case measure => simp [intOf]; omega
              · have hkk : ¬ (k : Int) < (fv.length : Int) := by omega
                have HTH : Hid (b = D.isThere d.fs nm) := Lib.hid (by
                  rw [HBK.out, List.take_of_length_le (by have := HLN.out; omega), Bool.eq_iff_iff, D.isThere_mem]
                  simp)
                obtain ⟨t, rfl⟩ := Int.eq_ofNat_of_zero_le (show 0 ≤ st by
                  have h3 := HFO.out
                  unfold follows at h3
                  exact (of_decide_eq_true h3.symm).1)
                obtain ⟨v, rfl⟩ : ∃ v : Nat, sv = (v : Int) - 1 := ⟨(sv + 1).toNat, by
                  have h3 := HFO.out
                  unfold follows at h3
                  have := (of_decide_eq_true h3.symm).2.1
                  simp only at this
                  omega⟩
                clear hlt hk HBK
                cases b with
                | false =>
                  obtain ⟨d1, hd1⟩ : ∃ d1, d1 = d := ⟨_, rfl⟩
                  obtain ⟨X1, hX1⟩ : ∃ X1, X1 = X := ⟨_, rfl⟩
                  obtain ⟨w4, hw4⟩ : ∃ w4, w4 = wr := ⟨_, rfl⟩
                  have HSV : Hid (save d (et, ev) ((t : Int), (v : Int) - 1) = if (D.append d1 nm [slotForm (nc + 1) ((t : Int), (v : Int) - 1)]).1 ≠ 0 then D.append d1 nm [slotForm (nc + 1) ((t : Int), (v : Int) - 1)] else D.sync (D.append d1 nm [slotForm (nc + 1) ((t : Int), (v : Int) - 1)]).2 [nm]) := Lib.hid (by
                    rw [HE2.out, hd1]
                    unfold saveF
                    rw [← HTH.out]
                    rfl)
                  have HD4 : Hid (DskIn w4 X1 gr d1) := by rw [hd1, hX1, hw4]; exact HD3
                  have HO4 : Hid (Only X w w4) := Lib.hid (by rw [hw4]; exact Only.of_below HB3.out)
                  have HXS : Hid (∀ k, X1 k → X k ∨ w.heap.size ≤ k) := Lib.hid fun k hk => .inl (by rw [← hX1]; exact hk)
                  have HZ4 : Hid (w4.heap[w.heap.size + 1]? = some (.cells #[.int .i64 (t : Int), .int .i64 ((v : Int) - 1)] 33)) := by rw [hw4]; exact HZ3
                  have HW1 : Hid (Well d1) := by rw [hd1]; exact HWE
                  have HU1 : Hid (D.used d1.fs ≤ 1000000000) := by rw [hd1]; exact HU
                  rw [← hw4] at l1 lz ⊢
                  clear hd1 hX1 hw4
                  obtain ⟨y0, y1, -, -, yz⟩ := block2 HZ4.out
                  go_wp2_with fail
                  have hby := RefBytes_any (nc + 1) t v w4 (Lib.hid (by omega)) (by have := HTP.out; omega) (by have := HTP.out; omega)
                  rw [show ((nc + 1 : Nat) : Int) = (nc : Int) + 1 by simp] at hby
                  simp only [stV] at hby
                  refine hby.mono ?_
                  clear hby
                  rintro e w5 ⟨u5, rfl, ho5⟩
                  have HU5 : Hid (RepB w5 (fun k => k < w5.heap.size ∧ ¬ X1 k) (slotForm (nc + 1) ((t : Int), (v : Int) - 1)) u5) := Lib.hid (ho5.rep.weak fun k hk => ⟨hk.2, fun hx => by
                    have := HD4.out.2 k hx
                    omega⟩)
                  have HB45 := Lib.hid ho5.1
                  obtain ⟨ua, uc, rfl⟩ := ho5.slice
                  obtain ⟨S, hS⟩ : ∃ S, S = slotForm (nc + 1) ((t : Int), (v : Int) - 1) := ⟨_, rfl⟩
                  have HSL : Hid (S.length ≤ 31) := Lib.hid (by rw [hS]; exact slotForm_le _ _)
                  rw [← hS] at HU5 HSV ⊢
                  clear ho5 hS y0 y1 yz
                  go_wp2_with fail
                  have HD5 : Hid (DskIn w5 X1 gr d1) := Lib.hid ⟨HD4.out.1.same (fun _ h => h) (fun k hk => HB45.out.block k (HD4.out.2 k hk)), fun k hk => Nat.lt_of_lt_of_le (HD4.out.2 k hk) HB45.out.size⟩
                  have hb6 := below_alloc w5 (.cells #[.slice ua S.length uc] 35)
                  have hwl := append_well HW1.out nm [S]
                  refine (RefAppend_any d1 X1 gr nm [S] _ _ _ ⟨HD5.out.1.same (fun _ h => h) (fun k hk => hb6.block k (HD5.out.2 k hk)), fun k hk => Nat.lt_of_lt_of_le (HD5.out.2 k hk) hb6.size⟩ (Lib.hid HW1.out.1.1) HNS.out (RepBl.one HU5.out rfl (fun k hk => hk.1)) (fun k hk => ⟨by rcases hk with hk | hk <;> (simp; omega), fun hx => by
                    have a1 := HD5.out.2 k hx
                    rcases hk with hk | hk
                    · exact hk.2 hx
                    · omega⟩) (Lib.hid (by have a1 := HU1.out; have a2 := HSL.out; simp; omega))).mono ?_
                  rintro e w7 ⟨rfl, ho7, hd7⟩
                  have HO6 : Hid (Only X w (w5.alloc (.cells #[.slice ua S.length uc] 35))) := Lib.hid ((HO4.out.next HB45.out).next hb6)
                  have HO7 : Hid (Only X w w7) := Lib.hid (HO6.out.thn HXS.out ho7)
                  obtain ⟨X7, hX7⟩ : ∃ X7, X7 = More X1 (w5.alloc (.cells #[.slice ua S.length uc] 35)) w7 := ⟨_, rfl⟩
                  rw [← hX7] at hd7
                  have HXS7 : Hid (∀ k, X7 k → X k ∨ w.heap.size ≤ k) := Lib.hid fun k hk => by
                    rw [hX7] at hk
                    rcases hk with hk | hk
                    · exact HXS.out k hk
                    · exact .inr (Nat.le_trans HO6.out.size hk.1)
                  have HXL7 : Hid (∀ k, X7 k → k < w7.heap.size) := Lib.hid fun k hk => by
                    rw [hX7] at hk
                    rcases hk with hk | hk
                    · exact Nat.lt_of_lt_of_le (HD5.out.2 k hk) (Nat.le_trans hb6.size ho7.size)
                    · exact hk.2
                  obtain ⟨r, hr⟩ : ∃ r, r = D.append d1 nm [S] := ⟨_, rfl⟩
                  rw [← hr] at HSV hd7 hwl ⊢
                  clear hX7 ho7 hb6 hr
                  obtain ⟨r1, r2⟩ := r
                  simp only at HSV hd7 hwl ⊢
                  have HW7 := Lib.hid hwl.1
                  have HD7 := Lib.hid hd7
                  clear hd7 hwl
                  by_cases hr0 : r1 = 0
                  · subst hr0
                    have HSV2 : Hid (save d (et, ev) ((t : Int), (v : Int) - 1) = D.sync r2 [nm]) := Lib.hid (by rw [HSV.out, if_neg (by simp)])
                    clear HSV
                    go_wp2_with fail
                    have hb8 := below_alloc w7 (.cells #[.string nm] 9)
                    refine (RefSync_any r2 X7 gr [nm] (fun k => k = w7.heap.size) _ (w7.alloc (.cells #[.string nm] 9)) ⟨HD7.out.same (fun _ h => h) (fun k hk => hb8.block k (HXL7.out k hk)), fun k hk => Nat.lt_of_lt_of_le (HXL7.out k hk) hb8.size⟩ (Lib.hid HW7.out.1.1) (RepSl.new (ls := [nm]) rfl rfl (by simp)) (fun k hk => ⟨by simp; omega, fun hx => by have := HXL7.out k hx; omega⟩)).mono ?_
                    rintro e w9 ⟨rfl, ho9, hd9⟩
                    rw [← HSV2.out] at hd9 ⊢
                    have HO8 : Only X w (w7.alloc (.cells #[.string nm] 9)) := HO7.out.next hb8
                    have HFIN : Hid (RSPost w X gr (save d (et, ev) ((t : Int), (v : Int) - 1)) (.returned (.int .i64 (save d (et, ev) ((t : Int), (v : Int) - 1)).1)) w9) := Lib.hid ⟨rfl, HO8.thn HXS7.out ho9, _, fun k hk => by
                      rcases hk with hk | hk
                      · exact HXS7.out k hk
                      · exact .inr (Nat.le_trans HO8.size hk.1), hd9, fun k hk => by
                      rcases hk with hk | hk
                      · exact Nat.lt_of_lt_of_le (HXL7.out k hk) (Nat.le_trans hb8.size ho9.size)
                      · exact hk.2⟩
                    clear hb8 ho9 hd9 HO8
                    go_wp2_with fail
                    go_ret
                    exact HFIN.out
                  · have q1 : (r1 != 0) = true := by simpa using hr0
                    have HSV2 : Hid (save d (et, ev) ((t : Int), (v : Int) - 1) = (r1, r2)) := Lib.hid (by rw [HSV.out, if_pos hr0])
                    clear HSV hr0
                    go_wp2_with fail
                    go_ret
                    rw [HSV2.out]
                    exact ⟨rfl, HO7.out, X7, HXS7.out, HD7.out, HXL7.out⟩
                | true =>
                  go_wp2_with fail
                  have hb4 := below_alloc wr (.cells #[.string nm] 9)
                  have hwl := remove_well HWE.out [nm]
                  refine (RefRemove_any d X gr [nm] (fun k => k = wr.heap.size) _ (wr.alloc (.cells #[.string nm] 9)) ⟨HD3.out.1.same (fun _ h => h) (fun k hk => hb4.block k (HD3.out.2 k hk)), fun k hk => Nat.lt_of_lt_of_le (HD3.out.2 k hk) hb4.size⟩ (Lib.hid HWE.out.1.1) (RepSl.new (ls := [nm]) rfl rfl (by simp)) (fun k hk => ⟨by simp; omega, fun hx => by have := HD3.out.2 k hx; omega⟩)).mono ?_
                  rintro e w4 ⟨rfl, ho4, hd4⟩
                  have HO3 : Hid (Only X w (wr.alloc (.cells #[.string nm] 9))) := Lib.hid ((Only.of_below HB3.out).next hb4)
                  have HO4 : Hid (Only X w w4) := Lib.hid (HO3.out.thn (fun k hk => .inl hk) ho4)
                  obtain ⟨X1, hX1⟩ : ∃ X1, X1 = More X (wr.alloc (.cells #[.string nm] 9)) w4 := ⟨_, rfl⟩
                  rw [← hX1] at hd4
                  have HXS : Hid (∀ k, X1 k → X k ∨ w.heap.size ≤ k) := Lib.hid fun k hk => by
                    rw [hX1] at hk
                    rcases hk with hk | hk
                    · exact .inl hk
                    · exact .inr (Nat.le_trans HO3.out.size hk.1)
                  have HXL : Hid (∀ k, X1 k → k < w4.heap.size) := Lib.hid fun k hk => by
                    rw [hX1] at hk
                    rcases hk with hk | hk
                    · exact Nat.lt_of_lt_of_le (HD3.out.2 k hk) (Nat.le_trans hb4.size ho4.size)
                    · exact hk.2
                  have HZ4 : Hid (w4.heap[w.heap.size + 1]? = some (.cells #[.int .i64 (t : Int), .int .i64 ((v : Int) - 1)] 33)) := Lib.hid (by
                    have h5 := lt_of_heap HZ3.out
                    rw [ho4.block _ (Nat.lt_of_lt_of_le h5 hb4.size) (fun hx => by have := HD.out.2 _ hx; omega)]
                    exact old_below HZ3.out hb4)
                  obtain ⟨r, hr⟩ : ∃ r, r = D.remove d [nm] := ⟨_, rfl⟩
                  rw [← hr] at hd4 hwl ⊢
                  have HSV0 : Hid (save d (et, ev) ((t : Int), (v : Int) - 1) = if r.1 ≠ 0 then r else if (D.append r.2 nm [slotForm (nc + 1) ((t : Int), (v : Int) - 1)]).1 ≠ 0 then D.append r.2 nm [slotForm (nc + 1) ((t : Int), (v : Int) - 1)] else D.sync (D.append r.2 nm [slotForm (nc + 1) ((t : Int), (v : Int) - 1)]).2 [nm]) := Lib.hid (by
                    rw [HE2.out, hr]
                    unfold saveF
                    rw [← HTH.out]
                    rfl)
                  clear hX1 ho4 hb4 hr l1 lz
                  obtain ⟨r0, d1⟩ := r
                  simp only at HSV0 hd4 hwl ⊢
                  have HW1 := Lib.hid hwl.1
                  have HU1 : Hid (D.used d1.fs ≤ 1000000000) := Lib.hid (Nat.le_trans hwl.2 HU.out)
                  have HD4 : Hid (DskIn w4 X1 gr d1) := Lib.hid ⟨hd4, HXL.out⟩
                  clear hd4 hwl
                  by_cases hr00 : r0 = 0
                  · subst hr00
                    have HSV : Hid (save d (et, ev) ((t : Int), (v : Int) - 1) = if (D.append d1 nm [slotForm (nc + 1) ((t : Int), (v : Int) - 1)]).1 ≠ 0 then D.append d1 nm [slotForm (nc + 1) ((t : Int), (v : Int) - 1)] else D.sync (D.append d1 nm [slotForm (nc + 1) ((t : Int), (v : Int) - 1)]).2 [nm]) := Lib.hid (by rw [HSV0.out, if_neg (by simp)])
                    clear HSV0
                    obtain ⟨y0, y1, -, -, yz⟩ := block2 HZ4.out
                    go_wp2_with fail
                    have hby := RefBytes_any (nc + 1) t v w4 (Lib.hid (by omega)) (by have := HTP.out; omega) (by have := HTP.out; omega)
                    rw [show ((nc + 1 : Nat) : Int) = (nc : Int) + 1 by simp] at hby
                    simp only [stV] at hby
                    refine hby.mono ?_
                    clear hby
                    rintro e w5 ⟨u5, rfl, ho5⟩
                    have HU5 : Hid (RepB w5 (fun k => k < w5.heap.size ∧ ¬ X1 k) (slotForm (nc + 1) ((t : Int), (v : Int) - 1)) u5) := Lib.hid (ho5.rep.weak fun k hk => ⟨hk.2, fun hx => by
                      have := HD4.out.2 k hx
                      omega⟩)
                    have HB45 := Lib.hid ho5.1
                    obtain ⟨ua, uc, rfl⟩ := ho5.slice
                    obtain ⟨S, hS⟩ : ∃ S, S = slotForm (nc + 1) ((t : Int), (v : Int) - 1) := ⟨_, rfl⟩
                    have HSL : Hid (S.length ≤ 31) := Lib.hid (by rw [hS]; exact slotForm_le _ _)
                    rw [← hS] at HU5 HSV ⊢
                    clear ho5 hS y0 y1 yz
                    go_wp2_with fail
                    have HD5 : Hid (DskIn w5 X1 gr d1) := Lib.hid ⟨HD4.out.1.same (fun _ h => h) (fun k hk => HB45.out.block k (HD4.out.2 k hk)), fun k hk => Nat.lt_of_lt_of_le (HD4.out.2 k hk) HB45.out.size⟩
                    have hb6 := below_alloc w5 (.cells #[.slice ua S.length uc] 35)
                    have hwl := append_well HW1.out nm [S]
                    refine (RefAppend_any d1 X1 gr nm [S] _ _ _ ⟨HD5.out.1.same (fun _ h => h) (fun k hk => hb6.block k (HD5.out.2 k hk)), fun k hk => Nat.lt_of_lt_of_le (HD5.out.2 k hk) hb6.size⟩ (Lib.hid HW1.out.1.1) HNS.out (RepBl.one HU5.out rfl (fun k hk => hk.1)) (fun k hk => ⟨by rcases hk with hk | hk <;> (simp; omega), fun hx => by
                      have a1 := HD5.out.2 k hx
                      rcases hk with hk | hk
                      · exact hk.2 hx
                      · omega⟩) (Lib.hid (by have a1 := HU1.out; have a2 := HSL.out; simp; omega))).mono ?_
                    rintro e w7 ⟨rfl, ho7, hd7⟩
                    have HO6 : Hid (Only X w (w5.alloc (.cells #[.slice ua S.length uc] 35))) := Lib.hid ((HO4.out.next HB45.out).next hb6)
                    have HO7 : Hid (Only X w w7) := Lib.hid (HO6.out.thn HXS.out ho7)
                    obtain ⟨X7, hX7⟩ : ∃ X7, X7 = More X1 (w5.alloc (.cells #[.slice ua S.length uc] 35)) w7 := ⟨_, rfl⟩
                    rw [← hX7] at hd7
                    have HXS7 : Hid (∀ k, X7 k → X k ∨ w.heap.size ≤ k) := Lib.hid fun k hk => by
                      rw [hX7] at hk
                      rcases hk with hk | hk
                      · exact HXS.out k hk
                      · exact .inr (Nat.le_trans HO6.out.size hk.1)
                    have HXL7 : Hid (∀ k, X7 k → k < w7.heap.size) := Lib.hid fun k hk => by
                      rw [hX7] at hk
                      rcases hk with hk | hk
                      · exact Nat.lt_of_lt_of_le (HD5.out.2 k hk) (Nat.le_trans hb6.size ho7.size)
                      · exact hk.2
                    obtain ⟨r, hr⟩ : ∃ r, r = D.append d1 nm [S] := ⟨_, rfl⟩
                    rw [← hr] at HSV hd7 hwl ⊢
                    clear hX7 ho7 hb6 hr
                    obtain ⟨r1, r2⟩ := r
                    simp only at HSV hd7 hwl ⊢
                    have HW7 := Lib.hid hwl.1
                    have HD7 := Lib.hid hd7
                    clear hd7 hwl
                    by_cases hr0 : r1 = 0
                    · subst hr0
                      have HSV2 : Hid (save d (et, ev) ((t : Int), (v : Int) - 1) = D.sync r2 [nm]) := Lib.hid (by rw [HSV.out, if_neg (by simp)])
                      clear HSV
                      go_wp2_with fail
                      have hb8 := below_alloc w7 (.cells #[.string nm] 9)
                      refine (RefSync_any r2 X7 gr [nm] (fun k => k = w7.heap.size) _ (w7.alloc (.cells #[.string nm] 9)) ⟨HD7.out.same (fun _ h => h) (fun k hk => hb8.block k (HXL7.out k hk)), fun k hk => Nat.lt_of_lt_of_le (HXL7.out k hk) hb8.size⟩ (Lib.hid HW7.out.1.1) (RepSl.new (ls := [nm]) rfl rfl (by simp)) (fun k hk => ⟨by simp; omega, fun hx => by have := HXL7.out k hx; omega⟩)).mono ?_
                      rintro e w9 ⟨rfl, ho9, hd9⟩
                      rw [← HSV2.out] at hd9 ⊢
                      have HO8 : Only X w (w7.alloc (.cells #[.string nm] 9)) := HO7.out.next hb8
                      have HFIN : Hid (RSPost w X gr (save d (et, ev) ((t : Int), (v : Int) - 1)) (.returned (.int .i64 (save d (et, ev) ((t : Int), (v : Int) - 1)).1)) w9) := Lib.hid ⟨rfl, HO8.thn HXS7.out ho9, _, fun k hk => by
                        rcases hk with hk | hk
                        · exact HXS7.out k hk
                        · exact .inr (Nat.le_trans HO8.size hk.1), hd9, fun k hk => by
                        rcases hk with hk | hk
                        · exact Nat.lt_of_lt_of_le (HXL7.out k hk) (Nat.le_trans hb8.size ho9.size)
                        · exact hk.2⟩
                      clear hb8 ho9 hd9 HO8
                      go_wp2_with fail
                      go_ret
                      exact HFIN.out
                    · have q1 : (r1 != 0) = true := by simpa using hr0
                      have HSV2 : Hid (save d (et, ev) ((t : Int), (v : Int) - 1) = (r1, r2)) := Lib.hid (by rw [HSV.out, if_pos hr0])
                      clear HSV hr0
                      go_wp2_with fail
                      go_ret
                      rw [HSV2.out]
                      exact ⟨rfl, HO7.out, X7, HXS7.out, HD7.out, HXL7.out⟩
                  · have q1 : (r0 != 0) = true := by simpa using hr00
                    have HSV2 : Hid (save d (et, ev) ((t : Int), (v : Int) - 1) = (r0, d1)) := Lib.hid (by rw [HSV0.out, if_pos hr00])
                    clear HSV0 hr00
                    go_wp2_with fail
                    go_ret
                    rw [HSV2.out]
                    exact ⟨rfl, HO4.out, X1, HXS.out, HD4.out⟩
          · have q1 : ((na : Int) == 0) = false := beq_eq_false_iff_ne.2 (by omega)
            go_wp2_with fail
            have HOT : Hid (other na = nmH0) := Lib.hid (by unfold other; rw [if_neg hna])
            have HE2 : Hid (save d (et, ev) (st, sv) = saveF d nmH0 (slotForm (nc + 1) (st, sv))) := Lib.hid (by rw [HE.out, HOT.out])
            obtain ⟨nm, hnm⟩ : ∃ nm, nm = nmH0 := ⟨_, rfl⟩
            have HNS : Hid (nm.size ≤ 9223372036854775807) := Lib.hid (by rw [hnm]; decide)
            rw [← hnm] at HE2
            rw [show (⟨#[104, 97, 114, 100, 45, 48]⟩ : ByteArray) = nm from hnm.symm]
            clear hnm HE HOT
            obtain ⟨w3, hw3⟩ : ∃ w3, w3 = w2.alloc (.cells #[.int .i64 nt, .int .i64 nv] 33) := ⟨_, rfl⟩
            have HB3 : Hid (Below w.heap.size w w3) := Lib.hid (by rw [hw3]; exact HB2.out.trans ((below_alloc _ _).mono HB2.out.size))
            have HZ3 := Lib.hid (old_below HZ1.out (by rw [hw3]; exact below_alloc _ _ : Below w2.heap.size w2 w3))
            have HD3 : Hid (DskIn w3 X gr d) := Lib.hid ⟨HD.out.1.same (fun _ h => h) (fun k hk => HB3.out.block k (HD.out.2 k hk)), fun k hk => Nat.lt_of_lt_of_le (HD.out.2 k hk) HB3.out.size⟩
            rw [← hw3]
            clear hw3
            obtain ⟨vl, fv, hat⟩ := HD3.out.1
            obtain ⟨-, ⟨-, l1, -, -⟩, -, lz, -, -⟩ := hat.cells
            obtain ⟨va, vc, rfl⟩ := owned_slice hat.row
            have hfl : (fv.length : Int) ≤ 9223372036854775807 := by have := hat.len.1; omega
            have HLN := Lib.hid hat.len.2
            have HAT := Lib.hid hat
            clear hat
            go_loopw [11, 12] (fun t i wr => wr = w3 ∧ ∃ (k : Nat) (b : Bool), k ≤ fv.length ∧ i = .int .i64 (k : Int) ∧ t = .bool b ∧ Hid (b = (d.fs.take k).any fun f => decide (f.nm = nm))) (fun _ i _ => fv.length - (intOf i).toNat)
            case atStart => exact ⟨rfl, 0, false, Nat.zero_le _, rfl, rfl, Lib.hid rfl⟩
            case round =>
              obtain ⟨rfl, k, b, hk, rfl, rfl, HBK⟩ := hrel
              by_cases hlt : k < fv.length
              · have hkk : (k : Int) < (fv.length : Int) := by omega
                obtain ⟨ga, c, hv, -, -, hgz, -, -, e0, e1, -, -⟩ := HAT.out.file k hlt
                cases hv
                have hk2 : k < d.fs.length := by rw [HLN.out]; exact hlt
                have hgt := HAT.out.get k hlt hk2
                rw [hgt] at e0
                obtain ⟨f, hf⟩ : ∃ f, f = d.fs[k] := ⟨_, rfl⟩
                have HSN : Hid ((d.fs.take (k + 1)).any (fun f => decide (f.nm = nm)) = (b || decide (f.nm = nm))) := Lib.hid (by
                  rw [List.take_succ_eq_append_getElem hk2, List.any_append, ← HBK.out, hf]; simp)
                rw [← hf] at e0
                clear hgt hf e1
                cases b with
                | true =>
                  go_wp2_with fail
                  go_roundw
                  case rel => exact ⟨by first | trivial | rfl, k + 1, true, by omega, by go_num, rfl, Lib.hid (by rw [HSN.out]; rfl)⟩
                  case measure => simp [intOf]; omega
                | false =>
                  cases hq : (f.nm.toList == nm.toList) with
                  | true =>
                    have HQ : Hid (f.nm = nm) := Lib.hid (D.nm_ext (by simpa using hq))
                    go_wp2_with fail
                    go_roundw
                    case rel => exact ⟨by first | trivial | rfl, k + 1, true, by omega, by go_num, rfl, Lib.hid (by rw [HSN.out, decide_eq_true HQ.out]; rfl)⟩
                    case measure => simp [intOf]; omega
                  | false =>
                    have HQ : Hid (¬ f.nm = nm) := Lib.hid fun e => by rw [e] at hq; simp at hq
                    go_wp2_with fail
                    go_roundw
                    case rel => exact ⟨by first | trivial | rfl, k + 1, false, by omega, by go_num, rfl, Lib.hid (by rw [HSN.out, decide_eq_false HQ.out]; rfl)⟩
                    case measure => simp [intOf]; omega
              · have hkk : ¬ (k : Int) < (fv.length : Int) := by omega
                have HTH : Hid (b = D.isThere d.fs nm) := Lib.hid (by
                  rw [HBK.out, List.take_of_length_le (by have := HLN.out; omega), Bool.eq_iff_iff, D.isThere_mem]
                  simp)
                obtain ⟨t, rfl⟩ := Int.eq_ofNat_of_zero_le (show 0 ≤ st by
                  have h3 := HFO.out
                  unfold follows at h3
                  exact (of_decide_eq_true h3.symm).1)
                obtain ⟨v, rfl⟩ : ∃ v : Nat, sv = (v : Int) - 1 := ⟨(sv + 1).toNat, by
                  have h3 := HFO.out
                  unfold follows at h3
                  have := (of_decide_eq_true h3.symm).2.1
                  simp only at this
                  omega⟩
                clear hlt hk HBK
                cases b with
                | false =>
                  obtain ⟨d1, hd1⟩ : ∃ d1, d1 = d := ⟨_, rfl⟩
                  obtain ⟨X1, hX1⟩ : ∃ X1, X1 = X := ⟨_, rfl⟩
                  obtain ⟨w4, hw4⟩ : ∃ w4, w4 = wr := ⟨_, rfl⟩
                  have HSV : Hid (save d (et, ev) ((t : Int), (v : Int) - 1) = if (D.append d1 nm [slotForm (nc + 1) ((t : Int), (v : Int) - 1)]).1 ≠ 0 then D.append d1 nm [slotForm (nc + 1) ((t : Int), (v : Int) - 1)] else D.sync (D.append d1 nm [slotForm (nc + 1) ((t : Int), (v : Int) - 1)]).2 [nm]) := Lib.hid (by
                    rw [HE2.out, hd1]
                    unfold saveF
                    rw [← HTH.out]
                    rfl)
                  have HD4 : Hid (DskIn w4 X1 gr d1) := by rw [hd1, hX1, hw4]; exact HD3
                  have HO4 : Hid (Only X w w4) := Lib.hid (by rw [hw4]; exact Only.of_below HB3.out)
                  have HXS : Hid (∀ k, X1 k → X k ∨ w.heap.size ≤ k) := Lib.hid fun k hk => .inl (by rw [← hX1]; exact hk)
                  have HZ4 : Hid (w4.heap[w.heap.size + 1]? = some (.cells #[.int .i64 (t : Int), .int .i64 ((v : Int) - 1)] 33)) := by rw [hw4]; exact HZ3
                  have HW1 : Hid (Well d1) := by rw [hd1]; exact HWE
                  have HU1 : Hid (D.used d1.fs ≤ 1000000000) := by rw [hd1]; exact HU
                  rw [← hw4] at l1 lz ⊢
                  clear hd1 hX1 hw4
                  obtain ⟨y0, y1, -, -, yz⟩ := block2 HZ4.out
                  go_wp2_with fail
                  have hby := RefBytes_any (nc + 1) t v w4 (Lib.hid (by omega)) (by have := HTP.out; omega) (by have := HTP.out; omega)
                  rw [show ((nc + 1 : Nat) : Int) = (nc : Int) + 1 by simp] at hby
                  simp only [stV] at hby
                  refine hby.mono ?_
                  clear hby
                  rintro e w5 ⟨u5, rfl, ho5⟩
                  have HU5 : Hid (RepB w5 (fun k => k < w5.heap.size ∧ ¬ X1 k) (slotForm (nc + 1) ((t : Int), (v : Int) - 1)) u5) := Lib.hid (ho5.rep.weak fun k hk => ⟨hk.2, fun hx => by
                    have := HD4.out.2 k hx
                    omega⟩)
                  have HB45 := Lib.hid ho5.1
                  obtain ⟨ua, uc, rfl⟩ := ho5.slice
                  obtain ⟨S, hS⟩ : ∃ S, S = slotForm (nc + 1) ((t : Int), (v : Int) - 1) := ⟨_, rfl⟩
                  have HSL : Hid (S.length ≤ 31) := Lib.hid (by rw [hS]; exact slotForm_le _ _)
                  rw [← hS] at HU5 HSV ⊢
                  clear ho5 hS y0 y1 yz
                  go_wp2_with fail
                  have HD5 : Hid (DskIn w5 X1 gr d1) := Lib.hid ⟨HD4.out.1.same (fun _ h => h) (fun k hk => HB45.out.block k (HD4.out.2 k hk)), fun k hk => Nat.lt_of_lt_of_le (HD4.out.2 k hk) HB45.out.size⟩
                  have hb6 := below_alloc w5 (.cells #[.slice ua S.length uc] 35)
                  have hwl := append_well HW1.out nm [S]
                  refine (RefAppend_any d1 X1 gr nm [S] _ _ _ ⟨HD5.out.1.same (fun _ h => h) (fun k hk => hb6.block k (HD5.out.2 k hk)), fun k hk => Nat.lt_of_lt_of_le (HD5.out.2 k hk) hb6.size⟩ (Lib.hid HW1.out.1.1) HNS.out (RepBl.one HU5.out rfl (fun k hk => hk.1)) (fun k hk => ⟨by rcases hk with hk | hk <;> (simp; omega), fun hx => by
                    have a1 := HD5.out.2 k hx
                    rcases hk with hk | hk
                    · exact hk.2 hx
                    · omega⟩) (Lib.hid (by have a1 := HU1.out; have a2 := HSL.out; simp; omega))).mono ?_
                  rintro e w7 ⟨rfl, ho7, hd7⟩
                  have HO6 : Hid (Only X w (w5.alloc (.cells #[.slice ua S.length uc] 35))) := Lib.hid ((HO4.out.next HB45.out).next hb6)
                  have HO7 : Hid (Only X w w7) := Lib.hid (HO6.out.thn HXS.out ho7)
                  obtain ⟨X7, hX7⟩ : ∃ X7, X7 = More X1 (w5.alloc (.cells #[.slice ua S.length uc] 35)) w7 := ⟨_, rfl⟩
                  rw [← hX7] at hd7
                  have HXS7 : Hid (∀ k, X7 k → X k ∨ w.heap.size ≤ k) := Lib.hid fun k hk => by
                    rw [hX7] at hk
                    rcases hk with hk | hk
                    · exact HXS.out k hk
                    · exact .inr (Nat.le_trans HO6.out.size hk.1)
                  have HXL7 : Hid (∀ k, X7 k → k < w7.heap.size) := Lib.hid fun k hk => by
                    rw [hX7] at hk
                    rcases hk with hk | hk
                    · exact Nat.lt_of_lt_of_le (HD5.out.2 k hk) (Nat.le_trans hb6.size ho7.size)
                    · exact hk.2
                  obtain ⟨r, hr⟩ : ∃ r, r = D.append d1 nm [S] := ⟨_, rfl⟩
                  rw [← hr] at HSV hd7 hwl ⊢
                  clear hX7 ho7 hb6 hr
                  obtain ⟨r1, r2⟩ := r
                  simp only at HSV hd7 hwl ⊢
                  have HW7 := Lib.hid hwl.1
                  have HD7 := Lib.hid hd7
                  clear hd7 hwl
                  by_cases hr0 : r1 = 0
                  · subst hr0
                    have HSV2 : Hid (save d (et, ev) ((t : Int), (v : Int) - 1) = D.sync r2 [nm]) := Lib.hid (by rw [HSV.out, if_neg (by simp)])
                    clear HSV
                    go_wp2_with fail
                    have hb8 := below_alloc w7 (.cells #[.string nm] 9)
                    refine (RefSync_any r2 X7 gr [nm] (fun k => k = w7.heap.size) _ (w7.alloc (.cells #[.string nm] 9)) ⟨HD7.out.same (fun _ h => h) (fun k hk => hb8.block k (HXL7.out k hk)), fun k hk => Nat.lt_of_lt_of_le (HXL7.out k hk) hb8.size⟩ (Lib.hid HW7.out.1.1) (RepSl.new (ls := [nm]) rfl rfl (by simp)) (fun k hk => ⟨by simp; omega, fun hx => by have := HXL7.out k hx; omega⟩)).mono ?_
                    rintro e w9 ⟨rfl, ho9, hd9⟩
                    rw [← HSV2.out] at hd9 ⊢
                    have HO8 : Only X w (w7.alloc (.cells #[.string nm] 9)) := HO7.out.next hb8
                    have HFIN : Hid (RSPost w X gr (save d (et, ev) ((t : Int), (v : Int) - 1)) (.returned (.int .i64 (save d (et, ev) ((t : Int), (v : Int) - 1)).1)) w9) := Lib.hid ⟨rfl, HO8.thn HXS7.out ho9, _, fun k hk => by
                      rcases hk with hk | hk
                      · exact HXS7.out k hk
                      · exact .inr (Nat.le_trans HO8.size hk.1), hd9, fun k hk => by
                      rcases hk with hk | hk
                      · exact Nat.lt_of_lt_of_le (HXL7.out k hk) (Nat.le_trans hb8.size ho9.size)
                      · exact hk.2⟩
                    clear hb8 ho9 hd9 HO8
                    go_wp2_with fail
                    go_ret
                    exact HFIN.out
                  · have q1 : (r1 != 0) = true := by simpa using hr0
                    have HSV2 : Hid (save d (et, ev) ((t : Int), (v : Int) - 1) = (r1, r2)) := Lib.hid (by rw [HSV.out, if_pos hr0])
                    clear HSV hr0
                    go_wp2_with fail
                    go_ret
                    rw [HSV2.out]
                    exact ⟨rfl, HO7.out, X7, HXS7.out, HD7.out, HXL7.out⟩
                | true =>
                  go_wp2_with fail
                  have hb4 := below_alloc wr (.cells #[.string nm] 9)
                  have hwl := remove_well HWE.out [nm]
                  refine (RefRemove_any d X gr [nm] (fun k => k = wr.heap.size) _ (wr.alloc (.cells #[.string nm] 9)) ⟨HD3.out.1.same (fun _ h => h) (fun k hk => hb4.block k (HD3.out.2 k hk)), fun k hk => Nat.lt_of_lt_of_le (HD3.out.2 k hk) hb4.size⟩ (Lib.hid HWE.out.1.1) (RepSl.new (ls := [nm]) rfl rfl (by simp)) (fun k hk => ⟨by simp; omega, fun hx => by have := HD3.out.2 k hx; omega⟩)).mono ?_
                  rintro e w4 ⟨rfl, ho4, hd4⟩
                  have HO3 : Hid (Only X w (wr.alloc (.cells #[.string nm] 9))) := Lib.hid ((Only.of_below HB3.out).next hb4)
                  have HO4 : Hid (Only X w w4) := Lib.hid (HO3.out.thn (fun k hk => .inl hk) ho4)
                  obtain ⟨X1, hX1⟩ : ∃ X1, X1 = More X (wr.alloc (.cells #[.string nm] 9)) w4 := ⟨_, rfl⟩
                  rw [← hX1] at hd4
                  have HXS : Hid (∀ k, X1 k → X k ∨ w.heap.size ≤ k) := Lib.hid fun k hk => by
                    rw [hX1] at hk
                    rcases hk with hk | hk
                    · exact .inl hk
                    · exact .inr (Nat.le_trans HO3.out.size hk.1)
                  have HXL : Hid (∀ k, X1 k → k < w4.heap.size) := Lib.hid fun k hk => by
                    rw [hX1] at hk
                    rcases hk with hk | hk
                    · exact Nat.lt_of_lt_of_le (HD3.out.2 k hk) (Nat.le_trans hb4.size ho4.size)
                    · exact hk.2
                  have HZ4 : Hid (w4.heap[w.heap.size + 1]? = some (.cells #[.int .i64 (t : Int), .int .i64 ((v : Int) - 1)] 33)) := Lib.hid (by
                    have h5 := lt_of_heap HZ3.out
                    rw [ho4.block _ (Nat.lt_of_lt_of_le h5 hb4.size) (fun hx => by have := HD.out.2 _ hx; omega)]
                    exact old_below HZ3.out hb4)
                  obtain ⟨r, hr⟩ : ∃ r, r = D.remove d [nm] := ⟨_, rfl⟩
                  rw [← hr] at hd4 hwl ⊢
                  have HSV0 : Hid (save d (et, ev) ((t : Int), (v : Int) - 1) = if r.1 ≠ 0 then r else if (D.append r.2 nm [slotForm (nc + 1) ((t : Int), (v : Int) - 1)]).1 ≠ 0 then D.append r.2 nm [slotForm (nc + 1) ((t : Int), (v : Int) - 1)] else D.sync (D.append r.2 nm [slotForm (nc + 1) ((t : Int), (v : Int) - 1)]).2 [nm]) := Lib.hid (by
                    rw [HE2.out, hr]
                    unfold saveF
                    rw [← HTH.out]
                    rfl)
                  clear hX1 ho4 hb4 hr l1 lz
                  obtain ⟨r0, d1⟩ := r
                  simp only at HSV0 hd4 hwl ⊢
                  have HW1 := Lib.hid hwl.1
                  have HU1 : Hid (D.used d1.fs ≤ 1000000000) := Lib.hid (Nat.le_trans hwl.2 HU.out)
                  have HD4 : Hid (DskIn w4 X1 gr d1) := Lib.hid ⟨hd4, HXL.out⟩
                  clear hd4 hwl
                  by_cases hr00 : r0 = 0
                  · subst hr00
                    have HSV : Hid (save d (et, ev) ((t : Int), (v : Int) - 1) = if (D.append d1 nm [slotForm (nc + 1) ((t : Int), (v : Int) - 1)]).1 ≠ 0 then D.append d1 nm [slotForm (nc + 1) ((t : Int), (v : Int) - 1)] else D.sync (D.append d1 nm [slotForm (nc + 1) ((t : Int), (v : Int) - 1)]).2 [nm]) := Lib.hid (by rw [HSV0.out, if_neg (by simp)])
                    clear HSV0
                    obtain ⟨y0, y1, -, -, yz⟩ := block2 HZ4.out
                    go_wp2_with fail
                    have hby := RefBytes_any (nc + 1) t v w4 (Lib.hid (by omega)) (by have := HTP.out; omega) (by have := HTP.out; omega)
                    rw [show ((nc + 1 : Nat) : Int) = (nc : Int) + 1 by simp] at hby
                    simp only [stV] at hby
                    refine hby.mono ?_
                    clear hby
                    rintro e w5 ⟨u5, rfl, ho5⟩
                    have HU5 : Hid (RepB w5 (fun k => k < w5.heap.size ∧ ¬ X1 k) (slotForm (nc + 1) ((t : Int), (v : Int) - 1)) u5) := Lib.hid (ho5.rep.weak fun k hk => ⟨hk.2, fun hx => by
                      have := HD4.out.2 k hx
                      omega⟩)
                    have HB45 := Lib.hid ho5.1
                    obtain ⟨ua, uc, rfl⟩ := ho5.slice
                    obtain ⟨S, hS⟩ : ∃ S, S = slotForm (nc + 1) ((t : Int), (v : Int) - 1) := ⟨_, rfl⟩
                    have HSL : Hid (S.length ≤ 31) := Lib.hid (by rw [hS]; exact slotForm_le _ _)
                    rw [← hS] at HU5 HSV ⊢
                    clear ho5 hS y0 y1 yz
                    go_wp2_with fail
                    have HD5 : Hid (DskIn w5 X1 gr d1) := Lib.hid ⟨HD4.out.1.same (fun _ h => h) (fun k hk => HB45.out.block k (HD4.out.2 k hk)), fun k hk => Nat.lt_of_lt_of_le (HD4.out.2 k hk) HB45.out.size⟩
                    have hb6 := below_alloc w5 (.cells #[.slice ua S.length uc] 35)
                    have hwl := append_well HW1.out nm [S]
                    refine (RefAppend_any d1 X1 gr nm [S] _ _ _ ⟨HD5.out.1.same (fun _ h => h) (fun k hk => hb6.block k (HD5.out.2 k hk)), fun k hk => Nat.lt_of_lt_of_le (HD5.out.2 k hk) hb6.size⟩ (Lib.hid HW1.out.1.1) HNS.out (RepBl.one HU5.out rfl (fun k hk => hk.1)) (fun k hk => ⟨by rcases hk with hk | hk <;> (simp; omega), fun hx => by
                      have a1 := HD5.out.2 k hx
                      rcases hk with hk | hk
                      · exact hk.2 hx
                      · omega⟩) (Lib.hid (by have a1 := HU1.out; have a2 := HSL.out; simp; omega))).mono ?_
                    rintro e w7 ⟨rfl, ho7, hd7⟩
                    have HO6 : Hid (Only X w (w5.alloc (.cells #[.slice ua S.length uc] 35))) := Lib.hid ((HO4.out.next HB45.out).next hb6)
                    have HO7 : Hid (Only X w w7) := Lib.hid (HO6.out.thn HXS.out ho7)
                    obtain ⟨X7, hX7⟩ : ∃ X7, X7 = More X1 (w5.alloc (.cells #[.slice ua S.length uc] 35)) w7 := ⟨_, rfl⟩
                    rw [← hX7] at hd7
                    have HXS7 : Hid (∀ k, X7 k → X k ∨ w.heap.size ≤ k) := Lib.hid fun k hk => by
                      rw [hX7] at hk
                      rcases hk with hk | hk
                      · exact HXS.out k hk
                      · exact .inr (Nat.le_trans HO6.out.size hk.1)
                    have HXL7 : Hid (∀ k, X7 k → k < w7.heap.size) := Lib.hid fun k hk => by
                      rw [hX7] at hk
                      rcases hk with hk | hk
                      · exact Nat.lt_of_lt_of_le (HD5.out.2 k hk) (Nat.le_trans hb6.size ho7.size)
                      · exact hk.2
                    obtain ⟨r, hr⟩ : ∃ r, r = D.append d1 nm [S] := ⟨_, rfl⟩
                    rw [← hr] at HSV hd7 hwl ⊢
                    clear hX7 ho7 hb6 hr
                    obtain ⟨r1, r2⟩ := r
                    simp only at HSV hd7 hwl ⊢
                    have HW7 := Lib.hid hwl.1
                    have HD7 := Lib.hid hd7
                    clear hd7 hwl
                    by_cases hr0 : r1 = 0
                    · subst hr0
                      have HSV2 : Hid (save d (et, ev) ((t : Int), (v : Int) - 1) = D.sync r2 [nm]) := Lib.hid (by rw [HSV.out, if_neg (by simp)])
                      clear HSV
                      go_wp2_with fail
                      have hb8 := below_alloc w7 (.cells #[.string nm] 9)
                      refine (RefSync_any r2 X7 gr [nm] (fun k => k = w7.heap.size) _ (w7.alloc (.cells #[.string nm] 9)) ⟨HD7.out.same (fun _ h => h) (fun k hk => hb8.block k (HXL7.out k hk)), fun k hk => Nat.lt_of_lt_of_le (HXL7.out k hk) hb8.size⟩ (Lib.hid HW7.out.1.1) (RepSl.new (ls := [nm]) rfl rfl (by simp)) (fun k hk => ⟨by simp; omega, fun hx => by have := HXL7.out k hx; omega⟩)).mono ?_
                      rintro e w9 ⟨rfl, ho9, hd9⟩
                      rw [← HSV2.out] at hd9 ⊢
                      have HO8 : Only X w (w7.alloc (.cells #[.string nm] 9)) := HO7.out.next hb8
                      have HFIN : Hid (RSPost w X gr (save d (et, ev) ((t : Int), (v : Int) - 1)) (.returned (.int .i64 (save d (et, ev) ((t : Int), (v : Int) - 1)).1)) w9) := Lib.hid ⟨rfl, HO8.thn HXS7.out ho9, _, fun k hk => by
                        rcases hk with hk | hk
                        · exact HXS7.out k hk
                        · exact .inr (Nat.le_trans HO8.size hk.1), hd9, fun k hk => by
                        rcases hk with hk | hk
                        · exact Nat.lt_of_lt_of_le (HXL7.out k hk) (Nat.le_trans hb8.size ho9.size)
                        · exact hk.2⟩
                      clear hb8 ho9 hd9 HO8
                      go_wp2_with fail
                      go_ret
                      exact HFIN.out
                    · have q1 : (r1 != 0) = true := by simpa using hr0
                      have HSV2 : Hid (save d (et, ev) ((t : Int), (v : Int) - 1) = (r1, r2)) := Lib.hid (by rw [HSV.out, if_pos hr0])
                      clear HSV hr0
                      go_wp2_with fail
                      go_ret
                      rw [HSV2.out]
                      exact ⟨rfl, HO7.out, X7, HXS7.out, HD7.out, HXL7.out⟩
                  · have q1 : (r0 != 0) = true := by simpa using hr00
                    have HSV2 : Hid (save d (et, ev) ((t : Int), (v : Int) - 1) = (r0, d1)) := Lib.hid (by rw [HSV0.out, if_pos hr00])
                    clear HSV0 hr00
                    go_wp2_with fail
                    go_ret
                    rw [HSV2.out]
                    exact ⟨rfl, HO4.out, X1, HXS.out, HD4.out⟩
end Go.Proofs.YtgakcaobalfpjaaGreatDoor.M

/- Part: DiskRef13. -/
namespace Go.Proofs.YtgakcaobalfpjaaGreatDoor.M
open Go.RowKit
open D (Fl Dk)

theorem crashFs_length : ∀ (fs : List Fl) (ks : List Int), (D.crashFs fs ks).length = fs.length
  | [], _ => rfl
  | f :: r, ks => by simp [D.crashFs, crashFs_length r]

theorem crashFs_get : ∀ (fs : List Fl) (ks : List Int) (i : Nat) (h : i < fs.length) (h2 : i < (D.crashFs fs ks).length), (D.crashFs fs ks)[i] = { fs[i] with b := fs[i].b.take (D.stays fs[i] ks[i]?), safe := D.stays fs[i] ks[i]? }
  | f :: r, ks, 0, _, _ => by cases ks <;> simp [D.crashFs]
  | f :: r, ks, i + 1, h, h2 => by
    have := crashFs_get r ks.tail i (by simpa using h) (by rw [crashFs_length]; simpa using h)
    simp only [D.crashFs, List.getElem_cons_succ]
    rw [this, List.getElem?_tail]

theorem stays_leR {f : Fl} (h : f.safe ≤ f.b.length) (k : Option Int) : D.stays f k ≤ f.b.length := by
  unfold D.stays
  cases k with
  | none => exact h
  | some k => simp only; split <;> omega

/-- The files, the first k of them behind the crash. -/
def midC (fs : List Fl) (ks : List Int) (k : Nat) : List Fl := (D.crashFs fs ks).take k ++ fs.drop k

theorem midC_next (fs : List Fl) (ks : List Int) (k : Nat) (h : k < fs.length) : midC fs ks (k + 1) = (midC fs ks k).set k { fs[k] with b := fs[k].b.take (D.stays fs[k] ks[k]?), safe := D.stays fs[k] ks[k]? } := by
  have hl : k < (D.crashFs fs ks).length := by rw [crashFs_length]; exact h
  unfold midC
  rw [List.take_succ_eq_append_getElem hl, crashFs_get fs ks k h hl, List.set_append_right _ _ (by simp; omega), show k - (List.take k (D.crashFs fs ks)).length = 0 from by simp; omega, List.drop_eq_getElem_cons h]
  simp only [List.set_cons_zero, List.append_assoc, List.cons_append, List.nil_append]

theorem midC_at (fs : List Fl) (ks : List Int) (k : Nat) (h : k < fs.length) : (midC fs ks k)[k]? = some fs[k] := by
  unfold midC
  rw [List.getElem?_append_right (by simp [crashFs_length]; omega), List.length_take, crashFs_length, Nat.min_eq_left (Nat.le_of_lt h), Nat.sub_self, List.getElem?_drop, Nat.add_zero, List.getElem?_eq_getElem h]

theorem midC_length (fs : List Fl) (ks : List Int) (k : Nat) (h : k ≤ fs.length) : (midC fs ks k).length = fs.length := by
  unfold midC; simp [crashFs_length]; omega

/-- The state at the head of Crash's loop. -/
def CraAt (w : World) (X : Nat → Prop) (gd _ga n _c : Nat) (d : Dk) (ks : List Int) (k : Nat) (gone : Int) (wr : World) : Prop :=
  k ≤ d.fs.length ∧ Only X w wr ∧ wr.heap.size = w.heap.size ∧ gone = (D.used (d.fs.take k) : Int) - (D.used ((D.crashFs d.fs ks).take k) : Int) ∧
    ∃ vl fv, fv.length = n ∧ DkAt wr X gd { d with fs := midC d.fs ks k, ends := false } vl fv

theorem used_crash (fs : List Fl) (ks : List Int) (hs : ∀ f ∈ fs, f.safe ≤ f.b.length) : ∀ k, k ≤ fs.length → D.used ((D.crashFs fs ks).take k) ≤ D.used (fs.take k)
  | 0, _ => by simp [D.used]
  | k + 1, h => by
    have hl : k < (D.crashFs fs ks).length := by rw [crashFs_length]; omega
    have ih := used_crash fs ks hs k (by omega)
    rw [D.used_take fs k (by omega), D.used_take (D.crashFs fs ks) k hl, crashFs_get fs ks k (by omega) hl]
    simp only [List.length_take]
    have := stays_leR (hs fs[k] (List.getElem_mem (by omega))) ks[k]?
    omega

theorem cra_bound {d : Dk} {ks : List Int} {k : Nat} {gone : Int} {f : Fl} (hs : ∀ f ∈ d.fs, f.safe ≤ f.b.length) (hu : D.used d.fs ≤ 1099511627776) (hk : k < d.fs.length) (hf : f = d.fs[k])
    (hg : gone = (D.used (d.fs.take k) : Int) - (D.used ((D.crashFs d.fs ks).take k) : Int)) : 0 ≤ gone ∧ gone ≤ 1099511627776 ∧ gone + (f.b.length : Int) ≤ 1099511627776 := by
  have h1 := used_crash d.fs ks hs k (by omega)
  have h2 := D.used_le d.fs (k + 1)
  rw [D.used_take d.fs k hk, ← hf] at h2
  omega

theorem CraAt.drew {w wr : World} {X : Nat → Prop} {gd ga n c k : Nat} {d : Dk} {ks : List Int} {gone : Int} (h : CraAt w X gd ga n c d ks k gone wr) : CraAt w X gd ga n c d ks k gone wr.drew := by
  obtain ⟨h1, h2, h3, h4, vl, fv, h5, h6⟩ := h
  exact ⟨h1, ⟨h2.os, h2.tape, h2.output, h2.size, h2.block⟩, h3, h4, vl, fv, h5, h6.same (fun _ h => h) fun _ _ => rfl⟩

theorem cra_put {w wr W0 : World} {X : Nat → Prop} {gd ga n lc k N : Nat} {d : Dk} {ks : List Int} {gone : Int} {fw : List (Fl × Value)} {f : Fl} {ba : Option Addr} {bc : Nat} (hk : k < d.fs.length) (ho : Only X w wr) (hsz : wr.heap.size = w.heap.size)
    (hg : gone = (D.used (d.fs.take k) : Int) - (D.used ((D.crashFs d.fs ks).take k) : Int)) (hfw : fw.length = n) (hat : DkAt wr X gd { d with fs := midC d.fs ks k, ends := false } (.slice (some ⟨ga, 0, none⟩) fw.length lc) fw)
    (hX : ∀ k, X k → k < w.heap.size) (hlt : k < fw.length) (hfe : fw[k] = (f, .slice ba f.b.length bc)) (hf : f = d.fs[k]) (hN : N = D.stays f ks[k]?) (hNl : N ≤ f.b.length) (hXa : X ga) (hW : ∀ j : Nat, W0.heap[j]? = wr.heap[j]?) (hWs : W0.heap.size = wr.heap.size)
    (hWw : W0.os = wr.os ∧ W0.tape = wr.tape ∧ W0.output = wr.output) :
    CraAt w X gd 0 n 0 d ks (k + 1) (gone + (f.b.length : Int) - (N : Int)) ((W0.setCell ⟨ga, k * 3 + 1, none⟩ (.slice ba N bc)).setCell ⟨ga, k * 3 + 2, none⟩ (.int .i64 (N : Int))) := by
  have hat0 := hat.same (w' := W0) (Y := X) (fun _ h => h) fun j _ => hW j
  have hX0 : ∀ j, X j → j < W0.heap.size := fun j hj => by rw [hWs, hsz]; exact hX j hj
  have hp1 := hat0.put (Y := X) (w1 := W0) (p := ({ f with b := f.b.take N }, .slice ba N bc)) (j := 1) (x := .slice ba N bc) hlt (fun _ h => h) hX0 (fun _ _ _ => rfl) (by omega) (by rw [hfe]; simp [flV])
    (by
      have := hat0.each fw[k] (List.getElem_mem hlt)
      rw [hfe] at this
      exact ownsRow_cut this hNl)
    (fun j hj => .inl (by rw [hfe]; rw [ownBlock_len (m := f.b.length) (c' := bc)] at hj; exact hj))
  rw [show fw.length = (fw.set k (({ f with b := f.b.take N } : Fl), Value.slice ba N bc)).length from by simp] at hp1
  have hp2 := hp1.put (Y := X) (w1 := W0.setCell ⟨ga, k * 3 + 1, none⟩ (.slice ba N bc)) (i := k) (p := ({ f with b := f.b.take N, safe := N }, .slice ba N bc)) (j := 2) (x := .int .i64 (N : Int)) (by simpa using hlt) (fun _ h => h) (fun j hj => by simpa using hX0 j hj) (fun _ _ _ => rfl) (by omega)
    (by simp [flV]) (by
      have := hp1.each ({ f with b := f.b.take N }, .slice ba N bc) (by
        rw [List.mem_iff_getElem]
        exact ⟨k, by simpa using hlt, by simp⟩)
      exact this)
    (fun j hj => .inl (by simpa using hj))
  rw [List.set_set] at hp2
  simp only [List.length_set, List.set_set] at hp2
  have hoW : Only X w W0 := ⟨hWw.1.trans ho.os, hWw.2.1.trans ho.tape, hWw.2.2.trans ho.output, by rw [hWs]; exact ho.size, fun j hj hne => (hW j).trans (ho.block j hj hne)⟩
  refine ⟨by omega, (hoW.set (.inl hXa) _).set (.inl hXa) _, by simp [hWs, hsz], ?_, .slice (some ⟨ga, 0, none⟩) fw.length lc, fw.set k ({ f with b := f.b.take N, safe := N }, .slice ba N bc), by simpa using hfw, ?_⟩
  · have hl : k < (D.crashFs d.fs ks).length := by rw [crashFs_length]; exact hk
    rw [D.used_take d.fs k hk, D.used_take (D.crashFs d.fs ks) k hl, crashFs_get d.fs ks k hk hl, hg, ← hf, ← hN]
    simp only [List.length_take]
    omega
  · rw [midC_next d.fs ks k hk, ← hf, ← hN]
    exact hp2

set_option maxRecDepth 20000 in
set_option maxHeartbeats 3200000 in
theorem RefCrash_any (d : Dk) (X : Nat → Prop) (gd : Nat) (ks : List Int) (F : Nat → Prop) (vk : Value) (w : World) (hd : DskIn w X gd d) (_hf : Hid (Fine d)) (hsf : Hid (∀ f ∈ d.fs, f.safe ≤ f.b.length)) (hu : Hid (D.used d.fs ≤ 1099511627776))
    (hv : RepI w F ks vk) (hF : ∀ k, F k → k < w.heap.size ∧ ¬ X k) :
    Calls Tryz.prog 14 #[.pointer (some ⟨gd, 0, none⟩), vk] w fun e w' => e = .returned (.int .i64 ((D.crash d ks).1 : Int)) ∧ Only X w w' ∧ Dsk w' X gd (D.crash d ks).2 ∧ w'.heap.size = w.heap.size := by
  obtain ⟨na, nc, rfl, hnl⟩ := hv.slice
  have HX := Lib.hid hd.2
  have HV := Lib.hid hv
  have HF := Lib.hid hF
  obtain ⟨vl, fv, hat⟩ := hd.1
  obtain ⟨cc, ⟨-, -, c2, -⟩, ⟨-, -, f2, -⟩, hz, hbox, -⟩ := hat.cells
  have HBX := Lib.hid hbox
  have HAT := Lib.hid hat
  clear hd hv hF hbox hat
  go_enter Tryz.func14, Tryz.ntmps14
  go_wp2_with fail
  have H0 : Hid (CraAt w X gd 0 fv.length 0 d ks 0 0 (w.setCell ⟨gd, 2, none⟩ (.bool false))) := Lib.hid ⟨Nat.zero_le _, (Only.refl _ _).set (.inl HAT.out.own) _, by simp, by simp, vl, fv, rfl, by
    have := HAT.out.turned (w' := w.setCell ⟨gd, 2, none⟩ (.bool false)) (e := { d with fs := midC d.fs ks 0, ends := false }) (by simp [midC]) ⟨cc, by rw [heap_setCell_same _ _ _ _ _ _ HBX.out]; simp, fun h => by cases h⟩ fun k hk => Below.heap_setCell _ _ _ _ (by simpa using hk)
    exact this⟩
  go_loopw [5, 6, 7] (fun g i _ wr => ∃ (k : Nat) (gone : Int), i = .int .i64 (k : Int) ∧ g = .int .i64 gone ∧ CraAt w X gd 0 fv.length 0 d ks k gone wr) (fun _ i _ _ => fv.length - (intOf i).toNat)
  case atStart => exact ⟨0, 0, rfl, rfl, H0.out⟩
  case round =>
    obtain ⟨k, gone, rfl, rfl, hat⟩ := hrel
    obtain ⟨hk, ho, hsz, hg, vl2, fw, hfw, hat⟩ := hat
    have hlen := hat.len.2
    simp only [midC_length d.fs ks k hk] at hlen
    obtain ⟨cc2, ⟨-, k1, -, -⟩, -, kz, -, -⟩ := hat.cells
    obtain ⟨la, lc, rfl⟩ := owned_slice hat.row
    have HO := Lib.hid ho
    have HSZ := Lib.hid hsz
    have HG := Lib.hid hg
    have HATW := Lib.hid hat
    have HLEN := Lib.hid hlen
    have hfl := hat.len.1
    clear ho hsz hg hat
    by_cases hlt : k < fw.length
    · have hkk : (k : Int) < (fw.length : Int) := by omega
      have hkd : k < d.fs.length := by have := HLEN.out; omega
      obtain ⟨ga, c, hv, hXa, hgag, hgz, hnc, hcm, -, e1, e2, hfz⟩ := HATW.out.file k hlt
      cases hv
      obtain ⟨ba, bc, hb, hbl⟩ := HATW.out.bytes k hlt
      obtain ⟨f, hf0⟩ : ∃ f, f = d.fs[k] := ⟨_, rfl⟩
      have hgt : fw[k].1 = f := by
        have h1 := HATW.out.get k hlt (by show k < (midC d.fs ks k).length; rw [midC_length _ _ _ hk]; exact hkd)
        have h2 := midC_at d.fs ks k hkd
        rw [List.getElem?_eq_getElem (by rw [midC_length _ _ _ hk]; exact hkd)] at h2
        rw [h1, hf0]
        exact Option.some.inj h2
      have hfw2 : fw[k] = (f, .slice ba f.b.length bc) := by rw [← hgt, ← hb]
      rw [hgt] at hb hbl e2
      rw [hb] at e1
      have hsafe : f.safe ≤ f.b.length := hsf.out f (by rw [hf0]; exact List.getElem_mem hkd)
      have hused : f.b.length ≤ 1099511627776 := by
        have a := D.used_take d.fs k hkd
        have b := D.used_le d.fs (k + 1)
        have := hu.out
        rw [hf0]; omega
      have hs0 : (f.safe : Int) ≤ (f.b.length : Int) := by omega
      have hl0 : (f.b.length : Int) ≤ 1099511627776 := by omega
      have HF0 := Lib.hid hf0
      have HFW := Lib.hid hfw2
      have f1 := hfz (k * 3 + 1)
      have f2' := hfz (k * 3 + 2)
      obtain ⟨N, hNe⟩ : ∃ N, N = D.stays f ks[k]? := ⟨_, rfl⟩
      have hNl : N ≤ f.b.length := by rw [hNe]; exact stays_leR hsafe _
      have HNN := Lib.hid hNe
      have hgb : 0 ≤ gone ∧ gone ≤ 1099511627776 ∧ gone + (f.b.length : Int) ≤ 1099511627776 := cra_bound hsf.out hu.out hkd hf0 HG.out
      obtain ⟨hg1, hg2, hg3⟩ := hgb
      have hgag' : gd ≠ ga := fun e => hgag e.symm
      have hcase : (ba = none ∧ f.b.length = 0 ∧ bc = 0) ∨ ∃ g, ba = some ⟨g, 0, none⟩ ∧ f.b.length ≤ bc := by
        have := (HATW.out.each (fw[k]) (List.getElem_mem _)).2
        rw [hfw2] at this
        rcases this with ⟨h, h0⟩ | ⟨g, cap, cur, h, _, _, h3, _⟩
        · simp only [Value.slice.injEq] at h; exact .inl ⟨h.1, h0, h.2.2⟩
        · simp only [Value.slice.injEq] at h
          have h3' : f.b.length ≤ cap := h3
          exact .inr ⟨g, h.1, by omega⟩
      clear hb hgt hfw2 hf0 hbl hfz hNe
      by_cases hkl : k < ks.length
      · have hkl2 : (k : Int) < (ks.length : Int) := by omega
        have hvr : RepI wr (fun k => F k) ks (.slice na ks.length nc) := HV.out.same (fun _ h => h) fun j hj => HO.out.block j (HF.out j hj).1 (HF.out j hj).2
        obtain ⟨b, off, rfl, hFb, hc, hz1, hz2⟩ := hvr.elem k hkl
        have hbz : b < wr.heap.size := by rw [HSZ.out]; exact (HF.out b hFb).1
        obtain ⟨z, hze⟩ : ∃ z, z = ks[k] := ⟨_, rfl⟩
        rw [← hze] at hc hz1 hz2
        have HZE := Lib.hid hze
        clear hze hvr
        by_cases hpos : 0 < z
        · by_cases hmin : (f.b.length : Int) - (f.safe : Int) < z
          · have hN : (N : Int) = (f.safe : Int) + ((f.b.length : Int) - (f.safe : Int)) := by
              have := HNN.out
              rw [List.getElem?_eq_getElem hkl, ← HZE.out] at this
              unfold D.stays at this
              simp only [if_pos hpos] at this
              omega
            go_wp2_with fail
            go_quiet (fail)
            go_wp2_with fail
            first
              | rw [show (f.safe : Int) + ((f.b.length : Int) - (f.safe : Int)) = (N : Int) from by omega]
              | rw [show (f.safe : Int) + min z ((f.b.length : Int) - (f.safe : Int)) = (N : Int) from by omega]
            have HNE := Lib.hid hN
            clear hN
            generalize hW0 : World.drewN wr _ = W0
            have hpu := cra_put (W0 := W0) (N := N) (gone := gone) (by omega) HO.out HSZ.out HG.out hfw HATW.out HX.out hlt HFW.out HF0.out HNN.out hNl hXa (fun j => by rw [← hW0]; rfl) (by rw [← hW0]; rfl) (by rw [← hW0]; exact ⟨rfl, rfl, rfl⟩)
            have HPU := Lib.hid hpu
            have k1' : W0.cell? ⟨gd, 1, none⟩ = some (.slice (some ⟨ga, 0, none⟩) fw.length lc) := by rw [← hW0]; exact k1
            have e1' : W0.cell? ⟨ga, k * 3 + 1, none⟩ = some (.slice ba f.b.length bc) := by rw [← hW0]; exact e1
            have e2' : W0.cell? ⟨ga, k * 3 + 2, none⟩ = some (.int .i64 (f.safe : Int)) := by rw [← hW0]; exact e2
            have f1' : W0.frozen? ⟨ga, k * 3 + 1, none⟩ = false := by rw [← hW0]; exact f1
            have f3' : W0.frozen? ⟨ga, k * 3 + 2, none⟩ = false := by rw [← hW0]; exact f2'
            have kz' : gd < W0.heap.size := by rw [← hW0]; exact kz
            have hgz' : ga < W0.heap.size := by rw [← hW0]; exact hgz
            have HW0 := Lib.hid hW0
            clear hW0 hpu
            rcases hcase with ⟨rfl, h0, rfl⟩ | ⟨g, rfl, hgl⟩
            · obtain rfl : N = 0 := by omega
              go_wp2_with fail
              go_still_tail 17, (by kernel_rfl)
              go_wp2_with fail
              go_roundw
              case rel =>
                have hp := HPU.out.drew
                rw [show gone + (f.b.length : Int) - ((0 : Nat) : Int) = gone from by omega] at hp
                exact ⟨k + 1, _, by go_num, rfl, by simpa using hp⟩
              case measure => simp [intOf]; omega
            · have hNc : (N : Int) ≤ (bc : Int) := by omega
              go_wp2_with fail
              go_still_tail 17, (by kernel_rfl)
              go_wp2_with fail
              go_roundw
              case rel => exact ⟨k + 1, _, by go_num, rfl, HPU.out.drew⟩
              case measure => simp [intOf]; omega
          · have hN : (N : Int) = (f.safe : Int) + z := by
              have := HNN.out
              rw [List.getElem?_eq_getElem hkl, ← HZE.out] at this
              unfold D.stays at this
              simp only [if_pos hpos] at this
              omega
            go_wp2_with fail
            go_quiet (fail)
            go_wp2_with fail
            first
              | rw [show (f.safe : Int) + z = (N : Int) from by omega]
              | rw [show (f.safe : Int) + min z ((f.b.length : Int) - (f.safe : Int)) = (N : Int) from by omega]
            have HNE := Lib.hid hN
            clear hN
            generalize hW0 : World.drewN wr _ = W0
            have hpu := cra_put (W0 := W0) (N := N) (gone := gone) (by omega) HO.out HSZ.out HG.out hfw HATW.out HX.out hlt HFW.out HF0.out HNN.out hNl hXa (fun j => by rw [← hW0]; rfl) (by rw [← hW0]; rfl) (by rw [← hW0]; exact ⟨rfl, rfl, rfl⟩)
            have HPU := Lib.hid hpu
            have k1' : W0.cell? ⟨gd, 1, none⟩ = some (.slice (some ⟨ga, 0, none⟩) fw.length lc) := by rw [← hW0]; exact k1
            have e1' : W0.cell? ⟨ga, k * 3 + 1, none⟩ = some (.slice ba f.b.length bc) := by rw [← hW0]; exact e1
            have e2' : W0.cell? ⟨ga, k * 3 + 2, none⟩ = some (.int .i64 (f.safe : Int)) := by rw [← hW0]; exact e2
            have f1' : W0.frozen? ⟨ga, k * 3 + 1, none⟩ = false := by rw [← hW0]; exact f1
            have f3' : W0.frozen? ⟨ga, k * 3 + 2, none⟩ = false := by rw [← hW0]; exact f2'
            have kz' : gd < W0.heap.size := by rw [← hW0]; exact kz
            have hgz' : ga < W0.heap.size := by rw [← hW0]; exact hgz
            have HW0 := Lib.hid hW0
            clear hW0 hpu
            rcases hcase with ⟨rfl, h0, rfl⟩ | ⟨g, rfl, hgl⟩
            · have := HNE.out
              omega
            · have hNc : (N : Int) ≤ (bc : Int) := by omega
              go_wp2_with fail
              go_still_tail 17, (by kernel_rfl)
              go_wp2_with fail
              go_roundw
              case rel => exact ⟨k + 1, _, by go_num, rfl, HPU.out.drew⟩
              case measure => simp [intOf]; omega
        · have hN : N = f.safe := by
            have := HNN.out
            rw [List.getElem?_eq_getElem hkl, ← HZE.out] at this
            unfold D.stays at this
            simp only [if_neg hpos] at this
            omega
          have e2' : wr.cell? ⟨ga, k * 3 + 2, none⟩ = some (.int .i64 (N : Int)) := by rw [hN]; exact e2
          have HPU := Lib.hid (cra_put (W0 := wr) (N := N) (gone := gone) (by omega) HO.out HSZ.out HG.out hfw HATW.out HX.out hlt HFW.out HF0.out HNN.out hNl hXa (fun _ => rfl) rfl ⟨rfl, rfl, rfl⟩)
          have HNE := Lib.hid hN
          clear hN e2
          rcases hcase with ⟨rfl, h0, rfl⟩ | ⟨g, rfl, hgl⟩
          · obtain rfl : N = 0 := by omega
            go_wp2_with fail
            go_still_tail 17, (by kernel_rfl)
            go_wp2_with fail
            go_roundw
            case rel =>
              have hp := HPU.out.drew
              rw [show gone + (f.b.length : Int) - ((0 : Nat) : Int) = gone from by omega] at hp
              exact ⟨k + 1, _, by go_num, rfl, by simpa using hp⟩
            case measure => simp [intOf]; omega
          · have hNc : (N : Int) ≤ (bc : Int) := by omega
            go_wp2_with fail
            go_still_tail 17, (by kernel_rfl)
            go_wp2_with fail
            go_roundw
            case rel => exact ⟨k + 1, _, by go_num, rfl, HPU.out.drew⟩
            case measure => simp [intOf]; omega
      · have hN : N = f.safe := by
          have := HNN.out
          rw [List.getElem?_eq_none (by omega)] at this
          unfold D.stays at this
          exact this
        have e2' : wr.cell? ⟨ga, k * 3 + 2, none⟩ = some (.int .i64 (N : Int)) := by rw [hN]; exact e2
        have HPU := Lib.hid (cra_put (W0 := wr) (N := N) (gone := gone) (by omega) HO.out HSZ.out HG.out hfw HATW.out HX.out hlt HFW.out HF0.out HNN.out hNl hXa (fun _ => rfl) rfl ⟨rfl, rfl, rfl⟩)
        have HNE := Lib.hid hN
        clear hN e2
        rcases hcase with ⟨rfl, h0, rfl⟩ | ⟨g, rfl, hgl⟩
        · obtain rfl : N = 0 := by omega
          go_wp2_with fail
          go_still_tail 17, (by kernel_rfl)
          go_wp2_with fail
          go_roundw
          case rel =>
            have hp := HPU.out.drew
            rw [show gone + (f.b.length : Int) - ((0 : Nat) : Int) = gone from by omega] at hp
            exact ⟨k + 1, _, by go_num, rfl, by simpa using hp⟩
          case measure => simp [intOf]; omega
        · have hNc : (N : Int) ≤ (bc : Int) := by omega
          go_wp2_with fail
          go_still_tail 17, (by kernel_rfl)
          go_wp2_with fail
          go_roundw
          case rel => exact ⟨k + 1, _, by go_num, rfl, HPU.out.drew⟩
          case measure => simp [intOf]; omega
    · obtain rfl : k = fw.length := by have := HLEN.out; omega
      have hmid : midC d.fs ks d.fs.length = D.crashFs d.fs ks := by
        unfold midC
        rw [List.take_of_length_le (by rw [crashFs_length]; exact Nat.le_refl _), List.drop_length, List.append_nil]
      have hle := used_crash d.fs ks hsf.out d.fs.length (Nat.le_refl _)
      have hg := HG.out
      have hat := HATW.out
      rw [← HLEN.out] at hg hat
      rw [hmid] at hat
      rw [List.take_of_length_le (l := D.crashFs d.fs ks) (by rw [crashFs_length]; exact Nat.le_refl _), List.take_length] at hg hle
      have hc : gone = ((D.crash d ks).1 : Int) := by simp only [D.crash]; omega
      have HC := Lib.hid hc
      have HAT2 := Lib.hid hat
      clear hmid hle hg hat hc
      go_wp2_with fail
      go_ret
      refine ⟨by rw [HC.out]; rfl, ⟨HO.out.os, HO.out.tape, HO.out.output, HO.out.size, HO.out.block⟩, ⟨_, fw, HAT2.out.same (fun _ h => h) fun _ _ => rfl⟩, HSZ.out⟩
end Go.Proofs.YtgakcaobalfpjaaGreatDoor.M

/- Part: OpenActs. -/
namespace Go.Proofs.YtgakcaobalfpjaaGreatDoor.M
open Go.RowKit Go.ChangeShapes Go.WideShapes Go.ChangeAt

/-- An act. -/
structure Ac where
  kind : Int
  names : List ByteArray
  bs : List (List UInt8)
  n : Int
  keep : List Int

def Int64 (x : Int) : Prop := -9223372036854775808 ≤ x ∧ x ≤ 9223372036854775807

/-- How many bytes and names an act has. -/
def nsize (l : List ByteArray) : Nat := (l.map fun s => s.size + 1).sum
def bsize (l : List (List UInt8)) : Nat := (l.map fun b => b.length + 1).sum
def asize (a : Ac) : Nat := a.keep.length + 1 + nsize a.names + bsize a.bs

/-- An act's five cells. -/
def RepA (w : World) (F : Nat → Prop) (a : Ac) (x0 x1 x2 x3 x4 : Value) : Prop :=
  x0 = .int .i64 a.kind ∧ Int64 a.kind ∧ RepSl w F a.names x1 ∧ (∀ s ∈ a.names, s.size ≤ 9223372036854775807) ∧ RepBl w F a.bs x2 ∧ x3 = .int .i64 a.n ∧ Int64 a.n ∧ RepI w F a.keep x4

theorem RepA.same {w w' : World} {F G : Nat → Prop} (hF : ∀ k, F k → G k) (hw : ∀ k, F k → w'.heap[k]? = w.heap[k]?) {a : Ac} {x0 x1 x2 x3 x4 : Value} (h : RepA w F a x0 x1 x2 x3 x4) : RepA w' G a x0 x1 x2 x3 x4 :=
  ⟨h.1, h.2.1, h.2.2.1.same hF hw, h.2.2.2.1, h.2.2.2.2.1.same hF hw, h.2.2.2.2.2.1, h.2.2.2.2.2.2.1, h.2.2.2.2.2.2.2.same hF hw⟩

/-- A slice of acts. -/
def RepAs (w : World) (F : Nat → Prop) (l : List Ac) (v : Value) : Prop :=
  (l = [] ∧ Bare v) ∨ ∃ b off c, v = .slice (some ⟨b, off, none⟩) l.length c ∧ F b ∧ l.length ≤ c ∧ c ≤ 9223372036854775807 ∧
    ∀ (i : Nat) (h : i < l.length), ∃ x0 x1 x2 x3 x4, w.cell? ⟨b, off + i * 5, none⟩ = some x0 ∧ w.cell? ⟨b, off + i * 5 + 1, none⟩ = some x1 ∧ w.cell? ⟨b, off + i * 5 + 2, none⟩ = some x2 ∧ w.cell? ⟨b, off + i * 5 + 3, none⟩ = some x3 ∧ w.cell? ⟨b, off + i * 5 + 4, none⟩ = some x4 ∧ RepA w F l[i] x0 x1 x2 x3 x4

theorem RepAs.same {w w' : World} {F G : Nat → Prop} (hF : ∀ k, F k → G k) (hw : ∀ k, F k → w'.heap[k]? = w.heap[k]?) {l : List Ac} {v : Value} (h : RepAs w F l v) : RepAs w' G l v := by
  rcases h with h | ⟨b, off, c, hv, hb, hl, hm, hc⟩
  · exact .inl h
  · refine .inr ⟨b, off, c, hv, hF b hb, hl, hm, fun i hi => ?_⟩
    obtain ⟨x0, x1, x2, x3, x4, h0, h1, h2, h3, h4, hr⟩ := hc i hi
    have e : ∀ j, w'.cell? ⟨b, j, none⟩ = w.cell? ⟨b, j, none⟩ := fun j => World.cell?_of_block (a := ⟨b, j, none⟩) (hw b hb)
    exact ⟨x0, x1, x2, x3, x4, by rw [e]; exact h0, by rw [e]; exact h1, by rw [e]; exact h2, by rw [e]; exact h3, by rw [e]; exact h4, hr.same hF hw⟩

theorem RepAs.slice {w : World} {F : Nat → Prop} {l : List Ac} {v : Value} (h : RepAs w F l v) : ∃ a c, v = .slice a l.length c ∧ l.length ≤ 9223372036854775807 := by
  rcases h with ⟨rfl, a, c, rfl, _⟩ | ⟨b, off, c, rfl, _, h1, h2, _⟩
  · exact ⟨a, c, rfl, by simp⟩
  · exact ⟨_, c, rfl, by omega⟩

theorem RepAs.elem {w : World} {F : Nat → Prop} {l : List Ac} {a : Option Addr} {n c : Nat} (h : RepAs w F l (.slice a n c)) (i : Nat) (hi : i < l.length) :
    ∃ b off, a = some ⟨b, off, none⟩ ∧ F b ∧ ∃ x0 x1 x2 x3 x4, w.cell? ⟨b, off + i * 5, none⟩ = some x0 ∧ w.cell? ⟨b, off + i * 5 + 1, none⟩ = some x1 ∧ w.cell? ⟨b, off + i * 5 + 2, none⟩ = some x2 ∧ w.cell? ⟨b, off + i * 5 + 3, none⟩ = some x3 ∧ w.cell? ⟨b, off + i * 5 + 4, none⟩ = some x4 ∧ RepA w F l[i] x0 x1 x2 x3 x4 := by
  rcases h with ⟨h, _⟩ | ⟨b, off, c', h, hb, _, _, hc⟩
  · rw [h] at hi; simp at hi
  · cases h
    exact ⟨b, off, rfl, hb, hc i hi⟩

variable {H : Type} {enc : TypeId × Value → H} {w : World}

theorem bulk_sum {α : Type} (f : α → Nat) : ∀ (l : List α) (es : List (DataW H)), l.length = es.length → (∀ (i : Nat) (h1 : i < l.length) (h2 : i < es.length), f l[i] ≤ Rows.uptoBulk es[i]) → (l.map f).sum ≤ Rows.uptoBulkAll es
  | [], _, _, _ => by simp
  | d :: l, [], h, _ => by simp at h
  | d :: l, e :: es, h, hi => by
    have h0 := hi 0 (by simp) (by simp)
    have h1 := bulk_sum f l es (by simpa using h) fun i h1 h2 => hi (i + 1) (by simpa using h1) (by simpa using h2)
    simp only [List.getElem_cons_zero] at h0
    simp only [List.map_cons, List.sum_cons, Rows.uptoBulkAll]
    omega

/-- A slice of elements of one cell, read one by one. -/
theorem slice1 {n len cap : Nat} {a : Addr} {α : Type} {R : Nat → Value → α → Prop} {t e : TypeId} (hce : Tryz.prog.cellsOf e = 1) {elems rest : List (DataW H × List MemPlace)} (hl : len ≤ cap) (hel : elems.length = len) (h0 : cap ≠ 0)
    (hrd : ∀ i, i < len → (w.cells? 0 (a.add (i * Tryz.prog.cellsOf e)) (Tryz.prog.cellsOf e)).bind (DataW.trod enc Tryz.prog w 0 (fun _ => true) true n e) = elems[i]?)
    (hrl : rest.length = cap - len) (hsp : ∀ j, j < cap - len → (w.cells? 0 (a.add ((len + j) * Tryz.prog.cellsOf e)) (Tryz.prog.cellsOf e)).bind (DataW.trod enc Tryz.prog w 0 (fun _ => true) true n e) = rest[j]?)
    (hR : ∀ i v y, i < len → elems[i]? = some y → DataW.trod enc Tryz.prog w 0 (fun _ => true) true n e [v] = some y → ∃ d, R i v d) :
    ∃ b off, a = ⟨b, off, none⟩ ∧ b < w.heap.size ∧ ∃ l : List α, l.length = len ∧ ∀ (i : Nat) (hi : i < l.length), ∃ v, w.cell? ⟨b, off + i, none⟩ = some v ∧ R i v l[i] := by
  rw [hce] at hrd hsp
  have hat : ∃ cs', w.cells? 0 (a.add (0 * 1)) 1 = some cs' := by
    by_cases h1 : len = 0
    · have h2 := hsp 0 (by omega)
      rw [List.getElem?_eq_getElem (by omega)] at h2
      obtain ⟨cs', h3, _⟩ := Option.bind_eq_some_iff.1 h2
      exact ⟨cs', by rw [h1] at h3; exact h3⟩
    · have h2 := hrd 0 (by omega)
      rw [List.getElem?_eq_getElem (by omega)] at h2
      obtain ⟨cs', h3, _⟩ := Option.bind_eq_some_iff.1 h2
      exact ⟨cs', h3⟩
  obtain ⟨cs', hat⟩ := hat
  obtain ⟨_, hcl, hcg⟩ := World.cells?_some hat
  have hc0 := hcg 0 (by omega)
  rw [List.getElem?_eq_getElem (by omega)] at hc0
  obtain ⟨hb, hs⟩ := lt_of_cell hc0
  obtain ⟨b, off, sp⟩ := a
  replace hb : b < w.heap.size := hb
  replace hs : sp = none := hs
  subst hs
  obtain ⟨l, hll, hl2⟩ := list_of (R := fun i d => ∃ v, w.cell? ⟨b, off + i, none⟩ = some v ∧ R i v d) len fun i hi => by
    have h2 := hrd i hi
    rw [List.getElem?_eq_getElem (by omega)] at h2
    obtain ⟨cs', h3, h4⟩ := Option.bind_eq_some_iff.1 h2
    obtain ⟨_, h6, h5⟩ := World.cells?_some h3
    obtain ⟨v, rfl⟩ : ∃ v, cs' = [v] := by
      match cs', h6 with
      | [v], _ => exact ⟨v, rfl⟩
    rw [addr_add] at h5
    have g0 := h5 0 (by omega)
    rw [addr_add] at g0
    obtain ⟨d, hd⟩ := hR i v _ hi (List.getElem?_eq_getElem (by omega)) h4
    exact ⟨d, v, by simpa using g0, hd⟩
  exact ⟨b, off, rfl, hb, l, hll, hl2⟩

theorem bulk_pos (d : DataW H) : 1 ≤ Rows.uptoBulk d := by
  cases d with
  | lit l => cases l <;> simp [Rows.uptoBulk]
  | _ => simp [Rows.uptoBulk]

theorem bulk_len : ∀ es : List (DataW H), es.length ≤ Rows.uptoBulkAll es
  | [] => Nat.zero_le _
  | e :: es => by
    have h1 := bulk_pos e
    have h2 := bulk_len es
    simp only [List.length_cons, Rows.uptoBulkAll]
    omega

theorem sum_plus {α : Type} (f : α → Nat) (l : List α) : (l.map fun x => f x + 1).sum = (l.map f).sum + l.length := by
  induction l with
  | nil => rfl
  | cons a r ih => simp only [List.map_cons, List.sum_cons, List.length_cons, ih]; omega

theorem names_of_trod {n : Nat} {cs : List Value} {x : DataW H × List MemPlace} (h : DataW.trod enc Tryz.prog w 0 (fun _ => true) true (n + 1) 46 cs = some x) :
    ∃ l v, cs = [v] ∧ RepSl w (fun b => b < w.heap.size) l v ∧ (∀ s ∈ l, s.size ≤ 9223372036854775807) ∧ nsize l ≤ 2 * Rows.uptoBulk x.1 := by
  rcases DataW.trod_slice Tryz.underlying46 h with ⟨rfl, -⟩ | ⟨a, len, cap, elems, rest, m, hm, rfl, hx, -, hl, hc, hel, hrd, hsp, -⟩
  · exact ⟨[], _, rfl, .inl ⟨rfl, Bare.nil⟩, fun s hs => by simp at hs, Nat.zero_le _⟩
  · obtain rfl : n = m := by omega
    unfold maxLen at hc
    obtain ⟨hrl, hsp⟩ := hsp rfl
    by_cases h0 : cap = 0
    · obtain rfl : len = 0 := by omega
      exact ⟨[], _, rfl, .inl ⟨rfl, Bare.at hc⟩, fun s hs => by simp at hs, Nat.zero_le _⟩
    · obtain ⟨b, off, rfl, hb, l, hll, hR⟩ := slice1 (w := w) (enc := enc) (t := 46) (R := fun i v (s : ByteArray) => v = .string s ∧ s.size ≤ 9223372036854775807 ∧ ∀ e, elems[i]? = some e → s.size ≤ Rows.uptoBulk e.1) (show Tryz.prog.cellsOf 9 = 1 from by kernel_rfl) hl hel h0 hrd hrl hsp fun i v y hi hy ht => by
        obtain ⟨s, hs, hsx, hsz⟩ := DataW.trod_string Tryz.underlying9 ht
        cases hs
        refine ⟨s, rfl, by unfold maxLen at hsz; exact hsz, fun e he => ?_⟩
        rw [he] at hy
        cases hy
        rw [hsx]
        simp [Rows.uptoBulk]
      subst hll
      have hsz : ∀ s ∈ l, s.size ≤ 9223372036854775807 := fun s hs => by
        obtain ⟨i, hi, rfl⟩ := List.mem_iff_getElem.1 hs
        obtain ⟨v, _, h1, h2, _⟩ := hR i hi
        exact h2
      refine ⟨l, _, rfl, .inr ⟨b, off, cap, rfl, hb, hl, hc, fun i hi => ?_⟩, hsz, ?_⟩
      · obtain ⟨v, h1, h2, -⟩ := hR i hi
        rw [h1, h2]
      · rw [hx]
        have h1 := bulk_sum (fun s : ByteArray => s.size) l (elems.map (·.1)) (by simp [hel]) fun i h1 h2 => by
          have h3 : i < elems.length := by simpa using h2
          obtain ⟨v, -, -, -, h4⟩ := hR i h1
          have := h4 _ (List.getElem?_eq_getElem h3)
          simpa using this
        have h2 := bulk_len (elems.map (·.1))
        simp only [List.length_map] at h2
        have h3 : nsize l = (l.map fun s : ByteArray => s.size).sum + l.length := sum_plus (fun s : ByteArray => s.size) l
        rw [h3]
        simp only [Rows.uptoBulk]
        have h4 : (l.map fun s : ByteArray => s.size).sum ≤ Rows.uptoBulkAll (elems.map (·.1)) := h1
        omega

theorem ints_of_trod {n : Nat} {cs : List Value} {x : DataW H × List MemPlace} (h : DataW.trod enc Tryz.prog w 0 (fun _ => true) true (n + 1) 34 cs = some x) :
    ∃ l v, cs = [v] ∧ RepI w (fun b => b < w.heap.size) l v ∧ l.length ≤ Rows.uptoBulk x.1 := by
  rcases DataW.trod_slice Tryz.underlying34 h with ⟨rfl, -⟩ | ⟨a, len, cap, elems, rest, m, hm, rfl, hx, -, hl, hc, hel, hrd, hsp, -⟩
  · exact ⟨[], _, rfl, .inl ⟨rfl, Bare.nil⟩, Nat.zero_le _⟩
  · obtain rfl : n = m := by omega
    unfold maxLen at hc
    obtain ⟨hrl, hsp⟩ := hsp rfl
    by_cases h0 : cap = 0
    · obtain rfl : len = 0 := by omega
      exact ⟨[], _, rfl, .inl ⟨rfl, Bare.at hc⟩, Nat.zero_le _⟩
    · obtain ⟨b, off, rfl, hb, l, hll, hR⟩ := slice1 (w := w) (enc := enc) (t := 34) (R := fun _ v (z : Int) => v = .int .i64 z ∧ -9223372036854775808 ≤ z ∧ z ≤ 9223372036854775807) (show Tryz.prog.cellsOf 3 = 1 from by kernel_rfl) hl hel h0 hrd hrl hsp fun i v y hi hy ht => by
        obtain ⟨z, hz, -, hw⟩ := DataW.trod_int Tryz.underlying3 ht
        cases hz
        have := bounds_i64 hw
        exact ⟨z, rfl, this.1, this.2⟩
      subst hll
      refine ⟨l, _, rfl, .inr ⟨b, off, cap, rfl, hb, hl, hc, fun i hi => ?_⟩, ?_⟩
      · obtain ⟨v, h1, h2, h3⟩ := hR i hi
        rw [h1, h2]
        exact ⟨rfl, h3⟩
      · rw [hx]
        have h2 := bulk_len (elems.map (·.1))
        simp only [List.length_map] at h2
        simp only [Rows.uptoBulk]
        omega

theorem blist_bulk {n : Nat} {cs : List Value} {x : DataW H × List MemPlace} (h : DataW.trod enc Tryz.prog w 0 (fun _ => true) true (n + 1) 51 cs = some x) :
    ∃ l v, cs = [v] ∧ RepBl w (fun b => b < w.heap.size) l v ∧ bsize l ≤ 2 * Rows.uptoBulk x.1 := by
  rcases DataW.trod_slice Tryz.underlying51 h with ⟨rfl, -⟩ | ⟨a, len, cap, elems, rest, m, hm, rfl, hx, -, hl, hc, hel, hrd, hsp, -⟩
  · exact ⟨[], _, rfl, .inl ⟨rfl, Bare.nil⟩, Nat.zero_le _⟩
  · obtain rfl : n = m := by omega
    unfold maxLen at hc
    obtain ⟨hrl, hsp⟩ := hsp rfl
    by_cases h0 : cap = 0
    · obtain rfl : len = 0 := by omega
      exact ⟨[], _, rfl, .inl ⟨rfl, Bare.at hc⟩, Nat.zero_le _⟩
    · obtain ⟨b, off, rfl, hb, l, hll, hR⟩ := slice1 (w := w) (enc := enc) (t := 51) (R := fun i v (L : List UInt8) => RepB w (fun b => b < w.heap.size) L v ∧ ∀ e, elems[i]? = some e → L.length ≤ Rows.uptoBulk e.1) (show Tryz.prog.cellsOf 35 = 1 from by kernel_rfl) hl hel h0 hrd hrl hsp fun i v y hi hy ht => by
        obtain ⟨L, v2, hv, hr, hn⟩ := bytes_of_trod ht
        cases hv
        refine ⟨L, hr, fun e he => ?_⟩
        rw [he] at hy
        cases hy
        exact hn
      subst hll
      refine ⟨l, _, rfl, .inr ⟨b, off, cap, rfl, hb, hl, hc, fun i hi => ?_⟩, ?_⟩
      · obtain ⟨v, h1, h2, -⟩ := hR i hi
        exact ⟨v, h1, h2⟩
      · rw [hx]
        have h1 := bulk_sum (fun L : List UInt8 => L.length) l (elems.map (·.1)) (by simp [hel]) fun i h1 h2 => by
          have h3 : i < elems.length := by simpa using h2
          obtain ⟨v, -, -, h4⟩ := hR i h1
          have := h4 _ (List.getElem?_eq_getElem h3)
          simpa using this
        have h2 := bulk_len (elems.map (·.1))
        simp only [List.length_map] at h2
        have h3 : bsize l = (l.map fun s : List UInt8 => s.length).sum + l.length := sum_plus (fun s : List UInt8 => s.length) l
        rw [h3]
        simp only [Rows.uptoBulk]
        have h4 : (l.map fun s : List UInt8 => s.length).sum ≤ Rows.uptoBulkAll (elems.map (·.1)) := h1
        omega

set_option maxRecDepth 20000 in
theorem ints_in {W : World} {base : Nat} {v : Value} {d : DataW H} {p : List MemPlace} (h : DataW.Trod enc Tryz.prog W 0 (fun _ => true) true 34 v d p) (hk : Value.okWide Tryz.prog W .any base 34 v) :
    ∃ l, RepI W (fun b => b < W.heap.size) l v := by
  obtain ⟨a, n, c, rfl⟩ := okWide_slice Tryz.underlying34 hk
  obtain ⟨fuel, hf⟩ := h
  cases fuel with
  | zero => simp [DataW.trod] at hf
  | succ fuel =>
    obtain ⟨l, v, hv, hr, -⟩ := ints_of_trod hf
    refine ⟨l, ?_⟩
    have e : [Value.slice a n c] = [v] := hv
    cases e
    exact hr
end Go.Proofs.YtgakcaobalfpjaaGreatDoor.M

/- Part: OpenStates. -/
namespace Go.Proofs.YtgakcaobalfpjaaGreatDoor.M
open Go.RowKit Go.ChangeShapes Go.WideShapes Go.ChangeAt

section
variable {H : Type} {enc : TypeId × Value → H} {w : World}

set_option maxRecDepth 20000 in
theorem state_of_trod {n : Nat} {cs : List Value} {x : DataW H × List MemPlace} (h : DataW.trod enc Tryz.prog w 0 (fun _ => true) true n 33 cs = some x) :
    ∃ s : Int × Int, cs = [.int .i64 s.1, .int .i64 s.2] := by
  obtain ⟨y0, y1, n, -, hl, h0, h1⟩ := trod_struct2 Tryz.underlying33 h
  rw [show Tryz.prog.cellsOf 33 = 2 from by kernel_rfl] at hl
  match cs, hl with
  | [c0, c1], _ =>
    have hc : Tryz.prog.cellsOf 3 = 1 := by kernel_rfl
    simp only [hc, List.drop_zero, List.take_succ_cons, List.take_zero, List.drop_succ_cons] at h0 h1
    obtain ⟨z0, e0, -, b0⟩ := DataW.trod_int Tryz.underlying3 h0
    obtain ⟨z1, e1, -, b1⟩ := DataW.trod_int Tryz.underlying3 h1
    cases e0; cases e1
    exact ⟨(z0, z1), rfl⟩

set_option maxRecDepth 20000 in
theorem states_of_trod {n : Nat} {cs : List Value} {x : DataW H × List MemPlace} (h : DataW.trod enc Tryz.prog w 0 (fun _ => true) true (n + 1) 143 cs = some x) :
    ∃ l v, cs = [v] ∧ RepSts w (fun b => b < w.heap.size) l v := by
  rcases DataW.trod_slice Tryz.underlying143 h with ⟨rfl, -⟩ | ⟨a, len, cap, elems, rest, m, hm, rfl, hx, -, hl, hc, hel, hrd, hsp, -⟩
  · exact ⟨[], _, rfl, .inl ⟨rfl, Bare.nil⟩⟩
  · obtain rfl : n = m := by omega
    unfold maxLen at hc
    rw [show Tryz.prog.cellsOf 33 = 2 from by kernel_rfl] at hrd hsp
    obtain ⟨hrl, hsp⟩ := hsp rfl
    by_cases h0 : cap = 0
    · obtain rfl : len = 0 := by omega
      exact ⟨[], _, rfl, .inl ⟨rfl, Bare.at hc⟩⟩
    · have hat : ∃ cs', w.cells? 0 (a.add (0 * 2)) 2 = some cs' := by
        by_cases h1 : len = 0
        · have h2 := hsp 0 (by omega)
          rw [List.getElem?_eq_getElem (by omega)] at h2
          obtain ⟨cs', h3, _⟩ := Option.bind_eq_some_iff.1 h2
          exact ⟨cs', by rw [h1] at h3; exact h3⟩
        · have h2 := hrd 0 (by omega)
          rw [List.getElem?_eq_getElem (by omega)] at h2
          obtain ⟨cs', h3, _⟩ := Option.bind_eq_some_iff.1 h2
          obtain ⟨cs', h3, _⟩ := Option.bind_eq_some_iff.1 h2
          exact ⟨cs', h3⟩
      obtain ⟨cs', hat⟩ := hat
      obtain ⟨_, hcl, hcg⟩ := World.cells?_some hat
      have hc0 := hcg 0 (by omega)
      rw [List.getElem?_eq_getElem (by omega)] at hc0
      obtain ⟨hb, hs⟩ := lt_of_cell hc0
      obtain ⟨b, off, sp⟩ := a
      replace hb : b < w.heap.size := hb
      replace hs : sp = none := hs
      subst hs
      obtain ⟨l, hll, hR⟩ := list_of (R := fun i (s : Int × Int) => w.cell? ⟨b, off + i * 2, none⟩ = some (.int .i64 s.1) ∧ w.cell? ⟨b, off + i * 2 + 1, none⟩ = some (.int .i64 s.2)) len fun i hi => by
        have h2 := hrd i hi
        rw [List.getElem?_eq_getElem (by omega)] at h2
        obtain ⟨cs', h3, h4⟩ := Option.bind_eq_some_iff.1 h2
        obtain ⟨s, rfl⟩ := state_of_trod h4
        obtain ⟨_, _, h5⟩ := World.cells?_some h3
        rw [addr_add] at h5
        have g0 := h5 0 (by omega)
        have g1 := h5 1 (by omega)
        rw [addr_add] at g0 g1
        exact ⟨s, g0, g1⟩
      subst hll
      exact ⟨l, _, rfl, .inr ⟨b, off, cap, rfl, hb, hl, hc, fun i hi => hR i hi⟩⟩

set_option maxRecDepth 20000 in
theorem states_in {base : Nat} {v : Value} {d : DataW H} {p : List MemPlace} (h : DataW.Trod enc Tryz.prog w 0 (fun _ => true) true 143 v d p) (hk : Value.okWide Tryz.prog w .any base 143 v) :
    ∃ l, RepSts w (fun b => b < w.heap.size) l v := by
  obtain ⟨a, n, c, rfl⟩ := okWide_slice Tryz.underlying143 hk
  obtain ⟨fuel, hf⟩ := h
  cases fuel with
  | zero => simp [DataW.trod] at hf
  | succ fuel =>
    obtain ⟨l, v, hv, hr⟩ := states_of_trod hf
    refine ⟨l, ?_⟩
    have e : [Value.slice a n c] = [v] := hv
    cases e
    exact hr
end
end Go.Proofs.YtgakcaobalfpjaaGreatDoor.M

/- Part: OpenActs4. -/
namespace Go.Proofs.YtgakcaobalfpjaaGreatDoor.M
open Go.RowKit Go.ChangeShapes Go.WideShapes Go.ChangeAt

/-- An act on a hard state. -/
structure Ac4 where
  kind : Int
  s : Int × Int
  n : Int
  keep : List Int
  b : List UInt8

/-- An act's six cells. -/
def RepA4 (w : World) (F : Nat → Prop) (a : Ac4) (x0 x1 x2 x3 x4 x5 : Value) : Prop :=
  x0 = .int .i64 a.kind ∧ Int64 a.kind ∧ x1 = .int .i64 a.s.1 ∧ x2 = .int .i64 a.s.2 ∧ x3 = .int .i64 a.n ∧ Int64 a.n ∧ RepI w F a.keep x4 ∧ RepB w F a.b x5

theorem RepA4.same {w w' : World} {F G : Nat → Prop} (hF : ∀ k, F k → G k) (hw : ∀ k, F k → w'.heap[k]? = w.heap[k]?) {a : Ac4} {x0 x1 x2 x3 x4 x5 : Value} (h : RepA4 w F a x0 x1 x2 x3 x4 x5) : RepA4 w' G a x0 x1 x2 x3 x4 x5 :=
  ⟨h.1, h.2.1, h.2.2.1, h.2.2.2.1, h.2.2.2.2.1, h.2.2.2.2.2.1, h.2.2.2.2.2.2.1.same hF hw, h.2.2.2.2.2.2.2.same hF hw⟩

/-- A slice of acts. -/
def RepAs4 (w : World) (F : Nat → Prop) (l : List Ac4) (v : Value) : Prop :=
  (l = [] ∧ Bare v) ∨ ∃ b off c, v = .slice (some ⟨b, off, none⟩) l.length c ∧ F b ∧ l.length ≤ c ∧ c ≤ 9223372036854775807 ∧
    ∀ (i : Nat) (h : i < l.length), ∃ x0 x1 x2 x3 x4 x5, w.cell? ⟨b, off + i * 6, none⟩ = some x0 ∧ w.cell? ⟨b, off + i * 6 + 1, none⟩ = some x1 ∧ w.cell? ⟨b, off + i * 6 + 2, none⟩ = some x2 ∧ w.cell? ⟨b, off + i * 6 + 3, none⟩ = some x3 ∧ w.cell? ⟨b, off + i * 6 + 4, none⟩ = some x4 ∧ w.cell? ⟨b, off + i * 6 + 5, none⟩ = some x5 ∧ RepA4 w F l[i] x0 x1 x2 x3 x4 x5

theorem RepAs4.slice {w : World} {F : Nat → Prop} {l : List Ac4} {v : Value} (h : RepAs4 w F l v) : ∃ a c, v = .slice a l.length c ∧ l.length ≤ 9223372036854775807 := by
  rcases h with ⟨rfl, a, c, rfl, _⟩ | ⟨b, off, c, rfl, _, h1, h2, _⟩
  · exact ⟨a, c, rfl, by simp⟩
  · exact ⟨_, c, rfl, by omega⟩

theorem RepAs4.elem {w : World} {F : Nat → Prop} {l : List Ac4} {a : Option Addr} {n c : Nat} (h : RepAs4 w F l (.slice a n c)) (i : Nat) (hi : i < l.length) :
    ∃ b off, a = some ⟨b, off, none⟩ ∧ F b ∧ ∃ x0 x1 x2 x3 x4 x5, w.cell? ⟨b, off + i * 6, none⟩ = some x0 ∧ w.cell? ⟨b, off + i * 6 + 1, none⟩ = some x1 ∧ w.cell? ⟨b, off + i * 6 + 2, none⟩ = some x2 ∧ w.cell? ⟨b, off + i * 6 + 3, none⟩ = some x3 ∧ w.cell? ⟨b, off + i * 6 + 4, none⟩ = some x4 ∧ w.cell? ⟨b, off + i * 6 + 5, none⟩ = some x5 ∧ RepA4 w F l[i] x0 x1 x2 x3 x4 x5 := by
  rcases h with ⟨h, _⟩ | ⟨b, off, c', h, hb, _, _, hc⟩
  · rw [h] at hi; simp at hi
  · cases h
    exact ⟨b, off, rfl, hb, hc i hi⟩

section
variable {H : Type} {enc : TypeId × Value → H} {w : World}

/-- A slice of elements of so many cells, read one by one. -/
theorem sliceK {n len cap c : Nat} {a : Addr} {α : Type} {R : Nat → List Value → α → Prop} {e : TypeId} (hc0 : 0 < c) (hce : Tryz.prog.cellsOf e = c) {elems rest : List (DataW H × List MemPlace)} (hl : len ≤ cap) (hel : elems.length = len) (h0 : cap ≠ 0)
    (hrd : ∀ i, i < len → (w.cells? 0 (a.add (i * Tryz.prog.cellsOf e)) (Tryz.prog.cellsOf e)).bind (DataW.trod enc Tryz.prog w 0 (fun _ => true) true n e) = elems[i]?)
    (hrl : rest.length = cap - len) (hsp : ∀ j, j < cap - len → (w.cells? 0 (a.add ((len + j) * Tryz.prog.cellsOf e)) (Tryz.prog.cellsOf e)).bind (DataW.trod enc Tryz.prog w 0 (fun _ => true) true n e) = rest[j]?)
    (hR : ∀ i cs y, i < len → elems[i]? = some y → DataW.trod enc Tryz.prog w 0 (fun _ => true) true n e cs = some y → ∃ d, R i cs d) :
    ∃ b off, a = ⟨b, off, none⟩ ∧ b < w.heap.size ∧ ∃ l : List α, l.length = len ∧ ∀ (i : Nat) (hi : i < l.length), ∃ cs, cs.length = c ∧ (∀ j, j < c → w.cell? ⟨b, off + i * c + j, none⟩ = cs[j]?) ∧ R i cs l[i] := by
  rw [hce] at hrd hsp
  have hat : ∃ cs', w.cells? 0 (a.add (0 * c)) c = some cs' := by
    by_cases h1 : len = 0
    · have h2 := hsp 0 (by omega)
      rw [List.getElem?_eq_getElem (by omega)] at h2
      obtain ⟨cs', h3, _⟩ := Option.bind_eq_some_iff.1 h2
      exact ⟨cs', by rw [h1] at h3; exact h3⟩
    · have h2 := hrd 0 (by omega)
      rw [List.getElem?_eq_getElem (by omega)] at h2
      obtain ⟨cs', h3, _⟩ := Option.bind_eq_some_iff.1 h2
      exact ⟨cs', h3⟩
  obtain ⟨cs', hat⟩ := hat
  obtain ⟨_, hcl, hcg⟩ := World.cells?_some hat
  have hc1 := hcg 0 (by omega)
  rw [List.getElem?_eq_getElem (by omega), Nat.zero_mul] at hc1
  obtain ⟨hb, hs⟩ := lt_of_cell hc1
  obtain ⟨b, off, sp⟩ := a
  replace hb : b < w.heap.size := hb
  replace hs : sp = none := hs
  subst hs
  obtain ⟨l, hll, hl2⟩ := list_of (R := fun i d => ∃ cs : List Value, cs.length = c ∧ (∀ j, j < c → w.cell? ⟨b, off + i * c + j, none⟩ = cs[j]?) ∧ R i cs d) len fun i hi => by
    have h2 := hrd i hi
    rw [List.getElem?_eq_getElem (by omega)] at h2
    obtain ⟨cs', h3, h4⟩ := Option.bind_eq_some_iff.1 h2
    obtain ⟨_, h6, h5⟩ := World.cells?_some h3
    obtain ⟨d, hd⟩ := hR i cs' _ hi (List.getElem?_eq_getElem (by omega)) h4
    refine ⟨d, cs', h6, fun j hj => ?_, hd⟩
    have := h5 j hj
    rw [addr_add, addr_add] at this
    exact this
  exact ⟨b, off, rfl, hb, l, hll, hl2⟩

set_option maxRecDepth 20000 in
theorem act4_of_trod {n : Nat} {cs : List Value} {x : DataW H × List MemPlace} (h : DataW.trod enc Tryz.prog w 0 (fun _ => true) true n 37 cs = some x) :
    ∃ a x0 x1 x2 x3 x4 x5, cs = [x0, x1, x2, x3, x4, x5] ∧ RepA4 w (fun b => b < w.heap.size) a x0 x1 x2 x3 x4 x5 := by
  cases n with
  | zero => simp [DataW.trod] at h
  | succ n =>
  obtain ⟨xs, m, hm, hx, hl, hxs, hf⟩ := DataW.trod_struct Tryz.underlying37 h
  obtain rfl : n = m := by omega
  rw [show Tryz.prog.cellsOf 37 = 6 from by kernel_rfl] at hl
  obtain ⟨x0, x1, x2, x3, x4, x5, rfl⟩ : ∃ x0 x1 x2 x3 x4 x5, cs = [x0, x1, x2, x3, x4, x5] := by
    match cs, hl with
    | [x0, x1, x2, x3, x4, x5], _ => exact ⟨x0, x1, x2, x3, x4, x5, rfl⟩
  have h0 := hf 0 _ rfl
  have h1 := hf 1 _ rfl
  have h2 := hf 2 _ rfl
  have h3 := hf 3 _ rfl
  have h4 := hf 4 _ rfl
  match xs, hxs with
  | [y0, y1, y2, y3, y4], _ =>
    replace h0 : DataW.trod enc Tryz.prog w 0 (fun _ => true) true n 3 (List.take (Tryz.prog.cellsOf 3) (List.drop 0 [x0, x1, x2, x3, x4, x5])) = some y0 := h0
    rw [show Tryz.prog.cellsOf 3 = 1 from by kernel_rfl] at h0
    replace h0 : DataW.trod enc Tryz.prog w 0 (fun _ => true) true n 3 [x0] = some y0 := h0
    replace h1 : DataW.trod enc Tryz.prog w 0 (fun _ => true) true n 33 (List.take (Tryz.prog.cellsOf 33) (List.drop 1 [x0, x1, x2, x3, x4, x5])) = some y1 := h1
    rw [show Tryz.prog.cellsOf 33 = 2 from by kernel_rfl] at h1
    replace h1 : DataW.trod enc Tryz.prog w 0 (fun _ => true) true n 33 [x1, x2] = some y1 := h1
    replace h2 : DataW.trod enc Tryz.prog w 0 (fun _ => true) true n 3 (List.take (Tryz.prog.cellsOf 3) (List.drop 3 [x0, x1, x2, x3, x4, x5])) = some y2 := h2
    rw [show Tryz.prog.cellsOf 3 = 1 from by kernel_rfl] at h2
    replace h2 : DataW.trod enc Tryz.prog w 0 (fun _ => true) true n 3 [x3] = some y2 := h2
    replace h3 : DataW.trod enc Tryz.prog w 0 (fun _ => true) true n 34 (List.take (Tryz.prog.cellsOf 34) (List.drop 4 [x0, x1, x2, x3, x4, x5])) = some y3 := h3
    rw [show Tryz.prog.cellsOf 34 = 1 from by kernel_rfl] at h3
    replace h3 : DataW.trod enc Tryz.prog w 0 (fun _ => true) true n 34 [x4] = some y3 := h3
    replace h4 : DataW.trod enc Tryz.prog w 0 (fun _ => true) true n 35 (List.take (Tryz.prog.cellsOf 35) (List.drop 5 [x0, x1, x2, x3, x4, x5])) = some y4 := h4
    rw [show Tryz.prog.cellsOf 35 = 1 from by kernel_rfl] at h4
    replace h4 : DataW.trod enc Tryz.prog w 0 (fun _ => true) true n 35 [x5] = some y4 := h4
    obtain ⟨z, hz, -, hw⟩ := DataW.trod_int Tryz.underlying3 h0
    obtain ⟨z3, hz3, -, hw3⟩ := DataW.trod_int Tryz.underlying3 h2
    obtain ⟨s, hs⟩ := state_of_trod h1
    cases hz
    cases hz3
    cases hs
    cases n with
    | zero => simp [DataW.trod] at h3
    | succ n =>
      obtain ⟨lk, v4, hv4, hr4, -⟩ := ints_of_trod h3
      obtain ⟨lb, v5, hv5, hr5, -⟩ := bytes_of_trod h4
      cases hv4
      cases hv5
      exact ⟨⟨z, s, z3, lk, lb⟩, _, _, _, _, _, _, rfl, rfl, bounds_i64 hw, rfl, rfl, rfl, bounds_i64 hw3, hr4, hr5⟩

set_option maxRecDepth 20000 in
theorem acts4_of_trod {n : Nat} {cs : List Value} {x : DataW H × List MemPlace} (h : DataW.trod enc Tryz.prog w 0 (fun _ => true) true (n + 1) 22 cs = some x) :
    ∃ l v, cs = [v] ∧ RepAs4 w (fun b => b < w.heap.size) l v := by
  rcases DataW.trod_slice Tryz.underlying22 h with ⟨rfl, -⟩ | ⟨a, len, cap, elems, rest, m, hm, rfl, hx, -, hl, hc, hel, hrd, hsp, -⟩
  · exact ⟨[], _, rfl, .inl ⟨rfl, Bare.nil⟩⟩
  · obtain rfl : n = m := by omega
    unfold maxLen at hc
    obtain ⟨hrl, hsp⟩ := hsp rfl
    by_cases h0 : cap = 0
    · obtain rfl : len = 0 := by omega
      exact ⟨[], _, rfl, .inl ⟨rfl, Bare.at hc⟩⟩
    · obtain ⟨b, off, rfl, hb, l, hll, hR⟩ := sliceK (w := w) (enc := enc) (c := 6) (R := fun _ cs a => ∃ x0 x1 x2 x3 x4 x5, cs = [x0, x1, x2, x3, x4, x5] ∧ RepA4 w (fun b => b < w.heap.size) a x0 x1 x2 x3 x4 x5) (by decide) (show Tryz.prog.cellsOf 37 = 6 from by kernel_rfl) hl hel h0 hrd hrl hsp fun i cs y hi hy ht => by
        obtain ⟨a, x0, x1, x2, x3, x4, x5, h1, h2⟩ := act4_of_trod ht
        exact ⟨a, x0, x1, x2, x3, x4, x5, h1, h2⟩
      subst hll
      refine ⟨l, _, rfl, .inr ⟨b, off, cap, rfl, hb, hl, hc, fun i hi => ?_⟩⟩
      obtain ⟨cs, -, hcs, x0, x1, x2, x3, x4, x5, rfl, hr⟩ := hR i hi
      exact ⟨x0, x1, x2, x3, x4, x5, hcs 0 (by decide), hcs 1 (by decide), hcs 2 (by decide), hcs 3 (by decide), hcs 4 (by decide), hcs 5 (by decide), hr⟩

set_option maxRecDepth 20000 in
theorem acts4_in {base : Nat} {v : Value} {d : DataW H} {p : List MemPlace} (h : DataW.Trod enc Tryz.prog w 0 (fun _ => true) true 22 v d p) (hk : Value.okWide Tryz.prog w .any base 22 v) :
    ∃ l, RepAs4 w (fun b => b < w.heap.size) l v := by
  obtain ⟨a, n, c, rfl⟩ := okWide_slice Tryz.underlying22 hk
  obtain ⟨fuel, hf⟩ := h
  cases fuel with
  | zero => simp [DataW.trod] at hf
  | succ fuel =>
    obtain ⟨l, v, hv, hr⟩ := acts4_of_trod hf
    refine ⟨l, ?_⟩
    have e : [Value.slice a n c] = [v] := hv
    cases e
    exact hr
end
end Go.Proofs.YtgakcaobalfpjaaGreatDoor.M
