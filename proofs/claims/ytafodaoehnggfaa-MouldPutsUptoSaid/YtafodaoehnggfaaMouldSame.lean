/- Is and Same of package mould; bytes.Equal. -/
import Derived.Test.YtafodaoehnggfaaMouldPut4
import Derived.Laws.BytesArg
namespace Go.Proofs.Ytafodaoehnggfaa.M
open Go.RowKit

def strOf (L : List UInt8) : ByteArray := ⟨L.toArray⟩

theorem strOf_inj {a b : List UInt8} (h : strOf a = strOf b) : a = b := by
  have := congrArg (fun s => s.data.toList) h
  simpa [strOf] using this

theorem strOf_data (s : ByteArray) : strOf s.data.toList = s := by cases s; simp [strOf]

/-- 'string(b)'. -/
theorem run_string {P : Program} {w : World} {F : Nat → Prop} {L : List UInt8} {v : Value} (h : RepB w F L v) (src e dst : TypeId) (hs : P.underlying src = some (.slice e)) (he : P.underlying e = some (.int .u8))
    (hd : P.underlying dst = some .string) : (convert src dst v).run P w = .ok (.string (strOf L)) w := by
  rcases h with ⟨rfl, a, c, rfl, _, _⟩ | ⟨b, off, c, rfl, _, h1, h2, hc⟩
  · cases a with
    | none => rw [run_convert_bytes_nil w src e hs he 0 c dst hd]; rfl
    | some a =>
      have hl : (loadCells a 0).run P w = .ok (([] : List Int).map (Value.int .u8)).toArray w := by
        have := run_loadCells_list (P := P) w a [] (fun j v hj => by simp at hj)
        simpa using this
      rw [run_convert_bytes_string w src dst e _ 0 c hs he hd, run_bytesToString w _ 0 c [] hl, foldl_push_bytes]
      simp [strOf, ByteArray.empty, ByteArray.emptyWithCapacity]
      rfl
  · have := run_convert_bytes_arg (P := P) w src e hs he b off L.length c (L.map fun x => (x.toNat : Int)) (by simp) (fun i hi => by
      rw [hc i hi]; simp [hi]) dst hd
    rw [this]
    congr 2
    simp [strOfNums, strOf, Function.comp_def]

theorem toList_loop (s : ByteArray) : ∀ (n i : Nat) (r : List UInt8), s.size - i = n → ByteArray.toList.loop s i r = r.reverse ++ s.data.toList.drop i
  | 0, i, r, h => by
    unfold ByteArray.toList.loop
    rw [if_neg (by omega), List.drop_of_length_le (by rw [Array.length_toList]; exact Nat.le_of_sub_eq_zero h), List.append_nil]
  | n + 1, i, r, h => by
    unfold ByteArray.toList.loop
    have hi : i < s.size := by omega
    rw [if_pos hi, toList_loop s n (i + 1) _ (by omega), drop_cons s i hi, List.reverse_cons, List.append_assoc]
    congr 1
    simp only [List.singleton_append]
    congr 1
    obtain ⟨a⟩ := s; exact getElem!_pos a i hi

theorem toList_data (s : ByteArray) : s.toList = s.data.toList := by
  unfold ByteArray.toList
  rw [toList_loop s s.size 0 [] rfl]
  simp

theorem str_beq (a b : List UInt8) : ((strOf a).toList == (strOf b).toList) = (a == b) := by
  rw [toList_data, toList_data]
  rfl

set_option maxHeartbeats 400000 in
theorem bytes_Equal (F : Nat → Prop) (a b : List UInt8) (va vb : Value) (w : World) (ha : RepB w F a va) (hb : RepB w F b vb) :
    Calls Try.prog 29 #[va, vb] w fun e w' => e = .returned (.bool (a == b)) ∧ w = w' := by
  have h1 := run_string (P := Try.prog) ha 29 5 9 Try.underlying29 Try.underlying5 Try.underlying9
  have h2 := run_string (P := Try.prog) hb 29 5 9 Try.underlying29 Try.underlying5 Try.underlying9
  obtain ⟨aa, ca, rfl, _⟩ := ha.slice
  obtain ⟨ab, cb, rfl, _⟩ := hb.slice
  clear ha hb
  go_enter Try.func29, Try.ntmps29
  go_wp2_with fail
  go_ret
  exact ⟨by rw [← str_beq a b]; rfl, rfl⟩

/-- What Is answers. -/
def isAll (s : List UInt8) (l : List V) : Bool :=
  match shape s with
  | none => false
  | some sh => l.all (isV sh)

set_option maxHeartbeats 1600000 in
theorem Is_any (s : ByteArray) (l : List V) (F : Nat → Prop) (v : Value) (w : World) (hs : s.size ≤ 9223372036854775807) (hv : RepVl w F l v) (hF : ∀ b, F b → b < w.heap.size) (hl : vsizes l ≤ 1099511627776) :
    Calls Try.prog 14 #[.string s, v] w fun e w' => e = .returned (.bool (isAll s.data.toList l)) ∧ Below w.heap.size w w' := by
  have HV := Lib.hid hv
  have HF := Lib.hid hF
  have HL := Lib.hid hl
  obtain ⟨va, vc, rfl, hll⟩ := hv.slice
  clear hv hF hl
  go_enter Try.func14, Try.ntmps14
  go_wp2_with fail
  refine (parse_any s _ hs).mono ?_
  rintro e w1 ⟨hb, hr⟩
  have hsz := hb.size
  cases hq : shape s.data.toList with
  | none =>
    rw [hq] at hr
    subst hr
    have HQ : Hid (isAll s.data.toList l = false) := Lib.hid (by unfold isAll; rw [hq])
    clear hq
    go_wp2_with fail
    go_ret
    exact ⟨by rw [HQ.out]; rfl, hb.alloc (by omega) _⟩
  | some sh =>
    rw [hq] at hr
    obtain ⟨u, rfl, hu⟩ := hr
    have HQ : Hid (isAll s.data.toList l = l.all (isV sh)) := Lib.hid (by unfold isAll; rw [hq])
    have HU := Lib.hid hu
    obtain ⟨pa, pn, pc, rfl⟩ := hu.agg
    clear hq hu
    go_wp2_with fail
    obtain ⟨w3, hw3⟩ : ∃ w3, w3 = (w1.alloc (.cells #[.int .u8 (kind sh), .slice pa pn pc, .bool (solid sh)] 50)) := ⟨_, rfl⟩
    have hp3 : w3.heap[w1.heap.size]? = some (.cells #[.int .u8 (kind sh), .slice pa pn pc, .bool (solid sh)] 50) := by rw [hw3]; exact heap_new _ _ _ rfl
    have hB1 : Below w1.heap.size w1 w3 := by rw [hw3]; exact below_alloc _ _
    have HP3 := Lib.hid hp3
    have HW3 : Hid (Below w.heap.size w w3) := Lib.hid (hb.trans (hB1.mono (by omega)))
    rw [← hw3]
    have hz3 : w1.heap.size < w3.heap.size := by rw [hw3]; simp
    clear hw3 hp3
    go_loopw [18] (fun i wr => ∃ k : Nat, i = .int .i64 (k : Int) ∧ k ≤ l.length ∧ (l.take k).all (isV sh) = true ∧ Below w3.heap.size w3 wr)
      (fun i _ => l.length - (intOf i).toNat)
    case atStart => exact ⟨0, rfl, by omega, by simp, Below.refl _ _⟩
    case round =>
      obtain ⟨k, rfl, hk, hall, hfr⟩ := hrel
      have HALL := Lib.hid hall
      obtain ⟨p0, p1, p2, -, -, -, hz0⟩ := block3 ((hfr.block _ hz3).trans HP3.out)
      have hBr : Below w.heap.size w wr := HW3.out.trans (hfr.mono HW3.out.size)
      have HBR := Lib.hid hBr
      have HFR := Lib.hid hfr
      clear hall
      by_cases hk2 : k < l.length
      · obtain ⟨eb, eoff, rfl, hFe, u, hat, hu⟩ := HV.out.elem k hk2
        obtain ⟨en, eab, enb, ecb, eal, enl, ecl, rfl⟩ := hu.form
        have hlt := HF.out eb hFe
        obtain ⟨x, y, z, hxyz, e0, e1, e2⟩ := hat.same (w' := wr) (hBr.block eb hlt)
        cases hxyz
        have HUE := Lib.hid hu
        have hfz := hfr.size
        clear hat hu hBr hfr
        have hcall := walk_any isTeller sh l[k] (fun b => b < w1.heap.size) (.agg #[.int .u8 (kind sh), .slice pa pn pc, .bool (solid sh)]) (.agg #[.int .u64 en, .slice eab enb ecb, .slice eal enl ecl])
          [] (wr.alloc (.cells #[.int .u64 en, .slice eab enb ecb, .slice eal enl ecl] 31)) trivial
          (HU.out.same (fun b hb => hb.2) fun b hb => by rw [Below.heap_alloc _ _ _ (by omega), HFR.out.block b (by omega), hB1.block b hb.2])
          (HUE.out.same (fun b hb => by have := HF.out b hb; omega) fun b hb => by
            have := HF.out b hb
            rw [Below.heap_alloc _ _ _ (by omega), HBR.out.block b this])
          (fun b hb => ⟨by simp; omega, trivial⟩)
          (by
            have h2 := vsizes_get l k hk2
            have h3 := HL.out
            simp
            omega)
        have HC := Lib.hid hcall
        clear hcall
        go_wp2_with fail
        refine HC.out.mono ?_
        rintro e w2 ⟨rfl, hfr2, -⟩
        have HFR3 : Hid (Below w3.heap.size w3 w2) := Lib.hid ((HFR.out.alloc (by omega) _).trans ⟨hfr2.os, hfr2.tape, hfr2.output, hfr2.size, fun k hk => hfr2.block k (by simp; omega) trivial⟩)
        clear hfr2
        cases hv : isV sh l[k] with
        | true =>
          have HIS := Lib.hid hv
          clear hv
          go_wp2_with fail
          go_roundw
          case rel =>
            refine ⟨k + 1, by go_num, by omega, ?_, HFR3.out⟩
            rw [List.take_add_one, List.getElem?_eq_getElem hk2, List.all_append, HALL.out]
            simp only [Option.toList_some, List.all_cons, List.all_nil, HIS.out, Bool.and_true]
          case measure => simp [intOf]; omega
        | false =>
          have HIS := Lib.hid hv
          clear hv
          go_wp2_with fail
          go_ret
          have hno : l.all (isV sh) = false := List.all_eq_false.2 ⟨l[k], List.getElem_mem _, by rw [HIS.out]; simp⟩
          refine ⟨by rw [HQ.out, hno]; rfl, HW3.out.trans (HFR3.out.mono HW3.out.size)⟩
      · have HK : Hid (k = l.length) := Lib.hid (by omega)
        go_wp2_with fail
        go_ret
        have hall := HALL.out
        rw [HK.out, List.take_length] at hall
        exact ⟨by rw [HQ.out, hall]; rfl, HBR.out⟩
end Go.Proofs.Ytafodaoehnggfaa.M
