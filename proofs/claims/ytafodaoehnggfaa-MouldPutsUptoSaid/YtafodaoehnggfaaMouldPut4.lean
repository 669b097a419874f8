/- Put of package mould: the forms, one behind the other. -/
import Derived.Test.YtafodaoehnggfaaMouldPut3
namespace Go.Proofs.Ytafodaoehnggfaa.M
open Go.RowKit

/-- What Put answers: an error's number, or the bytes. -/
def putAll (s : List UInt8) (l : List V) : Except Int (List UInt8) :=
  match shape s with
  | none => .error 10
  | some sh => if l.all (isV sh) then .ok (l.map (putV sh)).flatten else .error 2

def PutPost (w : World) (r : Except Int (List UInt8)) (e : Ending) (w' : World) : Prop :=
  Below w.heap.size w w' ∧ match r with
  | .error c => e = .returned (.tuple #[.slice none 0 0, .int .i64 c])
  | .ok L => ∃ v, e = .returned (.tuple #[v, .int .i64 0]) ∧ w'.ownsRow w.heap.size 5 1 v L.length (L.map byteV)

/-- Bytes that a call owns, as bytes in memory. -/
theorem RepB.of_own {w : World} {B : Nat} {L : List UInt8} {v : Value} (h : w.ownsRow B 5 1 v L.length (L.map byteV)) : RepB w (fun b => B ≤ b ∧ b < w.heap.size) L v := by
  have h' := h
  obtain ⟨_, ⟨hv, hn⟩ | ⟨g, cap, cur, rfl, hg, hcur, h1, h2, h3, h4⟩⟩ := h
  · exact .inl ⟨List.length_eq_zero_iff.1 hn, by rw [hv]; exact Bare.nil⟩
  · refine .inr ⟨g, 0, cap, rfl, ⟨hg, lt_of_heap hcur⟩, h1, by unfold maxLen at h2; omega, fun i hi => ?_⟩
    have := h'.cells (g := g) rfl i (byteV L[i]) (by simp [hi])
    rw [byteV] at this
    rw [Nat.zero_add, ← this]
    cases i <;> simp [Addr.add]

/-- Everything that was there when Put's variable was made is cold. -/
theorem cold_first {w : World} {bo k : Nat} (hb : w.heap[bo]? = some (.cells #[.slice none 0 0] 29)) (hk : k < bo) : putCold bo w k := by
  refine ⟨by omega, fun v hv h => ?_⟩
  rw [hb] at hv
  simp at hv
  rw [← hv] at h
  simp [Value.ownBlock] at h

set_option maxHeartbeats 1600000 in
theorem Put_any (s : ByteArray) (l : List V) (F : Nat → Prop) (v : Value) (w : World) (hs : s.size ≤ 9223372036854775807) (hv : RepVl w F l v) (hF : ∀ b, F b → b < w.heap.size) (hl : vsizes l ≤ 1099511627776) :
    Calls Try.prog 12 #[.string s, v] w (PutPost w (putAll s.data.toList l)) := by
  have HV := Lib.hid hv
  have HF := Lib.hid hF
  have HL := Lib.hid hl
  have hmf : ∀ (fn : Fn) (first cap : Array Value) (w : World), (Instr.makeFunc fn first cap).run Try.prog w = .ok (.func fn first cap) w := fun _ _ _ _ => rfl
  obtain ⟨va, vc, rfl, hll⟩ := hv.slice
  clear hv hF hl
  go_enter Try.func12, Try.ntmps12
  go_wp2_with fail
  refine (parse_any s _ hs).mono ?_
  rintro e w1 ⟨hb, hr⟩
  have hsz := hb.size
  cases hq : shape s.data.toList with
  | none =>
    rw [hq] at hr
    subst hr
    have HQ : Hid (putAll s.data.toList l = .error 10) := Lib.hid (by unfold putAll; rw [hq])
    clear hq
    go_wp2_with fail
    go_ret2
    rw [HQ.out]
    exact ⟨hb.alloc (by omega) _, rfl⟩
  | some sh =>
    rw [hq] at hr
    obtain ⟨u, rfl, hu⟩ := hr
    have HQ : Hid (putAll s.data.toList l = if l.all (isV sh) then .ok (l.map (putV sh)).flatten else .error 2) := Lib.hid (by unfold putAll; rw [hq])
    have HU := Lib.hid hu
    obtain ⟨pa, pn, pc, rfl⟩ := hu.agg
    clear hq hu
    go_wp2_with fail
    obtain ⟨w3, hw3⟩ : ∃ w3, w3 = ((w1.alloc (.cells #[.int .u8 (kind sh), .slice pa pn pc, .bool (solid sh)] 50)).alloc (.cells #[.slice none 0 0] 29)) := ⟨_, rfl⟩
    have hb3 : w3.heap[w1.heap.size + 1]? = some (.cells #[.slice none 0 0] 29) := by rw [hw3]; exact heap_new _ _ _ (by simp)
    have hp3 : w3.heap[w1.heap.size]? = some (.cells #[.int .u8 (kind sh), .slice pa pn pc, .bool (solid sh)] 50) := by rw [hw3]; exact old_alloc (heap_new _ _ _ rfl)
    have hold : ∀ k, k < w1.heap.size → w3.heap[k]? = w1.heap[k]? := fun k hk => by rw [hw3, Below.heap_alloc _ _ _ (by simp; omega), Below.heap_alloc _ _ _ hk]
    have hB3 : Below w.heap.size w w3 := by rw [hw3]; exact (hb.alloc (by omega) _).alloc (by simp; omega) _
    have hz3 : w3.heap.size = w1.heap.size + 2 := by rw [hw3]; simp
    have HB3 := Lib.hid hb3
    have HP3 := Lib.hid hp3
    have HO3 := Lib.hid hold
    have HZ3 := Lib.hid hz3
    rw [← hw3]
    clear hw3 hb3 hp3 hold hz3
    go_loopw [20] (fun i wr => ∃ k : Nat, i = .int .i64 (k : Int) ∧ k ≤ l.length ∧ (l.take k).all (isV sh) = true ∧ outAt (w1.heap.size + 1) ((l.take k).map (putV sh)).flatten wr ∧ Fr (putCold (w1.heap.size + 1)) w3 wr)
      (fun i _ => l.length - (intOf i).toNat)
    case atStart => exact ⟨0, rfl, by omega, by simp, ⟨_, HB3.out, World.ownsRow_nil _ _ _ _⟩, Fr.refl _⟩
    case round =>
      obtain ⟨k, rfl, hk, hall, hout, hfr⟩ := hrel
      have HALL := Lib.hid hall
      have HOUT := Lib.hid hout
      have HFR := Lib.hid hfr
      have hcold : ∀ k, k < w1.heap.size + 1 → wr.heap[k]? = w3.heap[k]? := fun k hk => hfr.block k (by rw [HZ3.out]; omega) (cold_first HB3.out hk)
      obtain ⟨ov, hob, hown, hbo⟩ := hout.own
      obtain ⟨p0, p1, p2, -, -, -, hz0⟩ := block3 ((hcold _ (by omega)).trans HP3.out)
      have HCOLD := Lib.hid hcold
      have hBr : Below w.heap.size w wr := ⟨hfr.os.trans hB3.os, hfr.tape.trans hB3.tape, hfr.output.trans hB3.output, Nat.le_trans hB3.size hfr.size, fun k hk => (hcold k (by omega)).trans (hB3.block k hk)⟩
      have HBR := Lib.hid hBr
      clear hall hfr hcold
      by_cases hk2 : k < l.length
      · obtain ⟨eb, eoff, rfl, hFe, u, hat, hu⟩ := HV.out.elem k hk2
        obtain ⟨en, eab, enb, ecb, eal, enl, ecl, rfl⟩ := hu.form
        have hlt := HF.out eb hFe
        obtain ⟨x, y, z, hxyz, e0, e1, e2⟩ := hat.same (w' := wr) (hBr.block eb hlt)
        cases hxyz
        have HUE := Lib.hid hu
        clear hat hu hBr
        have hcall := walk_any (putTeller (w1.heap.size + 1)) sh l[k] (fun b => b < w1.heap.size) (.agg #[.int .u8 (kind sh), .slice pa pn pc, .bool (solid sh)]) (.agg #[.int .u64 en, .slice eab enb ecb, .slice eal enl ecl])
          ((l.take k).map (putV sh)).flatten (wr.alloc (.cells #[.int .u64 en, .slice eab enb ecb, .slice eal enl ecl] 31)) (outAt_alloc _ HOUT.out)
          (HU.out.same (fun b hb => hb.2) fun b hb => by rw [Below.heap_alloc _ _ _ (by omega), HCOLD.out b (by omega), HO3.out b hb.2])
          (HUE.out.same (fun b hb => by have := HF.out b hb; omega) fun b hb => by
            have := HF.out b hb
            rw [Below.heap_alloc _ _ _ (by omega), HBR.out.block b this])
          (fun b hb => ⟨by simp; omega, (putTeller (w1.heap.size + 1)).cAlloc _ HOUT.out (by omega) (HFR.out.cold b (by rw [HZ3.out]; omega) (cold_first HB3.out (by omega)))⟩)
          (by
            have h1 := flatten_le (f := putV sh) (l.take k) fun v _ => putV_le sh v
            have h2 := vsizes_get l k hk2
            have h3 := HL.out
            omega)
        have HC := Lib.hid hcall
        clear hcall
        go_wp2_with fail
        refine HC.out.mono ?_
        rintro e w2 ⟨rfl, hfr2, L2, hI2, hL2⟩
        have hfr3 := HFR.out.trans ((Fr.box (putTeller (w1.heap.size + 1)) _ HOUT.out).trans hfr2)
        have HFR3 := Lib.hid hfr3
        have HI2 := Lib.hid hI2
        have HL2 := Lib.hid hL2
        clear hfr3 hfr2 hI2 hL2
        cases hv : isV sh l[k] with
        | true =>
          have HIS := Lib.hid hv
          clear hv
          go_wp2_with fail
          go_roundw
          case rel =>
            refine ⟨k + 1, by go_num, by omega, ?_, ?_, HFR3.out⟩
            · rw [List.take_add_one, List.getElem?_eq_getElem hk2, List.all_append, HALL.out]
              simp only [Option.toList_some, List.all_cons, List.all_nil, HIS.out, Bool.and_true]
            · rw [List.take_add_one, List.getElem?_eq_getElem hk2]
              simp only [Option.toList_some, List.map_append, List.map_cons, List.map_nil, List.flatten_append, List.flatten_cons, List.flatten_nil, List.append_nil]
              rw [← HL2.out HIS.out]
              exact HI2.out
          case measure => simp [intOf]; omega
        | false =>
          have HIS := Lib.hid hv
          clear hv
          go_wp2_with fail
          go_ret2
          have hno : l.all (isV sh) = false := List.all_eq_false.2 ⟨l[k], List.getElem_mem _, by rw [HIS.out]; simp⟩
          rw [HQ.out, hno]
          have hf := HFR3.out
          exact ⟨⟨hf.os.trans hB3.os, hf.tape.trans hB3.tape, hf.output.trans hB3.output, Nat.le_trans hB3.size hf.size, fun k hk => (hf.block k (by rw [HZ3.out]; omega) (cold_first HB3.out (by omega))).trans (hB3.block k hk)⟩, rfl⟩
      · obtain ⟨c0, -, -⟩ := block1 hob
        have HK : Hid (k = l.length) := Lib.hid (by omega)
        have HOWN := Lib.hid hown
        clear hob hown hout
        go_wp2_with fail
        go_ret2
        have hall := HALL.out
        have hown := HOWN.out
        rw [HK.out, List.take_length] at hall hown
        rw [HQ.out, hall]
        refine ⟨HBR.out, _, rfl, ?_⟩
        obtain ⟨h1, h2⟩ := hown
        refine ⟨h1, h2.imp id ?_⟩
        rintro ⟨g, cap, cur, h3, h4, h5⟩
        exact ⟨g, cap, cur, h3, by omega, h5⟩
end Go.Proofs.Ytafodaoehnggfaa.M
