/- walk of package mould goes through a value by its shape and tells each part's kind. Put and Is of package mould. Put of package mould: the forms, one behind the other. -/
import Derived.Test.YtdngfbljcmbniaaTM6
import Derived.StillTailTactics
import Derived.Deep.QuietTactic
import Derived.BigQuiet
/- Part: MouldWalk. -/
namespace Go.Proofs.Ytdngfbljcmbniaa.M
open Go.RowKit

/-- Of the blocks that were there, those that are cold stand as they stood, and stay cold. -/
structure Fr (cold : World → Nat → Prop) (w w' : World) : Prop where
  os : w'.os = w.os
  tape : w'.tape = w.tape
  output : w'.output = w.output
  size : w.heap.size ≤ w'.heap.size
  block : ∀ k, k < w.heap.size → cold w k → w'.heap[k]? = w.heap[k]?
  cold : ∀ k, k < w.heap.size → cold w k → cold w' k

theorem Fr.refl {cold : World → Nat → Prop} (w : World) : Fr cold w w := ⟨rfl, rfl, rfl, Nat.le_refl _, fun _ _ _ => rfl, fun _ _ h => h⟩

theorem Fr.trans {cold : World → Nat → Prop} {w w1 w2 : World} (h : Fr cold w w1) (g : Fr cold w1 w2) : Fr cold w w2 :=
  ⟨g.os.trans h.os, g.tape.trans h.tape, g.output.trans h.output, Nat.le_trans h.size g.size,
    fun k hk hc => (g.block k (Nat.lt_of_lt_of_le hk h.size) (h.cold k hk hc)).trans (h.block k hk hc),
    fun k hk hc => g.cold k (Nat.lt_of_lt_of_le hk h.size) (h.cold k hk hc)⟩

/-- Who is told: a function value, what it keeps of what it was told, and which blocks it lets alone. -/
structure Teller (fn : FuncId) (caps : Array Value) where
  entry : ∀ (args : Array Value) (w : World), (callFunc fn args).run Try.prog w = .ok (.enter fn args) w
  I : List UInt8 → World → Prop
  cold : World → Nat → Prop
  iAlloc : ∀ {L w} o, I L w → I L (w.alloc o)
  iDrew : ∀ {L w}, I L w → I L w.drew
  cAlloc : ∀ {L w k} o, I L w → k < w.heap.size → cold w k → cold (w.alloc o) k
  cNew : ∀ {L w} o, I L w → cold (w.alloc o) w.heap.size
  cDrew : ∀ {w k}, cold w k → cold w.drew k
  call : ∀ (s : Sh) (d : V) (F : Nat → Prop) (u : Value) (L : List UInt8) (w : World), I L w → RepV w F d u → (∀ b, F b → b < w.heap.size ∧ cold w b) → L.length + d.b.length + 9 ≤ 1099511627776 →
    Calls Try.prog fn (#[.int .u8 (kind s), u] ++ caps) w fun e w' => e = .returned (.tuple #[]) ∧ I (L ++ headOf s d) w' ∧ Fr cold w w'

mutual
/-- At least what a form takes. -/
def vsize : V → Nat
  | .mk _ b l => 9 + b.length + vsizes l
def vsizes : List V → Nat
  | [] => 0
  | v :: l => vsize v + vsizes l
end

section
variable {fn : FuncId} {caps : Array Value} (T : Teller fn caps)

def WalkPost (s : Sh) (d : V) (L : List UInt8) (w : World) (e : Ending) (w' : World) : Prop :=
  e = .returned (.bool (isV s d)) ∧ Fr T.cold w w' ∧ ∃ L', T.I L' w' ∧ (isV s d = true → L' = L ++ putV s d)

def WalkSaid (s : Sh) : Prop := ∀ (d : V) (F : Nat → Prop) (pu u : Value) (L : List UInt8) (w : World), T.I L w → RepS w F s pu → RepV w F d u → (∀ b, F b → b < w.heap.size ∧ T.cold w b) →
  L.length + vsize d ≤ 1099511627776 → Calls Try.prog 39 #[pu, u, .func (.func fn) #[] caps] w (WalkPost T s d L w)

theorem boxes {w : World} {L : List UInt8} {F : Nat → Prop} (o1 o2 : Obj) (hI : T.I L w) (hF : ∀ b, F b → b < w.heap.size ∧ T.cold w b) :
    T.I L ((w.alloc o1).alloc o2) ∧ Fr T.cold w ((w.alloc o1).alloc o2) ∧ (∀ b, F b → b < ((w.alloc o1).alloc o2).heap.size ∧ T.cold ((w.alloc o1).alloc o2) b) ∧ (∀ b, F b → ((w.alloc o1).alloc o2).heap[b]? = w.heap[b]?) ∧
    T.cold ((w.alloc o1).alloc o2) w.heap.size ∧ T.cold ((w.alloc o1).alloc o2) (w.heap.size + 1) := by
  have hI1 := T.iAlloc o1 hI
  refine ⟨T.iAlloc _ hI1, ⟨rfl, rfl, rfl, by simp; omega, fun k hk _ => ?_, fun k hk hc => T.cAlloc _ hI1 (by simp; omega) (T.cAlloc _ hI hk hc)⟩,
    fun b hb => ⟨by have := (hF b hb).1; simp; omega, T.cAlloc _ hI1 (by have := (hF b hb).1; simp; omega) (T.cAlloc _ hI (hF b hb).1 (hF b hb).2)⟩, fun b hb => ?_,
    T.cAlloc _ hI1 (by simp) (T.cNew _ hI), ?_⟩
  · rw [Below.heap_alloc _ _ _ (by simp; omega), Below.heap_alloc _ _ _ hk]
  · have := (hF b hb).1
    rw [Below.heap_alloc _ _ _ (by simp; omega), Below.heap_alloc _ _ _ this]
  · have := T.cNew (L := L) (w := w.alloc o1) o2 (T.iAlloc _ hI)
    simpa using this

/-- The call that every walk begins with. -/
theorem first_call {s : Sh} {d : V} {F : Nat → Prop} {u : Value} {L : List UInt8} {w : World} (o1 o2 : Obj) (hI : T.I L w) (hu : RepV w F d u) (hF : ∀ b, F b → b < w.heap.size ∧ T.cold w b)
    (hL : L.length + vsize d ≤ 1099511627776) :
    Calls Try.prog fn (#[.int .u8 (kind s), u] ++ caps) ((w.alloc o1).alloc o2) fun e w' => e = .returned (.tuple #[]) ∧ T.I (L ++ headOf s d) w' ∧ Fr T.cold w w' ∧ w'.heap[w.heap.size]? = some o1 ∧ w'.heap[w.heap.size + 1]? = some o2 ∧
      T.cold w' w.heap.size ∧ T.cold w' (w.heap.size + 1) ∧ w.heap.size + 1 < w'.heap.size := by
  obtain ⟨h1, h2, h3, h4, h5, h6⟩ := boxes T o1 o2 hI hF
  refine (T.call s d F u L _ h1 (hu.same (fun _ h => h) h4) h3 (by cases d; simp only [vsize, V.b] at hL ⊢; omega)).mono ?_
  rintro e w' ⟨he, hI', hfr⟩
  have hz := hfr.size
  simp at hz
  refine ⟨he, hI', h2.trans hfr, ?_, ?_, hfr.cold _ (by simp; omega) h5, hfr.cold _ (by simp) h6, by omega⟩
  · rw [hfr.block _ (by simp; omega) h5]; exact old_alloc (heap_new w o1 _ rfl)
  · rw [hfr.block _ (by simp) h6]; exact heap_new _ o2 _ (by simp)

set_option maxRecDepth 20000 in
set_option maxHeartbeats 800000 in
theorem walk_num : WalkSaid T .num := by
  intro d F pu u L w hI hs hu hF hL
  obtain ⟨n, b, l⟩ := d
  have hc := fun o1 o2 => first_call T (s := .num) o1 o2 hI hu hF hL
  obtain ⟨vb, vl, rfl, hn, hb, hl⟩ := RepV_mk.1 hu
  obtain ⟨ab, cb, rfl, hbl⟩ := hb.slice
  obtain ⟨al, cl, rfl, hll⟩ := hl.slice
  obtain ⟨sa, sn, sc, rfl⟩ := hs.agg
  have HC := Lib.hid hc
  have hent := T.entry
  clear hu hn hb hl hs hc
  go_enter Try.func39, Try.ntmps39
  go_wp2_with fail
  refine (HC.out _ _).mono ?_
  rintro e w1 ⟨rfl, hI1, hfr, hb1, hb2, -, -, hz⟩
  obtain ⟨c0, c1, c2, -, -, -, -⟩ := block3 hb1
  rw [show kind .num = 110 from rfl] at c0
  go_wp2_with fail
  go_ret
  exact ⟨rfl, hfr, _, hI1, fun _ => rfl⟩

set_option maxRecDepth 20000 in
set_option maxHeartbeats 800000 in
theorem walk_blob : WalkSaid T .blob := by
  intro d F pu u L w hI hs hu hF hL
  obtain ⟨n, b, l⟩ := d
  have hc := fun o1 o2 => first_call T (s := .blob) o1 o2 hI hu hF hL
  obtain ⟨vb, vl, rfl, hn, hb, hl⟩ := RepV_mk.1 hu
  obtain ⟨ab, cb, rfl, hbl⟩ := hb.slice
  obtain ⟨al, cl, rfl, hll⟩ := hl.slice
  obtain ⟨sa, sn, sc, rfl⟩ := hs.agg
  have HC := Lib.hid hc
  have hent := T.entry
  clear hu hn hb hl hs hc
  go_enter Try.func39, Try.ntmps39
  go_wp2_with fail
  refine (HC.out _ _).mono ?_
  rintro e w1 ⟨rfl, hI1, hfr, hb1, hb2, -, -, hz⟩
  obtain ⟨c0, c1, c2, -, -, -, -⟩ := block3 hb1
  rw [show kind .blob = 98 from rfl] at c0
  go_wp2_with fail
  go_ret
  exact ⟨rfl, hfr, _, hI1, fun _ => rfl⟩

/-- What an element of a value's list is, where it lies. -/
theorem RepVl.elem {w : World} {F : Nat → Prop} {l : List V} {a : Option Addr} {n c : Nat} (h : RepVl w F l (.slice a n c)) (k : Nat) (hk : k < l.length) :
    ∃ b off, a = some ⟨b, off, none⟩ ∧ F b ∧ ∃ u, At3 w b (off + k * 3) u ∧ RepV w F l[k] u := by
  rcases h with ⟨rfl, _⟩ | ⟨b, off, c', h, hb, _, _, hl⟩
  · simp at hk
  · cases h
    exact ⟨b, off, rfl, hb, RepVs.get l hl k hk⟩

/-- A value written out. -/
theorem RepV.form {w : World} {F : Nat → Prop} {d : V} {u : Value} (h : RepV w F d u) : ∃ n ab nb cb al nl cl, u = .agg #[.int .u64 n, .slice ab nb cb, .slice al nl cl] := by
  obtain ⟨n, b, l⟩ := d
  obtain ⟨vb, vl, rfl, hn, hb, hl⟩ := RepV_mk.1 h
  obtain ⟨ab, cb, rfl, _⟩ := hb.slice
  obtain ⟨al, cl, rfl, _⟩ := hl.slice
  exact ⟨_, _, _, _, _, _, _, rfl⟩

/-- The state at a round's head: of the parts k are told. -/
def RoundAt (w : World) (o1 o2 : Obj) (L : List UInt8) (wr : World) : Prop :=
  T.I L wr ∧ Fr T.cold w wr ∧ wr.heap[w.heap.size]? = some o1 ∧ wr.heap[w.heap.size + 1]? = some o2 ∧ T.cold wr w.heap.size ∧ T.cold wr (w.heap.size + 1) ∧ w.heap.size + 1 < wr.heap.size

theorem RoundAt.next {w wr w' : World} {o1 o2 : Obj} {L L' : List UInt8} (h : RoundAt T w o1 o2 L wr) (hI : T.I L' w') (hfr : Fr T.cold wr w') : RoundAt T w o1 o2 L' w' := by
  obtain ⟨_, h2, h3, h4, h5, h6, h7⟩ := h
  exact ⟨hI, h2.trans hfr, (hfr.block _ (by omega) h5).trans h3, (hfr.block _ h7 h6).trans h4, hfr.cold _ (by omega) h5, hfr.cold _ h7 h6, Nat.lt_of_lt_of_le h7 hfr.size⟩

/-- One new block: what stays. -/
theorem Fr.box {w : World} {L : List UInt8} (o : Obj) (hI : T.I L w) : Fr T.cold w (w.alloc o) :=
  ⟨rfl, rfl, rfl, by simp, fun k hk _ => Below.heap_alloc _ _ _ hk, fun k hk hc => T.cAlloc _ hI hk hc⟩

theorem Fr.drawn {w : World} : Fr T.cold w w.drew := ⟨rfl, rfl, rfl, Nat.le_refl _, fun _ _ _ => rfl, fun _ _ h => T.cDrew h⟩

/-- The call for a part, in a round, behind the box that its value was laid in. -/
theorem part_call {s : Sh} (ih : WalkSaid T s) {d : V} {F : Nat → Prop} {pu u : Value} {L : List UInt8} {w wr : World} {o1 o2 : Obj} (o : Obj) (hr : RoundAt T w o1 o2 L wr) (hs : RepS w F s pu) (hu : RepV w F d u)
    (hF : ∀ b, F b → b < w.heap.size ∧ T.cold w b) (hL : L.length + vsize d ≤ 1099511627776) :
    Calls Try.prog 39 #[pu, u, .func (.func fn) #[] caps] (wr.alloc o).drew fun e w' => e = .returned (.bool (isV s d)) ∧ ∃ L', RoundAt T w o1 o2 L' w' ∧ (isV s d = true → L' = L ++ putV s d) := by
  have hI := hr.1
  have hfr := hr.2.1
  have hbox : Fr T.cold wr (wr.alloc o).drew := (Fr.box T o hI).trans (Fr.drawn T)
  have hall := hfr.trans hbox
  have hkeep : ∀ b, F b → (wr.alloc o).drew.heap[b]? = w.heap[b]? := fun b hb => hall.block b (hF b hb).1 (hF b hb).2
  refine (ih d F pu u L _ (T.iDrew (T.iAlloc o hI)) (hs.same (fun _ h => h) hkeep) (hu.same (fun _ h => h) hkeep) (fun b hb => ⟨Nat.lt_of_lt_of_le (hF b hb).1 hall.size, hall.cold b (hF b hb).1 (hF b hb).2⟩) hL).mono ?_
  rintro e w' ⟨he, hf, L', hI', hl⟩
  exact ⟨he, L', hr.next T hI' (hbox.trans hf), hl⟩

theorem vsizes_get : ∀ (l : List V) (k : Nat) (h : k < l.length), vsize l[k] + vsizes (l.take k) ≤ vsizes l
  | v :: l, 0, h => by simp [vsizes]
  | v :: l, k + 1, h => by
    have := vsizes_get l k (by simpa using h)
    simp only [List.getElem_cons_succ, List.take_succ_cons, vsizes]
    omega

theorem flatten_le {f : V → List UInt8} : ∀ (l : List V), (∀ v ∈ l, (f v).length ≤ vsize v) → (l.map f).flatten.length ≤ vsizes l
  | [], _ => by simp [vsizes]
  | v :: l, h => by
    have h1 := h v (by simp)
    have h2 := flatten_le l fun u hu => h u (by simp [hu])
    simp only [List.map_cons, List.flatten_cons, List.length_append, vsizes]
    omega

theorem puts_le {s : Sh} {l : List V} {k : Nat} {L : List UInt8} (hput : ∀ d, isV s d = true → (putV s d).length ≤ vsize d) (hall : ∀ v ∈ l.take k, isV s v = true) (hk : k < l.length)
    (hL : L.length + (9 + vsizes l) ≤ 1099511627776) (hll : l.length < 18446744073709551616) : (L ++ num l.length ++ ((l.take k).map (putV s)).flatten).length + vsize l[k] ≤ 1099511627776 := by
  have h1 := num_length_le l.length hll
  have h2 := flatten_le (f := putV s) (l.take k) fun v hv => hput v (hall v hv)
  have h3 := vsizes_get l k hk
  simp only [List.length_append]
  omega

set_option maxRecDepth 20000 in
set_option maxHeartbeats 1600000 in
theorem walk_list {s : Sh} (ih : WalkSaid T s) (hput : ∀ d, isV s d = true → (putV s d).length ≤ vsize d) : WalkSaid T (.list s) := by
  intro d F pu u L w hI hs hu hF hL
  obtain ⟨n, b, l⟩ := d
  have hc := fun o1 o2 => first_call T (s := .list s) o1 o2 hI hu hF hL
  obtain ⟨vb, vl, rfl, hn, hb, hl⟩ := RepV_mk.1 hu
  obtain ⟨ab, cb, rfl, hbl⟩ := hb.slice
  obtain ⟨al, cl, rfl, hll⟩ := hl.slice
  unfold RepS at hs
  obtain ⟨pb, poff, pc, pu1, rfl, hpb, hpat, hpu1⟩ := hs
  have HC := Lib.hid hc
  have HV := Lib.hid hl
  have HP := Lib.hid hpu1
  have HPA := Lib.hid hpat
  have HF := Lib.hid hF
  have HIH := Lib.hid ih
  have HPUT := Lib.hid hput
  have hent := T.entry
  have HL : Hid (L.length + (9 + vsizes l) ≤ 1099511627776) := Lib.hid (by simp only [vsize] at hL; omega)
  have hcold : F pb := hpb
  clear hu hn hb hl hc hpat hpu1 hF ih hput hL
  go_enter Try.func39, Try.ntmps39
  go_wp2_with fail
  refine (HC.out _ _).mono ?_
  rintro e w1 ⟨rfl, hI1, hfr, hb1, hb2, hcold1, hcold2, hz⟩
  obtain ⟨c0, c1, c2, -, -, -, -⟩ := block3 hb1
  obtain ⟨d0, d1, d2, -, -, -, -⟩ := block3 hb2
  have hround : RoundAt T w (.cells #[.int .u8 42, .slice (some ⟨pb, poff, none⟩) 1 pc, .bool true] 72) (.cells #[.int .u64 (n : Int), .slice ab b.length cb, .slice al l.length cl] 45) (L ++ num l.length) w1 :=
    ⟨hI1, hfr, hb1, hb2, hcold1, hcold2, hz⟩
  have HR1 := Lib.hid hround
  clear hround hI1 hfr hb1 hb2
  go_wp2_with fail
  go_loopw [23] (fun i wr => ∃ k : Nat, i = .int .i64 (k : Int) ∧ k ≤ l.length ∧ (∀ v ∈ l.take k, isV s v = true) ∧
      RoundAt T w (.cells #[.int .u8 42, .slice (some ⟨pb, poff, none⟩) 1 pc, .bool true] 72) (.cells #[.int .u64 (n : Int), .slice ab b.length cb, .slice al l.length cl] 45)
        (L ++ num l.length ++ ((l.take k).map (putV s)).flatten) wr) (fun i _ => l.length - (intOf i).toNat)
  case atStart => exact ⟨0, rfl, by omega, by simp, by simpa using HR1.out⟩
  case round =>
    obtain ⟨k, rfl, hk, hall, hround⟩ := hrel
    have HALL := Lib.hid hall
    have HRO := Lib.hid hround
    obtain ⟨hI1, hfr, hb1, hb2, hcold1, hcold2, hz⟩ := hround
    obtain ⟨c0, c1, c2, -, -, -, -⟩ := block3 hb1
    obtain ⟨d0, d1, d2, -, -, -, -⟩ := block3 hb2
    by_cases hk2 : k < l.length
    · obtain ⟨eb, eoff, rfl, hFe, u, hat, hu⟩ := HV.out.elem k hk2
      obtain ⟨en, eab, enb, ecb, eal, enl, ecl, rfl⟩ := hu.form
      obtain ⟨x, y, z, hxyz, e0, e1, e2⟩ := hat.same (w' := wr) (hfr.block eb (HF.out eb hFe).1 (HF.out eb hFe).2)
      cases hxyz
      obtain ⟨psa, psn, psc, rfl⟩ := HP.out.agg
      obtain ⟨x, y, z, hxyz, p0, p1, p2⟩ := HPA.out.same (w' := wr) (hfr.block pb (HF.out pb hpb).1 (HF.out pb hpb).2)
      cases hxyz
      have hlt := Nat.lt_of_lt_of_le (HF.out pb hpb).1 hfr.size
      have hz0 : w.heap.size < wr.heap.size := by omega
      have HU := Lib.hid hu
      clear hall hI1 hfr hb1 hb2 hat hu
      have HK : Hid ((L ++ num l.length ++ ((l.take k).map (putV s)).flatten).length + vsize l[k] ≤ 1099511627776) := Lib.hid (puts_le HPUT.out HALL.out hk2 HL.out (by omega))
      go_wp2_with fail
      refine region_still_tail 6 (by kernel_rfl) (by kernel_rfl) ?_
      simp only [List.take_succ_cons, List.take_zero, List.drop_succ_cons, List.drop_zero]
      repeat still_step
      refine wpStill_nil ?_
      go_wp2_with fail
      refine (part_call T HIH.out _ HRO.out HP.out HU.out HF.out HK.out).mono ?_
      rintro e w2 ⟨rfl, L2, hr2, hl2⟩
      have HR2 := Lib.hid hr2
      have HL2 := Lib.hid hl2
      clear hr2 hl2
      cases hv : isV s l[k] with
      | true =>
        have HIS := Lib.hid hv
        clear hv
        go_wp2_with fail
        go_roundw
        case rel =>
          refine ⟨k + 1, by go_num, by omega, ?_, ?_⟩
          · intro v hv
            rw [List.take_add_one, List.getElem?_eq_getElem hk2] at hv
            simp only [Option.toList_some, List.mem_append, List.mem_singleton] at hv
            rcases hv with hv | rfl
            · exact HALL.out v hv
            · exact HIS.out
          · rw [List.take_add_one, List.getElem?_eq_getElem hk2]
            simp only [Option.toList_some, List.map_append, List.map_cons, List.map_nil, List.flatten_append, List.flatten_cons, List.flatten_nil, List.append_nil]
            rw [← List.append_assoc, ← HL2.out HIS.out]
            exact HR2.out
        case measure => simp [intOf]; omega
      | false =>
        have HIS := Lib.hid hv
        clear hv
        go_wp2_with fail
        go_ret
        have hno : isV (.list s) (.mk n b l) = false := by
          rw [isV]
          exact List.all_eq_false.2 ⟨l[k], List.getElem_mem _, by rw [HIS.out]; simp⟩
        refine ⟨by rw [hno]; rfl, HR2.out.2.1, L2, HR2.out.1, fun h => ?_⟩
        rw [hno] at h; cases h
    · have hk3 : k = l.length := by omega
      subst hk3
      clear hk2
      go_wp2_with fail
      go_ret
      have hyes : isV (.list s) (.mk n b l) = true := by
        rw [isV]
        exact List.all_eq_true.2 fun v hv => HALL.out v (by rw [List.take_length]; exact hv)
      refine ⟨by rw [hyes]; rfl, HRO.out.2.1, _, HRO.out.1, fun _ => ?_⟩
      rw [putV, List.take_length, List.append_assoc]
      rfl
/-- What a row's value has, and where each of its parts lies. -/
theorem RepS.row {w : World} {F : Nat → Prop} {l : List Sh} {v : Value} (h : RepS w F (.row l) v) : ∃ a c, v = .agg #[.int .u8 91, .slice a l.length c, .bool (solids l)] ∧
    ∀ (k : Nat) (hk : k < l.length), ∃ b off, a = some ⟨b, off, none⟩ ∧ F b ∧ ∃ u, At3 w b (off + k * 3) u ∧ RepS w F l[k] u := by
  unfold RepS at h
  obtain ⟨sl, hv, ⟨rfl, rfl⟩ | ⟨b, off, c, rfl, hb, hl⟩⟩ := h
  · exact ⟨none, 0, hv, fun k hk => by simp at hk⟩
  · exact ⟨_, c, hv, fun k hk => ⟨b, off, rfl, hb, RepSs.get l hl k hk⟩⟩

theorem rows_le {l : List Sh} {vs : List V} : ∀ (k : Nat), (∀ s ∈ l, ∀ d, isV s d = true → (putV s d).length ≤ vsize d) → k ≤ l.length → k ≤ vs.length → isVs (l.take k) (vs.take k) = true →
    (putVs (l.take k) (vs.take k)).length ≤ vsizes (vs.take k) := by
  induction l generalizing vs with
  | nil => intro k _ hk _ _; obtain rfl : k = 0 := by simpa using hk
           simp [putVs, vsizes]
  | cons s l ih =>
    intro k h h1 h2 h3
    cases k with
    | zero => simp [putVs, vsizes]
    | succ k =>
      cases vs with
      | nil => simp at h2
      | cons v vs =>
        simp only [List.take_succ_cons, isVs, Bool.and_eq_true, putVs, vsizes, List.length_append] at h3 ⊢
        have := ih (vs := vs) k (fun s hs => h s (by simp [hs])) (by simpa using h1) (by simpa using h2) h3.2
        have := h s (by simp) v h3.1
        omega

theorem rows_le2 {l : List Sh} {vs : List V} {k : Nat} {L : List UInt8} (h : ∀ s ∈ l, ∀ d, isV s d = true → (putV s d).length ≤ vsize d) (h1 : k < l.length) (h2 : k < vs.length)
    (h3 : isVs (l.take k) (vs.take k) = true) (hL : L.length + (9 + vsizes vs) ≤ 1099511627776) : (L ++ putVs (l.take k) (vs.take k)).length + vsize vs[k] ≤ 1099511627776 := by
  have a := rows_le k h (by omega) (by omega) h3
  have b := vsizes_get vs k h2
  simp only [List.length_append]
  omega

set_option maxRecDepth 20000 in
set_option maxHeartbeats 1600000 in
theorem walk_row {l : List Sh} (ih : ∀ s ∈ l, WalkSaid T s) (hput : ∀ s ∈ l, ∀ d, isV s d = true → (putV s d).length ≤ vsize d) : WalkSaid T (.row l) := by
  intro d F pu u L w hI hs hu hF hL
  obtain ⟨n, b, vs⟩ := d
  have hc := fun o1 o2 => first_call T (s := .row l) o1 o2 hI hu hF hL
  obtain ⟨vb, vl, rfl, hn, hb, hl⟩ := RepV_mk.1 hu
  obtain ⟨ab, cb, rfl, hbl⟩ := hb.slice
  obtain ⟨al, cl, rfl, hll⟩ := hl.slice
  obtain ⟨pa, pc, rfl, hps⟩ := hs.row
  have HC := Lib.hid hc
  have HV := Lib.hid hl
  have HP := Lib.hid hps
  have HF := Lib.hid hF
  have HIH := Lib.hid ih
  have HPUT := Lib.hid hput
  have hent := T.entry
  have HL : Hid (L.length + (9 + vsizes vs) ≤ 1099511627776) := Lib.hid (by simp only [vsize] at hL; omega)
  clear hu hn hb hl hc hps hs hF ih hput hL
  go_enter Try.func39, Try.ntmps39
  go_wp2_with fail
  refine (HC.out _ _).mono ?_
  rintro e w1 ⟨rfl, hI1, hfr, hb1, hb2, hcold1, hcold2, hz⟩
  obtain ⟨c0, c1, c2, -, -, -, -⟩ := block3 hb1
  obtain ⟨d0, d1, d2, -, -, -, -⟩ := block3 hb2
  have hround : RoundAt T w (.cells #[.int .u8 91, .slice pa l.length pc, .bool (solids l)] 72) (.cells #[.int .u64 (n : Int), .slice ab b.length cb, .slice al vs.length cl] 45) (L ++ []) w1 :=
    ⟨hI1, hfr, hb1, hb2, hcold1, hcold2, hz⟩
  have HR1 := Lib.hid hround
  clear hround hI1 hfr hb1 hb2
  by_cases hlen : vs.length = l.length
  · have hne : ((vs.length : Int) != (l.length : Int)) = false := by simp [hlen]
    have HLEN := Lib.hid hlen
    clear hlen
    go_wp2_with fail
    go_loopw [48] (fun i wr => ∃ k : Nat, i = .int .i64 (k : Int) ∧ k ≤ vs.length ∧ isVs (l.take k) (vs.take k) = true ∧
        RoundAt T w (.cells #[.int .u8 91, .slice pa l.length pc, .bool (solids l)] 72) (.cells #[.int .u64 (n : Int), .slice ab b.length cb, .slice al vs.length cl] 45)
          (L ++ putVs (l.take k) (vs.take k)) wr) (fun i _ => vs.length - (intOf i).toNat)
    case atStart => exact ⟨0, rfl, by omega, by simp [isVs], by simpa [putVs] using HR1.out⟩
    case round =>
      obtain ⟨k, rfl, hk, hall, hround⟩ := hrel
      have HALL := Lib.hid hall
      have HRO := Lib.hid hround
      obtain ⟨hI1, hfr, hb1, hb2, hcold1, hcold2, hz⟩ := hround
      obtain ⟨c0, c1, c2, -, -, -, -⟩ := block3 hb1
      obtain ⟨d0, d1, d2, -, -, -, -⟩ := block3 hb2
      by_cases hk2 : k < vs.length
      · have hk3 : k < l.length := by have := HLEN.out; omega
        obtain ⟨eb, eoff, rfl, hFe, u, hat, hu⟩ := HV.out.elem k hk2
        obtain ⟨en, eab, enb, ecb, eal, enl, ecl, rfl⟩ := hu.form
        obtain ⟨x, y, z, hxyz, e0, e1, e2⟩ := hat.same (w' := wr) (hfr.block eb (HF.out eb hFe).1 (HF.out eb hFe).2)
        cases hxyz
        obtain ⟨pb, poff, rfl, hFp, pu, hpat, hpu⟩ := HP.out k hk3
        obtain ⟨psa, psn, psc, rfl⟩ := hpu.agg
        obtain ⟨x, y, z, hxyz, p0, p1, p2⟩ := hpat.same (w' := wr) (hfr.block pb (HF.out pb hFp).1 (HF.out pb hFp).2)
        cases hxyz
        have hlt := Nat.lt_of_lt_of_le (HF.out pb hFp).1 hfr.size
        have hz0 : w.heap.size < wr.heap.size := by omega
        have HU := Lib.hid hu
        have HPU := Lib.hid hpu
        have hk4 : (k : Int) < (l.length : Int) := by omega
        have HK : Hid ((L ++ putVs (l.take k) (vs.take k)).length + vsize vs[k] ≤ 1099511627776) := Lib.hid (rows_le2 HPUT.out hk3 hk2 HALL.out HL.out)
        clear hall hI1 hfr hb1 hb2 hat hu hpat hpu
        go_wp2_with fail
        refine region_still_tail 7 (by kernel_rfl) (by kernel_rfl) ?_
        simp only [List.take_succ_cons, List.take_zero, List.drop_succ_cons, List.drop_zero]
        repeat still_step
        refine wpStill_nil ?_
        go_wp2_with fail
        refine (part_call T (HIH.out _ (List.getElem_mem hk3)) _ HRO.out HPU.out HU.out HF.out HK.out).mono ?_
        rintro e w2 ⟨rfl, L2, hr2, hl2⟩
        have HR2 := Lib.hid hr2
        have HL2 := Lib.hid hl2
        clear hr2 hl2
        cases hv : isV l[k] vs[k] with
        | true =>
          have HIS := Lib.hid hv
          clear hv
          go_wp2_with fail
          go_roundw
          case rel =>
            refine ⟨k + 1, by go_num, by omega, isVs_step l vs k hk3 hk2 HALL.out HIS.out, ?_⟩
            rw [putVs_step l vs k hk3 hk2, ← List.append_assoc, ← HL2.out HIS.out]
            exact HR2.out
          case measure => simp [intOf]; omega
        | false =>
          have HIS := Lib.hid hv
          clear hv
          go_wp2_with fail
          go_ret
          have hno : isV (.row l) (.mk n b vs) = false := by
            rw [isV, Bool.eq_false_iff]
            intro h
            have := isVs_get l vs k hk3 hk2 h
            rw [HIS.out] at this
            cases this
          refine ⟨by rw [hno]; rfl, HR2.out.2.1, L2, HR2.out.1, fun h => ?_⟩
          rw [hno] at h; cases h
      · have hk3 : k = vs.length := by omega
        subst hk3
        clear hk2
        go_wp2_with fail
        go_ret
        have hlen := HLEN.out
        have hall := HALL.out
        have hro := HRO.out
        rw [List.take_length, hlen, List.take_length] at hall hro
        have hyes : isV (.row l) (.mk n b vs) = true := by rw [isV]; exact hall
        exact ⟨by rw [hyes]; rfl, hro.2.1, _, hro.1, fun _ => rfl⟩
  · have hne : ((vs.length : Int) != (l.length : Int)) = true := by simp; omega
    have HNE : Hid (vs.length ≠ l.length) := Lib.hid hlen
    clear hlen
    go_wp2_with fail
    go_ret
    have hno : isV (.row l) (.mk n b vs) = false := by
      rw [isV, Bool.eq_false_iff]
      intro h
      exact HNE.out (isVs_length l vs h).symm
    refine ⟨by rw [hno]; rfl, HR1.out.2.1, _, HR1.out.1, fun h => ?_⟩
    rw [hno] at h; cases h
end
end Go.Proofs.Ytdngfbljcmbniaa.M

/- Part: MouldPut3. -/
namespace Go.Proofs.Ytdngfbljcmbniaa.M
open Go.RowKit

mutual
theorem putV_le : ∀ (s : Sh) (d : V), (putV s d).length ≤ vsize d
  | .num, .mk n b l => by have := num_le n; simp only [putV, V.n, vsize]; omega
  | .blob, .mk n b l => by have := num_le b.length; simp only [putV, V.b, vsize, List.length_append]; omega
  | .list s, .mk n b l => by
    have h1 := num_le l.length
    have h2 := flatten_le (f := putV s) l fun v _ => putV_le s v
    simp only [putV, V.l, vsize, List.length_append]
    omega
  | .row l, .mk n b vs => by
    have := putVs_le l vs
    simp only [putV, V.l, vsize]
    omega
theorem putVs_le : ∀ (l : List Sh) (vs : List V), (putVs l vs).length ≤ vsizes vs
  | [], vs => by simp [putVs]
  | s :: l, [] => by simp [putVs]
  | s :: l, v :: vs => by
    have h1 := putV_le s v
    have h2 := putVs_le l vs
    simp only [putVs, vsizes, List.length_append]
    omega
end

section
variable {fn : FuncId} {caps : Array Value} (T : Teller fn caps)
mutual
theorem walk_any : ∀ s, WalkSaid T s
  | .num => walk_num T
  | .blob => walk_blob T
  | .list s => walk_list T (walk_any s) fun d _ => putV_le s d
  | .row l => walk_row T (walks_any l) fun s _ d _ => putV_le s d
theorem walks_any : ∀ (l : List Sh), ∀ s ∈ l, WalkSaid T s
  | [], s, h => by simp at h
  | t :: l, s, h => by
    rcases List.mem_cons.1 h with h | h
    · rw [h]; exact walk_any t
    · exact walks_any l s h
end
end

/-- What Put tells: the bytes are laid behind those that a variable holds. -/
def outAt (bo : Nat) (L : List UInt8) (w : World) : Prop :=
  ∃ v, w.heap[bo]? = some (.cells #[v] 22) ∧ w.ownsRow (bo + 1) 5 1 v L.length (L.map byteV)

def putCold (bo : Nat) (w : World) (k : Nat) : Prop := k ≠ bo ∧ ∀ v, w.heap[bo]? = some (.cells #[v] 22) → v.ownBlock ≠ some k

theorem put_entry (args : Array Value) (w : World) : (callFunc 40 args).run Try.prog w = .ok (.enter 40 args) w := by
  simp [go_sem]

theorem outAt_alloc {bo : Nat} {L : List UInt8} {w : World} (o : Obj) (h : outAt bo L w) : outAt bo L (w.alloc o) := by
  obtain ⟨v, h1, h2⟩ := h
  exact ⟨v, old_alloc h1, h2.alloc o⟩

theorem outAt.own {bo : Nat} {L : List UInt8} {w : World} (h : outAt bo L w) : ∃ v, w.heap[bo]? = some (.cells #[v] 22) ∧ w.ownsRow (bo + 1) 5 1 v L.length (L.map byteV) ∧ bo < w.heap.size := by
  obtain ⟨v, h1, h2⟩ := h
  exact ⟨v, h1, h2, lt_of_heap h1⟩

set_option maxRecDepth 20000 in
set_option maxHeartbeats 800000 in
theorem put_tell (bo : Nat) (s : Sh) (d : V) (F : Nat → Prop) (u : Value) (L : List UInt8) (w : World) (hI : outAt bo L w) (hu : RepV w F d u) (hF : ∀ b, F b → b < w.heap.size ∧ putCold bo w b)
    (hL : L.length + d.b.length + 9 ≤ 1099511627776) :
    Calls Try.prog 40 #[.int .u8 (kind s), u, .pointer (some ⟨bo, 0, none⟩)] w fun e w' => e = .returned (.tuple #[]) ∧ outAt bo (L ++ headOf s d) w' ∧ Fr (putCold bo) w w' := by
  obtain ⟨v, hb, hown, hlt⟩ := hI.own
  obtain ⟨n, ab, nb, cb, al, nl, cl, rfl⟩ := hu.form
  have hF2 : ∀ b, F b → b < (w.alloc (.cells #[.int .u64 n, .slice ab nb cb, .slice al nl cl] 45)).heap.size ∧ v.ownBlock ≠ some b := fun b hb2 => ⟨by have := (hF b hb2).1; simp; omega, (hF b hb2).2.2 v hb⟩
  have hcall := lay_any s d F (bo + 1) v _ L (w.alloc (.cells #[.int .u64 n, .slice ab nb cb, .slice al nl cl] 45)) (hu.same (fun _ h => h) fun b hb2 => Below.heap_alloc _ _ _ (hF b hb2).1) (hown.alloc _) (by simp; omega) hL hF2
  have HC := Lib.hid hcall
  obtain ⟨a, c, rfl⟩ := owned_slice hown
  obtain ⟨c0, f0, _⟩ := block1 hb
  have HB := Lib.hid hb
  clear hcall hF hF2 hu hI hb
  go_enter Try.func40, Try.ntmps40
  go_wp2_with fail
  refine HC.out.mono ?_
  rintro e w1 ⟨v1, rfl, hacc⟩
  have hb1 : w1.heap[bo]? = some (.cells #[.slice a L.length c] 22) := by
    rw [hacc.2.1.block bo (by simp; omega) ?_]
    · exact old_alloc HB.out
    · intro h1
      have := (hown.lt _ h1.symm).1
      omega
  obtain ⟨c1, f1, hlt1⟩ := block1 hb1
  obtain ⟨a1, k1, rfl⟩ := owned_slice hacc.1
  have HB1 := Lib.hid hb1
  clear hb1
  go_wp2_with fail
  go_end0
  refine ⟨rfl, ⟨_, ?_, ownsRow_setCell_below hacc.1 (by simp) _⟩, ⟨hacc.2.1.os, hacc.2.1.tape, hacc.2.1.output, ?_, ?_, ?_⟩⟩
  · have := heap_setCell_same w1 bo 0 _ _ (.slice a1 (L ++ headOf s d).length k1) HB1.out
    simpa using this
  · have := hacc.2.1.size
    simp at this ⊢
    omega
  · intro k hk hc
    rw [Below.heap_setCell _ _ _ _ hc.1, hacc.2.1.block k (by simp; omega) fun h => hc.2 _ HB.out h.symm, Below.heap_alloc _ _ _ hk]
  · intro k hk hc
    refine ⟨hc.1, fun x hx => ?_⟩
    have h2 := heap_setCell_same w1 bo 0 _ _ (.slice a1 (L.length + (headOf s d).length) k1) HB1.out
    rw [h2] at hx
    simp at hx
    rw [← hx]
    rcases hacc.2.2 with h3 | ⟨g, h3, h4⟩
    · rw [show (Value.slice a1 (L.length + (headOf s d).length) k1).ownBlock = _ from by simpa using h3]; exact hc.2 _ HB.out
    · rw [show (Value.slice a1 (L.length + (headOf s d).length) k1).ownBlock = _ from by simpa using h3]
      intro h5
      simp at h4 h5
      omega

def putTeller (bo : Nat) : Teller 40 #[.pointer (some ⟨bo, 0, none⟩)] where
  entry := put_entry
  I := outAt bo
  cold := putCold bo
  iAlloc := fun o h => outAt_alloc o h
  iDrew := fun h => h
  cAlloc := fun {L w k} o hI hk hc => ⟨hc.1, fun v hv => by
    obtain ⟨_, _, _, hlt⟩ := hI.own
    rw [Below.heap_alloc _ _ _ hlt] at hv
    exact hc.2 v hv⟩
  cNew := fun {L w} o hI => by
    obtain ⟨v, hb, hown, hlt⟩ := hI.own
    refine ⟨by omega, fun x hx h => ?_⟩
    rw [Below.heap_alloc _ _ _ hlt, hb] at hx
    simp at hx
    rw [← hx] at h
    have := (hown.lt _ h).2
    omega
  cDrew := fun h => h
  call := put_tell bo

end Go.Proofs.Ytdngfbljcmbniaa.M

/- Part: MouldPut4. -/
namespace Go.Proofs.Ytdngfbljcmbniaa.M
open Go.RowKit

/-- What Put answers: an error's number, or the bytes. -/
def putAll (s : List UInt8) (l : List V) : Except Int (List UInt8) :=
  match shape s with
  | none => .error 10
  | some sh => if l.all (isV sh) then .ok (l.map (putV sh)).flatten else .error 2

def PutPost (w : World) (r : Except Int (List UInt8)) (e : Ending) (w' : World) : Prop :=
  Below w.heap.size w w' ∧ match r with
  | .error c => e = .returned (.tuple #[.slice none 0 0, .int .i64 c])
  | .ok L => ∃ v, e = .returned (.tuple #[v, .int .i64 0]) ∧ w'.ownsRow w.heap.size 5 1 v L.length (L.map byteV)

/-- Everything that was there when Put's variable was made is cold. -/
theorem cold_first {w : World} {bo k : Nat} (hb : w.heap[bo]? = some (.cells #[.slice none 0 0] 22)) (hk : k < bo) : putCold bo w k := by
  refine ⟨by omega, fun v hv h => ?_⟩
  rw [hb] at hv
  simp at hv
  rw [← hv] at h
  simp [Value.ownBlock] at h

set_option maxRecDepth 20000 in
set_option maxHeartbeats 1600000 in
theorem Put_any (s : ByteArray) (l : List V) (F : Nat → Prop) (v : Value) (w : World) (hs : s.size ≤ 9223372036854775807) (hv : RepVl w F l v) (hF : ∀ b, F b → b < w.heap.size) (hl : vsizes l ≤ 1099511627776) :
    Calls Try.prog 20 #[.string s, v] w (PutPost w (putAll s.data.toList l)) := by
  have HV := Lib.hid hv
  have HF := Lib.hid hF
  have HL := Lib.hid hl
  have hmf : ∀ (fn : Fn) (first cap : Array Value) (w : World), (Instr.makeFunc fn first cap).run Try.prog w = .ok (.func fn first cap) w := fun _ _ _ _ => rfl
  obtain ⟨va, vc, rfl, hll⟩ := hv.slice
  clear hv hF hl
  go_enter Try.func20, Try.ntmps20
  go_wp2_with fail
  refine (parse_any s _ hs).mono ?_
  rintro e w1 ⟨hb, hr⟩
  have hsz := hb.size
  cases hq : shape s.data.toList with
  | none =>
    rw [hq] at hr
    subst hr
    have HQ : Hid (putAll s.data.toList l = .error 10) := Lib.hid (by unfold putAll; rw [hq])
    clear hq
    go_wp2_with fail
    go_ret2
    rw [HQ.out]
    exact ⟨hb.alloc (by omega) _, rfl⟩
  | some sh =>
    rw [hq] at hr
    obtain ⟨u, rfl, hu⟩ := hr
    have HQ : Hid (putAll s.data.toList l = if l.all (isV sh) then .ok (l.map (putV sh)).flatten else .error 2) := Lib.hid (by unfold putAll; rw [hq])
    have HU := Lib.hid hu
    obtain ⟨pa, pn, pc, rfl⟩ := hu.agg
    clear hq hu
    go_wp2_with fail
    obtain ⟨w3, hw3⟩ : ∃ w3, w3 = ((w1.alloc (.cells #[.int .u8 (kind sh), .slice pa pn pc, .bool (solid sh)] 72)).alloc (.cells #[.slice none 0 0] 22)) := ⟨_, rfl⟩
    have hb3 : w3.heap[w1.heap.size + 1]? = some (.cells #[.slice none 0 0] 22) := by rw [hw3]; exact heap_new _ _ _ (by simp)
    have hp3 : w3.heap[w1.heap.size]? = some (.cells #[.int .u8 (kind sh), .slice pa pn pc, .bool (solid sh)] 72) := by rw [hw3]; exact old_alloc (heap_new _ _ _ rfl)
    have hold : ∀ k, k < w1.heap.size → w3.heap[k]? = w1.heap[k]? := fun k hk => by rw [hw3, Below.heap_alloc _ _ _ (by simp; omega), Below.heap_alloc _ _ _ hk]
    have hB3 : Below w.heap.size w w3 := by rw [hw3]; exact (hb.alloc (by omega) _).alloc (by simp; omega) _
    have hz3 : w3.heap.size = w1.heap.size + 2 := by rw [hw3]; simp
    have HB3 := Lib.hid hb3
    have HP3 := Lib.hid hp3
    have HO3 := Lib.hid hold
    have HZ3 := Lib.hid hz3
    rw [← hw3]
    clear hw3 hb3 hp3 hold hz3
    go_loopw [20] (fun i wr => ∃ k : Nat, i = .int .i64 (k : Int) ∧ k ≤ l.length ∧ (l.take k).all (isV sh) = true ∧ outAt (w1.heap.size + 1) ((l.take k).map (putV sh)).flatten wr ∧ Fr (putCold (w1.heap.size + 1)) w3 wr)
      (fun i _ => l.length - (intOf i).toNat)
    case atStart => exact ⟨0, rfl, by omega, by simp, ⟨_, HB3.out, World.ownsRow_nil _ _ _ _⟩, Fr.refl _⟩
    case round =>
      obtain ⟨k, rfl, hk, hall, hout, hfr⟩ := hrel
      have HALL := Lib.hid hall
      have HOUT := Lib.hid hout
      have HFR := Lib.hid hfr
      have hcold : ∀ k, k < w1.heap.size + 1 → wr.heap[k]? = w3.heap[k]? := fun k hk => hfr.block k (by rw [HZ3.out]; omega) (cold_first HB3.out hk)
      obtain ⟨ov, hob, hown, hbo⟩ := hout.own
      obtain ⟨p0, p1, p2, -, -, -, hz0⟩ := block3 ((hcold _ (by omega)).trans HP3.out)
      have HCOLD := Lib.hid hcold
      have hBr : Below w.heap.size w wr := ⟨hfr.os.trans hB3.os, hfr.tape.trans hB3.tape, hfr.output.trans hB3.output, Nat.le_trans hB3.size hfr.size, fun k hk => (hcold k (by omega)).trans (hB3.block k hk)⟩
      have HBR := Lib.hid hBr
      clear hall hfr hcold
      by_cases hk2 : k < l.length
      · obtain ⟨eb, eoff, rfl, hFe, u, hat, hu⟩ := HV.out.elem k hk2
        obtain ⟨en, eab, enb, ecb, eal, enl, ecl, rfl⟩ := hu.form
        have hlt := HF.out eb hFe
        obtain ⟨x, y, z, hxyz, e0, e1, e2⟩ := hat.same (w' := wr) (hBr.block eb hlt)
        cases hxyz
        have HUE := Lib.hid hu
        clear hat hu hBr
        have hcall := walk_any (putTeller (w1.heap.size + 1)) sh l[k] (fun b => b < w1.heap.size) (.agg #[.int .u8 (kind sh), .slice pa pn pc, .bool (solid sh)]) (.agg #[.int .u64 en, .slice eab enb ecb, .slice eal enl ecl])
          ((l.take k).map (putV sh)).flatten (wr.alloc (.cells #[.int .u64 en, .slice eab enb ecb, .slice eal enl ecl] 45)) (outAt_alloc _ HOUT.out)
          (HU.out.same (fun b hb => hb.2) fun b hb => by rw [Below.heap_alloc _ _ _ (by omega), HCOLD.out b (by omega), HO3.out b hb.2])
          (HUE.out.same (fun b hb => by have := HF.out b hb; omega) fun b hb => by
            have := HF.out b hb
            rw [Below.heap_alloc _ _ _ (by omega), HBR.out.block b this])
          (fun b hb => ⟨by simp; omega, (putTeller (w1.heap.size + 1)).cAlloc _ HOUT.out (by omega) (HFR.out.cold b (by rw [HZ3.out]; omega) (cold_first HB3.out (by omega)))⟩)
          (by
            have h1 := flatten_le (f := putV sh) (l.take k) fun v _ => putV_le sh v
            have h2 := vsizes_get l k hk2
            have h3 := HL.out
            omega)
        have HC := Lib.hid hcall
        clear hcall
        go_wp2_with fail
        refine HC.out.mono ?_
        rintro e w2 ⟨rfl, hfr2, L2, hI2, hL2⟩
        have hfr3 := HFR.out.trans ((Fr.box (putTeller (w1.heap.size + 1)) _ HOUT.out).trans hfr2)
        have HFR3 := Lib.hid hfr3
        have HI2 := Lib.hid hI2
        have HL2 := Lib.hid hL2
        clear hfr3 hfr2 hI2 hL2
        cases hv : isV sh l[k] with
        | true =>
          have HIS := Lib.hid hv
          clear hv
          go_wp2_with fail
          go_roundw
          case rel =>
            refine ⟨k + 1, by go_num, by omega, ?_, ?_, HFR3.out⟩
            · rw [List.take_add_one, List.getElem?_eq_getElem hk2, List.all_append, HALL.out]
              simp only [Option.toList_some, List.all_cons, List.all_nil, HIS.out, Bool.and_true]
            · rw [List.take_add_one, List.getElem?_eq_getElem hk2]
              simp only [Option.toList_some, List.map_append, List.map_cons, List.map_nil, List.flatten_append, List.flatten_cons, List.flatten_nil, List.append_nil]
              rw [← HL2.out HIS.out]
              exact HI2.out
          case measure => simp [intOf]; omega
        | false =>
          have HIS := Lib.hid hv
          clear hv
          go_wp2_with fail
          go_ret2
          have hno : l.all (isV sh) = false := List.all_eq_false.2 ⟨l[k], List.getElem_mem _, by rw [HIS.out]; simp⟩
          rw [HQ.out, hno]
          have hf := HFR3.out
          exact ⟨⟨hf.os.trans hB3.os, hf.tape.trans hB3.tape, hf.output.trans hB3.output, Nat.le_trans hB3.size hf.size, fun k hk => (hf.block k (by rw [HZ3.out]; omega) (cold_first HB3.out (by omega))).trans (hB3.block k hk)⟩, rfl⟩
      · obtain ⟨c0, -, -⟩ := block1 hob
        have HK : Hid (k = l.length) := Lib.hid (by omega)
        have HOWN := Lib.hid hown
        clear hob hown hout
        go_wp2_with fail
        go_ret2
        have hall := HALL.out
        have hown := HOWN.out
        rw [HK.out, List.take_length] at hall hown
        rw [HQ.out, hall]
        refine ⟨HBR.out, _, rfl, ?_⟩
        obtain ⟨h1, h2⟩ := hown
        refine ⟨h1, h2.imp id ?_⟩
        rintro ⟨g, cap, cur, h3, h4, h5⟩
        exact ⟨g, cap, cur, h3, by omega, h5⟩
end Go.Proofs.Ytdngfbljcmbniaa.M
