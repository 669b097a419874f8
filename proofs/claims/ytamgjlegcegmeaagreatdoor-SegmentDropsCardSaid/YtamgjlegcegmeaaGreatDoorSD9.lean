/- walk of package mould goes through a value by its shape and tells each part's kind. Put and Is of package mould. Put of package mould: the forms, one behind the other. Is and Same of package mould; bytes.Equal. Same of package mould. The reader of package mould: digits, cut. The reader of package mould: numbers and bytes. The reader of package mould: whichever part's reader is called. The reader of package mould: what its plain functions leave; lists. The reader of package mould: lists. The reader of package mould: rows; so every shape is read as takeV reads it. Take of package mould. Numbers and their forms: there and back. -/
import Derived.Test.YtamgjlegcegmeaaGreatDoorSD8
import Derived.StillTailTactics
import Derived.Deep.QuietTactic
import Derived.BigQuiet
import Derived.Laws.BytesArg
/- Part: MouldWalk. -/
namespace Go.Proofs.YtamgjlegcegmeaaGreatDoor.M
open Go.RowKit

/-- Of the blocks that were there, those that are cold stand as they stood, and stay cold. -/
structure Fr (cold : World → Nat → Prop) (w w' : World) : Prop where
  os : w'.os = w.os
  tape : w'.tape = w.tape
  output : w'.output = w.output
  size : w.heap.size ≤ w'.heap.size
  block : ∀ k, k < w.heap.size → cold w k → w'.heap[k]? = w.heap[k]?
  cold : ∀ k, k < w.heap.size → cold w k → cold w' k

theorem Fr.refl {cold : World → Nat → Prop} (w : World) : Fr cold w w := ⟨rfl, rfl, rfl, Nat.le_refl _, fun _ _ _ => rfl, fun _ _ h => h⟩

theorem Fr.trans {cold : World → Nat → Prop} {w w1 w2 : World} (h : Fr cold w w1) (g : Fr cold w1 w2) : Fr cold w w2 :=
  ⟨g.os.trans h.os, g.tape.trans h.tape, g.output.trans h.output, Nat.le_trans h.size g.size,
    fun k hk hc => (g.block k (Nat.lt_of_lt_of_le hk h.size) (h.cold k hk hc)).trans (h.block k hk hc),
    fun k hk hc => g.cold k (Nat.lt_of_lt_of_le hk h.size) (h.cold k hk hc)⟩

/-- Who is told: a function value, what it keeps of what it was told, and which blocks it lets alone. -/
structure Teller (fn : FuncId) (caps : Array Value) where
  entry : ∀ (args : Array Value) (w : World), (callFunc fn args).run Tryz.prog w = .ok (.enter fn args) w
  I : List UInt8 → World → Prop
  cold : World → Nat → Prop
  iAlloc : ∀ {L w} o, I L w → I L (w.alloc o)
  iDrew : ∀ {L w}, I L w → I L w.drew
  cAlloc : ∀ {L w k} o, I L w → k < w.heap.size → cold w k → cold (w.alloc o) k
  cNew : ∀ {L w} o, I L w → cold (w.alloc o) w.heap.size
  cDrew : ∀ {w k}, cold w k → cold w.drew k
  call : ∀ (s : Sh) (d : V) (F : Nat → Prop) (u : Value) (L : List UInt8) (w : World), I L w → RepV w F d u → (∀ b, F b → b < w.heap.size ∧ cold w b) → L.length + d.b.length + 9 ≤ 1099511627776 →
    Calls Tryz.prog fn (#[.int .u8 (kind s), u] ++ caps) w fun e w' => e = .returned (.tuple #[]) ∧ I (L ++ headOf s d) w' ∧ Fr cold w w'

mutual
/-- At least what a form takes. -/
def vsize : V → Nat
  | .mk _ b l => 9 + b.length + vsizes l
def vsizes : List V → Nat
  | [] => 0
  | v :: l => vsize v + vsizes l
end

section
variable {fn : FuncId} {caps : Array Value} (T : Teller fn caps)

def WalkPost (s : Sh) (d : V) (L : List UInt8) (w : World) (e : Ending) (w' : World) : Prop :=
  e = .returned (.bool (isV s d)) ∧ Fr T.cold w w' ∧ ∃ L', T.I L' w' ∧ (isV s d = true → L' = L ++ putV s d)

def WalkSaid (s : Sh) : Prop := ∀ (d : V) (F : Nat → Prop) (pu u : Value) (L : List UInt8) (w : World), T.I L w → RepS w F s pu → RepV w F d u → (∀ b, F b → b < w.heap.size ∧ T.cold w b) →
  L.length + vsize d ≤ 1099511627776 → Calls Tryz.prog 74 #[pu, u, .func (.func fn) #[] caps] w (WalkPost T s d L w)

theorem boxes {w : World} {L : List UInt8} {F : Nat → Prop} (o1 o2 : Obj) (hI : T.I L w) (hF : ∀ b, F b → b < w.heap.size ∧ T.cold w b) :
    T.I L ((w.alloc o1).alloc o2) ∧ Fr T.cold w ((w.alloc o1).alloc o2) ∧ (∀ b, F b → b < ((w.alloc o1).alloc o2).heap.size ∧ T.cold ((w.alloc o1).alloc o2) b) ∧ (∀ b, F b → ((w.alloc o1).alloc o2).heap[b]? = w.heap[b]?) ∧
    T.cold ((w.alloc o1).alloc o2) w.heap.size ∧ T.cold ((w.alloc o1).alloc o2) (w.heap.size + 1) := by
  have hI1 := T.iAlloc o1 hI
  refine ⟨T.iAlloc _ hI1, ⟨rfl, rfl, rfl, by simp; omega, fun k hk _ => ?_, fun k hk hc => T.cAlloc _ hI1 (by simp; omega) (T.cAlloc _ hI hk hc)⟩,
    fun b hb => ⟨by have := (hF b hb).1; simp; omega, T.cAlloc _ hI1 (by have := (hF b hb).1; simp; omega) (T.cAlloc _ hI (hF b hb).1 (hF b hb).2)⟩, fun b hb => ?_,
    T.cAlloc _ hI1 (by simp) (T.cNew _ hI), ?_⟩
  · rw [Below.heap_alloc _ _ _ (by simp; omega), Below.heap_alloc _ _ _ hk]
  · have := (hF b hb).1
    rw [Below.heap_alloc _ _ _ (by simp; omega), Below.heap_alloc _ _ _ this]
  · have := T.cNew (L := L) (w := w.alloc o1) o2 (T.iAlloc _ hI)
    simpa using this

/-- The call that every walk begins with. -/
theorem first_call {s : Sh} {d : V} {F : Nat → Prop} {u : Value} {L : List UInt8} {w : World} (o1 o2 : Obj) (hI : T.I L w) (hu : RepV w F d u) (hF : ∀ b, F b → b < w.heap.size ∧ T.cold w b)
    (hL : L.length + vsize d ≤ 1099511627776) :
    Calls Tryz.prog fn (#[.int .u8 (kind s), u] ++ caps) ((w.alloc o1).alloc o2) fun e w' => e = .returned (.tuple #[]) ∧ T.I (L ++ headOf s d) w' ∧ Fr T.cold w w' ∧ w'.heap[w.heap.size]? = some o1 ∧ w'.heap[w.heap.size + 1]? = some o2 ∧
      T.cold w' w.heap.size ∧ T.cold w' (w.heap.size + 1) ∧ w.heap.size + 1 < w'.heap.size := by
  obtain ⟨h1, h2, h3, h4, h5, h6⟩ := boxes T o1 o2 hI hF
  refine (T.call s d F u L _ h1 (hu.same (fun _ h => h) h4) h3 (by cases d; simp only [vsize, V.b] at hL ⊢; omega)).mono ?_
  rintro e w' ⟨he, hI', hfr⟩
  have hz := hfr.size
  simp at hz
  refine ⟨he, hI', h2.trans hfr, ?_, ?_, hfr.cold _ (by simp; omega) h5, hfr.cold _ (by simp) h6, by omega⟩
  · rw [hfr.block _ (by simp; omega) h5]; exact old_alloc (heap_new w o1 _ rfl)
  · rw [hfr.block _ (by simp) h6]; exact heap_new _ o2 _ (by simp)

set_option maxRecDepth 20000 in
set_option maxHeartbeats 800000 in
theorem walk_num : WalkSaid T .num := by
  intro d F pu u L w hI hs hu hF hL
  obtain ⟨n, b, l⟩ := d
  have hc := fun o1 o2 => first_call T (s := .num) o1 o2 hI hu hF hL
  obtain ⟨vb, vl, rfl, hn, hb, hl⟩ := RepV_mk.1 hu
  obtain ⟨ab, cb, rfl, hbl⟩ := hb.slice
  obtain ⟨al, cl, rfl, hll⟩ := hl.slice
  obtain ⟨sa, sn, sc, rfl⟩ := hs.agg
  have HC := Lib.hid hc
  have hent := T.entry
  clear hu hn hb hl hs hc
  go_enter Tryz.func74, Tryz.ntmps74
  go_wp2_with fail
  refine (HC.out _ _).mono ?_
  rintro e w1 ⟨rfl, hI1, hfr, hb1, hb2, -, -, hz⟩
  obtain ⟨c0, c1, c2, -, -, -, -⟩ := block3 hb1
  rw [show kind .num = 110 from rfl] at c0
  go_wp2_with fail
  go_ret
  exact ⟨rfl, hfr, _, hI1, fun _ => rfl⟩

set_option maxRecDepth 20000 in
set_option maxHeartbeats 800000 in
theorem walk_blob : WalkSaid T .blob := by
  intro d F pu u L w hI hs hu hF hL
  obtain ⟨n, b, l⟩ := d
  have hc := fun o1 o2 => first_call T (s := .blob) o1 o2 hI hu hF hL
  obtain ⟨vb, vl, rfl, hn, hb, hl⟩ := RepV_mk.1 hu
  obtain ⟨ab, cb, rfl, hbl⟩ := hb.slice
  obtain ⟨al, cl, rfl, hll⟩ := hl.slice
  obtain ⟨sa, sn, sc, rfl⟩ := hs.agg
  have HC := Lib.hid hc
  have hent := T.entry
  clear hu hn hb hl hs hc
  go_enter Tryz.func74, Tryz.ntmps74
  go_wp2_with fail
  refine (HC.out _ _).mono ?_
  rintro e w1 ⟨rfl, hI1, hfr, hb1, hb2, -, -, hz⟩
  obtain ⟨c0, c1, c2, -, -, -, -⟩ := block3 hb1
  rw [show kind .blob = 98 from rfl] at c0
  go_wp2_with fail
  go_ret
  exact ⟨rfl, hfr, _, hI1, fun _ => rfl⟩

/-- What an element of a value's list is, where it lies. -/
theorem RepVl.elem {w : World} {F : Nat → Prop} {l : List V} {a : Option Addr} {n c : Nat} (h : RepVl w F l (.slice a n c)) (k : Nat) (hk : k < l.length) :
    ∃ b off, a = some ⟨b, off, none⟩ ∧ F b ∧ ∃ u, At3 w b (off + k * 3) u ∧ RepV w F l[k] u := by
  rcases h with ⟨rfl, _⟩ | ⟨b, off, c', h, hb, _, _, hl⟩
  · simp at hk
  · cases h
    exact ⟨b, off, rfl, hb, RepVs.get l hl k hk⟩

/-- A value written out. -/
theorem RepV.form {w : World} {F : Nat → Prop} {d : V} {u : Value} (h : RepV w F d u) : ∃ n ab nb cb al nl cl, u = .agg #[.int .u64 n, .slice ab nb cb, .slice al nl cl] := by
  obtain ⟨n, b, l⟩ := d
  obtain ⟨vb, vl, rfl, hn, hb, hl⟩ := RepV_mk.1 h
  obtain ⟨ab, cb, rfl, _⟩ := hb.slice
  obtain ⟨al, cl, rfl, _⟩ := hl.slice
  exact ⟨_, _, _, _, _, _, _, rfl⟩

/-- The state at a round's head: of the parts k are told. -/
def RoundAt (w : World) (o1 o2 : Obj) (L : List UInt8) (wr : World) : Prop :=
  T.I L wr ∧ Fr T.cold w wr ∧ wr.heap[w.heap.size]? = some o1 ∧ wr.heap[w.heap.size + 1]? = some o2 ∧ T.cold wr w.heap.size ∧ T.cold wr (w.heap.size + 1) ∧ w.heap.size + 1 < wr.heap.size

theorem RoundAt.next {w wr w' : World} {o1 o2 : Obj} {L L' : List UInt8} (h : RoundAt T w o1 o2 L wr) (hI : T.I L' w') (hfr : Fr T.cold wr w') : RoundAt T w o1 o2 L' w' := by
  obtain ⟨_, h2, h3, h4, h5, h6, h7⟩ := h
  exact ⟨hI, h2.trans hfr, (hfr.block _ (by omega) h5).trans h3, (hfr.block _ h7 h6).trans h4, hfr.cold _ (by omega) h5, hfr.cold _ h7 h6, Nat.lt_of_lt_of_le h7 hfr.size⟩

/-- One new block: what stays. -/
theorem Fr.box {w : World} {L : List UInt8} (o : Obj) (hI : T.I L w) : Fr T.cold w (w.alloc o) :=
  ⟨rfl, rfl, rfl, by simp, fun k hk _ => Below.heap_alloc _ _ _ hk, fun k hk hc => T.cAlloc _ hI hk hc⟩

theorem Fr.drawn {w : World} : Fr T.cold w w.drew := ⟨rfl, rfl, rfl, Nat.le_refl _, fun _ _ _ => rfl, fun _ _ h => T.cDrew h⟩

/-- The call for a part, in a round, behind the box that its value was laid in. -/
theorem part_call {s : Sh} (ih : WalkSaid T s) {d : V} {F : Nat → Prop} {pu u : Value} {L : List UInt8} {w wr : World} {o1 o2 : Obj} (o : Obj) (hr : RoundAt T w o1 o2 L wr) (hs : RepS w F s pu) (hu : RepV w F d u)
    (hF : ∀ b, F b → b < w.heap.size ∧ T.cold w b) (hL : L.length + vsize d ≤ 1099511627776) :
    Calls Tryz.prog 74 #[pu, u, .func (.func fn) #[] caps] (wr.alloc o).drew fun e w' => e = .returned (.bool (isV s d)) ∧ ∃ L', RoundAt T w o1 o2 L' w' ∧ (isV s d = true → L' = L ++ putV s d) := by
  have hI := hr.1
  have hfr := hr.2.1
  have hbox : Fr T.cold wr (wr.alloc o).drew := (Fr.box T o hI).trans (Fr.drawn T)
  have hall := hfr.trans hbox
  have hkeep : ∀ b, F b → (wr.alloc o).drew.heap[b]? = w.heap[b]? := fun b hb => hall.block b (hF b hb).1 (hF b hb).2
  refine (ih d F pu u L _ (T.iDrew (T.iAlloc o hI)) (hs.same (fun _ h => h) hkeep) (hu.same (fun _ h => h) hkeep) (fun b hb => ⟨Nat.lt_of_lt_of_le (hF b hb).1 hall.size, hall.cold b (hF b hb).1 (hF b hb).2⟩) hL).mono ?_
  rintro e w' ⟨he, hf, L', hI', hl⟩
  exact ⟨he, L', hr.next T hI' (hbox.trans hf), hl⟩

theorem vsizes_get : ∀ (l : List V) (k : Nat) (h : k < l.length), vsize l[k] + vsizes (l.take k) ≤ vsizes l
  | v :: l, 0, h => by simp [vsizes]
  | v :: l, k + 1, h => by
    have := vsizes_get l k (by simpa using h)
    simp only [List.getElem_cons_succ, List.take_succ_cons, vsizes]
    omega

theorem flatten_le {f : V → List UInt8} : ∀ (l : List V), (∀ v ∈ l, (f v).length ≤ vsize v) → (l.map f).flatten.length ≤ vsizes l
  | [], _ => by simp [vsizes]
  | v :: l, h => by
    have h1 := h v (by simp)
    have h2 := flatten_le l fun u hu => h u (by simp [hu])
    simp only [List.map_cons, List.flatten_cons, List.length_append, vsizes]
    omega

theorem puts_le {s : Sh} {l : List V} {k : Nat} {L : List UInt8} (hput : ∀ d, isV s d = true → (putV s d).length ≤ vsize d) (hall : ∀ v ∈ l.take k, isV s v = true) (hk : k < l.length)
    (hL : L.length + (9 + vsizes l) ≤ 1099511627776) (hll : l.length < 18446744073709551616) : (L ++ num l.length ++ ((l.take k).map (putV s)).flatten).length + vsize l[k] ≤ 1099511627776 := by
  have h1 := num_length_le l.length hll
  have h2 := flatten_le (f := putV s) (l.take k) fun v hv => hput v (hall v hv)
  have h3 := vsizes_get l k hk
  simp only [List.length_append]
  omega

set_option maxRecDepth 20000 in
set_option maxHeartbeats 1600000 in
theorem walk_list {s : Sh} (ih : WalkSaid T s) (hput : ∀ d, isV s d = true → (putV s d).length ≤ vsize d) : WalkSaid T (.list s) := by
  intro d F pu u L w hI hs hu hF hL
  obtain ⟨n, b, l⟩ := d
  have hc := fun o1 o2 => first_call T (s := .list s) o1 o2 hI hu hF hL
  obtain ⟨vb, vl, rfl, hn, hb, hl⟩ := RepV_mk.1 hu
  obtain ⟨ab, cb, rfl, hbl⟩ := hb.slice
  obtain ⟨al, cl, rfl, hll⟩ := hl.slice
  unfold RepS at hs
  obtain ⟨pb, poff, pc, pu1, rfl, hpb, hpat, hpu1⟩ := hs
  have HC := Lib.hid hc
  have HV := Lib.hid hl
  have HP := Lib.hid hpu1
  have HPA := Lib.hid hpat
  have HF := Lib.hid hF
  have HIH := Lib.hid ih
  have HPUT := Lib.hid hput
  have hent := T.entry
  have HL : Hid (L.length + (9 + vsizes l) ≤ 1099511627776) := Lib.hid (by simp only [vsize] at hL; omega)
  have hcold : F pb := hpb
  clear hu hn hb hl hc hpat hpu1 hF ih hput hL
  go_enter Tryz.func74, Tryz.ntmps74
  go_wp2_with fail
  refine (HC.out _ _).mono ?_
  rintro e w1 ⟨rfl, hI1, hfr, hb1, hb2, hcold1, hcold2, hz⟩
  obtain ⟨c0, c1, c2, -, -, -, -⟩ := block3 hb1
  obtain ⟨d0, d1, d2, -, -, -, -⟩ := block3 hb2
  have hround : RoundAt T w (.cells #[.int .u8 42, .slice (some ⟨pb, poff, none⟩) 1 pc, .bool true] 123) (.cells #[.int .u64 (n : Int), .slice ab b.length cb, .slice al l.length cl] 95) (L ++ num l.length) w1 :=
    ⟨hI1, hfr, hb1, hb2, hcold1, hcold2, hz⟩
  have HR1 := Lib.hid hround
  clear hround hI1 hfr hb1 hb2
  go_wp2_with fail
  go_loopw [23] (fun i wr => ∃ k : Nat, i = .int .i64 (k : Int) ∧ k ≤ l.length ∧ (∀ v ∈ l.take k, isV s v = true) ∧
      RoundAt T w (.cells #[.int .u8 42, .slice (some ⟨pb, poff, none⟩) 1 pc, .bool true] 123) (.cells #[.int .u64 (n : Int), .slice ab b.length cb, .slice al l.length cl] 95)
        (L ++ num l.length ++ ((l.take k).map (putV s)).flatten) wr) (fun i _ => l.length - (intOf i).toNat)
  case atStart => exact ⟨0, rfl, by omega, by simp, by simpa using HR1.out⟩
  case round =>
    obtain ⟨k, rfl, hk, hall, hround⟩ := hrel
    have HALL := Lib.hid hall
    have HRO := Lib.hid hround
    obtain ⟨hI1, hfr, hb1, hb2, hcold1, hcold2, hz⟩ := hround
    obtain ⟨c0, c1, c2, -, -, -, -⟩ := block3 hb1
    obtain ⟨d0, d1, d2, -, -, -, -⟩ := block3 hb2
    by_cases hk2 : k < l.length
    · obtain ⟨eb, eoff, rfl, hFe, u, hat, hu⟩ := HV.out.elem k hk2
      obtain ⟨en, eab, enb, ecb, eal, enl, ecl, rfl⟩ := hu.form
      obtain ⟨x, y, z, hxyz, e0, e1, e2⟩ := hat.same (w' := wr) (hfr.block eb (HF.out eb hFe).1 (HF.out eb hFe).2)
      cases hxyz
      obtain ⟨psa, psn, psc, rfl⟩ := HP.out.agg
      obtain ⟨x, y, z, hxyz, p0, p1, p2⟩ := HPA.out.same (w' := wr) (hfr.block pb (HF.out pb hpb).1 (HF.out pb hpb).2)
      cases hxyz
      have hlt := Nat.lt_of_lt_of_le (HF.out pb hpb).1 hfr.size
      have hz0 : w.heap.size < wr.heap.size := by omega
      have HU := Lib.hid hu
      clear hall hI1 hfr hb1 hb2 hat hu
      have HK : Hid ((L ++ num l.length ++ ((l.take k).map (putV s)).flatten).length + vsize l[k] ≤ 1099511627776) := Lib.hid (puts_le HPUT.out HALL.out hk2 HL.out (by omega))
      go_wp2_with fail
      refine region_still_tail 6 (by kernel_rfl) (by kernel_rfl) ?_
      simp only [List.take_succ_cons, List.take_zero, List.drop_succ_cons, List.drop_zero]
      repeat still_step
      refine wpStill_nil ?_
      go_wp2_with fail
      refine (part_call T HIH.out _ HRO.out HP.out HU.out HF.out HK.out).mono ?_
      rintro e w2 ⟨rfl, L2, hr2, hl2⟩
      have HR2 := Lib.hid hr2
      have HL2 := Lib.hid hl2
      clear hr2 hl2
      cases hv : isV s l[k] with
      | true =>
        have HIS := Lib.hid hv
        clear hv
        go_wp2_with fail
        go_roundw
        case rel =>
          refine ⟨k + 1, by go_num, by omega, ?_, ?_⟩
          · intro v hv
            rw [List.take_add_one, List.getElem?_eq_getElem hk2] at hv
            simp only [Option.toList_some, List.mem_append, List.mem_singleton] at hv
            rcases hv with hv | rfl
            · exact HALL.out v hv
            · exact HIS.out
          · rw [List.take_add_one, List.getElem?_eq_getElem hk2]
            simp only [Option.toList_some, List.map_append, List.map_cons, List.map_nil, List.flatten_append, List.flatten_cons, List.flatten_nil, List.append_nil]
            rw [← List.append_assoc, ← HL2.out HIS.out]
            exact HR2.out
        case measure => simp [intOf]; omega
      | false =>
        have HIS := Lib.hid hv
        clear hv
        go_wp2_with fail
        go_ret
        have hno : isV (.list s) (.mk n b l) = false := by
          rw [isV]
          exact List.all_eq_false.2 ⟨l[k], List.getElem_mem _, by rw [HIS.out]; simp⟩
        refine ⟨by rw [hno]; rfl, HR2.out.2.1, L2, HR2.out.1, fun h => ?_⟩
        rw [hno] at h; cases h
    · have hk3 : k = l.length := by omega
      subst hk3
      clear hk2
      go_wp2_with fail
      go_ret
      have hyes : isV (.list s) (.mk n b l) = true := by
        rw [isV]
        exact List.all_eq_true.2 fun v hv => HALL.out v (by rw [List.take_length]; exact hv)
      refine ⟨by rw [hyes]; rfl, HRO.out.2.1, _, HRO.out.1, fun _ => ?_⟩
      rw [putV, List.take_length, List.append_assoc]
      rfl
/-- What a row's value has, and where each of its parts lies. -/
theorem RepS.row {w : World} {F : Nat → Prop} {l : List Sh} {v : Value} (h : RepS w F (.row l) v) : ∃ a c, v = .agg #[.int .u8 91, .slice a l.length c, .bool (solids l)] ∧
    ∀ (k : Nat) (hk : k < l.length), ∃ b off, a = some ⟨b, off, none⟩ ∧ F b ∧ ∃ u, At3 w b (off + k * 3) u ∧ RepS w F l[k] u := by
  unfold RepS at h
  obtain ⟨sl, hv, ⟨rfl, rfl⟩ | ⟨b, off, c, rfl, hb, hl⟩⟩ := h
  · exact ⟨none, 0, hv, fun k hk => by simp at hk⟩
  · exact ⟨_, c, hv, fun k hk => ⟨b, off, rfl, hb, RepSs.get l hl k hk⟩⟩

theorem rows_le {l : List Sh} {vs : List V} : ∀ (k : Nat), (∀ s ∈ l, ∀ d, isV s d = true → (putV s d).length ≤ vsize d) → k ≤ l.length → k ≤ vs.length → isVs (l.take k) (vs.take k) = true →
    (putVs (l.take k) (vs.take k)).length ≤ vsizes (vs.take k) := by
  induction l generalizing vs with
  | nil => intro k _ hk _ _; obtain rfl : k = 0 := by simpa using hk
           simp [putVs, vsizes]
  | cons s l ih =>
    intro k h h1 h2 h3
    cases k with
    | zero => simp [putVs, vsizes]
    | succ k =>
      cases vs with
      | nil => simp at h2
      | cons v vs =>
        simp only [List.take_succ_cons, isVs, Bool.and_eq_true, putVs, vsizes, List.length_append] at h3 ⊢
        have := ih (vs := vs) k (fun s hs => h s (by simp [hs])) (by simpa using h1) (by simpa using h2) h3.2
        have := h s (by simp) v h3.1
        omega

theorem rows_le2 {l : List Sh} {vs : List V} {k : Nat} {L : List UInt8} (h : ∀ s ∈ l, ∀ d, isV s d = true → (putV s d).length ≤ vsize d) (h1 : k < l.length) (h2 : k < vs.length)
    (h3 : isVs (l.take k) (vs.take k) = true) (hL : L.length + (9 + vsizes vs) ≤ 1099511627776) : (L ++ putVs (l.take k) (vs.take k)).length + vsize vs[k] ≤ 1099511627776 := by
  have a := rows_le k h (by omega) (by omega) h3
  have b := vsizes_get vs k h2
  simp only [List.length_append]
  omega

set_option maxRecDepth 20000 in
set_option maxHeartbeats 1600000 in
theorem walk_row {l : List Sh} (ih : ∀ s ∈ l, WalkSaid T s) (hput : ∀ s ∈ l, ∀ d, isV s d = true → (putV s d).length ≤ vsize d) : WalkSaid T (.row l) := by
  intro d F pu u L w hI hs hu hF hL
  obtain ⟨n, b, vs⟩ := d
  have hc := fun o1 o2 => first_call T (s := .row l) o1 o2 hI hu hF hL
  obtain ⟨vb, vl, rfl, hn, hb, hl⟩ := RepV_mk.1 hu
  obtain ⟨ab, cb, rfl, hbl⟩ := hb.slice
  obtain ⟨al, cl, rfl, hll⟩ := hl.slice
  obtain ⟨pa, pc, rfl, hps⟩ := hs.row
  have HC := Lib.hid hc
  have HV := Lib.hid hl
  have HP := Lib.hid hps
  have HF := Lib.hid hF
  have HIH := Lib.hid ih
  have HPUT := Lib.hid hput
  have hent := T.entry
  have HL : Hid (L.length + (9 + vsizes vs) ≤ 1099511627776) := Lib.hid (by simp only [vsize] at hL; omega)
  clear hu hn hb hl hc hps hs hF ih hput hL
  go_enter Tryz.func74, Tryz.ntmps74
  go_wp2_with fail
  refine (HC.out _ _).mono ?_
  rintro e w1 ⟨rfl, hI1, hfr, hb1, hb2, hcold1, hcold2, hz⟩
  obtain ⟨c0, c1, c2, -, -, -, -⟩ := block3 hb1
  obtain ⟨d0, d1, d2, -, -, -, -⟩ := block3 hb2
  have hround : RoundAt T w (.cells #[.int .u8 91, .slice pa l.length pc, .bool (solids l)] 123) (.cells #[.int .u64 (n : Int), .slice ab b.length cb, .slice al vs.length cl] 95) (L ++ []) w1 :=
    ⟨hI1, hfr, hb1, hb2, hcold1, hcold2, hz⟩
  have HR1 := Lib.hid hround
  clear hround hI1 hfr hb1 hb2
  by_cases hlen : vs.length = l.length
  · have hne : ((vs.length : Int) != (l.length : Int)) = false := by simp [hlen]
    have HLEN := Lib.hid hlen
    clear hlen
    go_wp2_with fail
    go_loopw [48] (fun i wr => ∃ k : Nat, i = .int .i64 (k : Int) ∧ k ≤ vs.length ∧ isVs (l.take k) (vs.take k) = true ∧
        RoundAt T w (.cells #[.int .u8 91, .slice pa l.length pc, .bool (solids l)] 123) (.cells #[.int .u64 (n : Int), .slice ab b.length cb, .slice al vs.length cl] 95)
          (L ++ putVs (l.take k) (vs.take k)) wr) (fun i _ => vs.length - (intOf i).toNat)
    case atStart => exact ⟨0, rfl, by omega, by simp [isVs], by simpa [putVs] using HR1.out⟩
    case round =>
      obtain ⟨k, rfl, hk, hall, hround⟩ := hrel
      have HALL := Lib.hid hall
      have HRO := Lib.hid hround
      obtain ⟨hI1, hfr, hb1, hb2, hcold1, hcold2, hz⟩ := hround
      obtain ⟨c0, c1, c2, -, -, -, -⟩ := block3 hb1
      obtain ⟨d0, d1, d2, -, -, -, -⟩ := block3 hb2
      by_cases hk2 : k < vs.length
      · have hk3 : k < l.length := by have := HLEN.out; omega
        obtain ⟨eb, eoff, rfl, hFe, u, hat, hu⟩ := HV.out.elem k hk2
        obtain ⟨en, eab, enb, ecb, eal, enl, ecl, rfl⟩ := hu.form
        obtain ⟨x, y, z, hxyz, e0, e1, e2⟩ := hat.same (w' := wr) (hfr.block eb (HF.out eb hFe).1 (HF.out eb hFe).2)
        cases hxyz
        obtain ⟨pb, poff, rfl, hFp, pu, hpat, hpu⟩ := HP.out k hk3
        obtain ⟨psa, psn, psc, rfl⟩ := hpu.agg
        obtain ⟨x, y, z, hxyz, p0, p1, p2⟩ := hpat.same (w' := wr) (hfr.block pb (HF.out pb hFp).1 (HF.out pb hFp).2)
        cases hxyz
        have hlt := Nat.lt_of_lt_of_le (HF.out pb hFp).1 hfr.size
        have hz0 : w.heap.size < wr.heap.size := by omega
        have HU := Lib.hid hu
        have HPU := Lib.hid hpu
        have hk4 : (k : Int) < (l.length : Int) := by omega
        have HK : Hid ((L ++ putVs (l.take k) (vs.take k)).length + vsize vs[k] ≤ 1099511627776) := Lib.hid (rows_le2 HPUT.out hk3 hk2 HALL.out HL.out)
        clear hall hI1 hfr hb1 hb2 hat hu hpat hpu
        go_wp2_with fail
        refine region_still_tail 7 (by kernel_rfl) (by kernel_rfl) ?_
        simp only [List.take_succ_cons, List.take_zero, List.drop_succ_cons, List.drop_zero]
        repeat still_step
        refine wpStill_nil ?_
        go_wp2_with fail
        refine (part_call T (HIH.out _ (List.getElem_mem hk3)) _ HRO.out HPU.out HU.out HF.out HK.out).mono ?_
        rintro e w2 ⟨rfl, L2, hr2, hl2⟩
        have HR2 := Lib.hid hr2
        have HL2 := Lib.hid hl2
        clear hr2 hl2
        cases hv : isV l[k] vs[k] with
        | true =>
          have HIS := Lib.hid hv
          clear hv
          go_wp2_with fail
          go_roundw
          case rel =>
            refine ⟨k + 1, by go_num, by omega, isVs_step l vs k hk3 hk2 HALL.out HIS.out, ?_⟩
            rw [putVs_step l vs k hk3 hk2, ← List.append_assoc, ← HL2.out HIS.out]
            exact HR2.out
          case measure => simp [intOf]; omega
        | false =>
          have HIS := Lib.hid hv
          clear hv
          go_wp2_with fail
          go_ret
          have hno : isV (.row l) (.mk n b vs) = false := by
            rw [isV, Bool.eq_false_iff]
            intro h
            have := isVs_get l vs k hk3 hk2 h
            rw [HIS.out] at this
            cases this
          refine ⟨by rw [hno]; rfl, HR2.out.2.1, L2, HR2.out.1, fun h => ?_⟩
          rw [hno] at h; cases h
      · have hk3 : k = vs.length := by omega
        subst hk3
        clear hk2
        go_wp2_with fail
        go_ret
        have hlen := HLEN.out
        have hall := HALL.out
        have hro := HRO.out
        rw [List.take_length, hlen, List.take_length] at hall hro
        have hyes : isV (.row l) (.mk n b vs) = true := by rw [isV]; exact hall
        exact ⟨by rw [hyes]; rfl, hro.2.1, _, hro.1, fun _ => rfl⟩
  · have hne : ((vs.length : Int) != (l.length : Int)) = true := by simp; omega
    have HNE : Hid (vs.length ≠ l.length) := Lib.hid hlen
    clear hlen
    go_wp2_with fail
    go_ret
    have hno : isV (.row l) (.mk n b vs) = false := by
      rw [isV, Bool.eq_false_iff]
      intro h
      exact HNE.out (isVs_length l vs h).symm
    refine ⟨by rw [hno]; rfl, HR1.out.2.1, _, HR1.out.1, fun h => ?_⟩
    rw [hno] at h; cases h
end
end Go.Proofs.YtamgjlegcegmeaaGreatDoor.M

/- Part: MouldPut3. -/
namespace Go.Proofs.YtamgjlegcegmeaaGreatDoor.M
open Go.RowKit

mutual
theorem putV_le : ∀ (s : Sh) (d : V), (putV s d).length ≤ vsize d
  | .num, .mk n b l => by have := num_le n; simp only [putV, V.n, vsize]; omega
  | .blob, .mk n b l => by have := num_le b.length; simp only [putV, V.b, vsize, List.length_append]; omega
  | .list s, .mk n b l => by
    have h1 := num_le l.length
    have h2 := flatten_le (f := putV s) l fun v _ => putV_le s v
    simp only [putV, V.l, vsize, List.length_append]
    omega
  | .row l, .mk n b vs => by
    have := putVs_le l vs
    simp only [putV, V.l, vsize]
    omega
theorem putVs_le : ∀ (l : List Sh) (vs : List V), (putVs l vs).length ≤ vsizes vs
  | [], vs => by simp [putVs]
  | s :: l, [] => by simp [putVs]
  | s :: l, v :: vs => by
    have h1 := putV_le s v
    have h2 := putVs_le l vs
    simp only [putVs, vsizes, List.length_append]
    omega
end

section
variable {fn : FuncId} {caps : Array Value} (T : Teller fn caps)
mutual
theorem walk_any : ∀ s, WalkSaid T s
  | .num => walk_num T
  | .blob => walk_blob T
  | .list s => walk_list T (walk_any s) fun d _ => putV_le s d
  | .row l => walk_row T (walks_any l) fun s _ d _ => putV_le s d
theorem walks_any : ∀ (l : List Sh), ∀ s ∈ l, WalkSaid T s
  | [], s, h => by simp at h
  | t :: l, s, h => by
    rcases List.mem_cons.1 h with h | h
    · rw [h]; exact walk_any t
    · exact walks_any l s h
end
end

/-- What Put tells: the bytes are laid behind those that a variable holds. -/
def outAt (bo : Nat) (L : List UInt8) (w : World) : Prop :=
  ∃ v, w.heap[bo]? = some (.cells #[v] 34) ∧ w.ownsRow (bo + 1) 5 1 v L.length (L.map byteV)

def putCold (bo : Nat) (w : World) (k : Nat) : Prop := k ≠ bo ∧ ∀ v, w.heap[bo]? = some (.cells #[v] 34) → v.ownBlock ≠ some k

theorem put_entry (args : Array Value) (w : World) : (callFunc 75 args).run Tryz.prog w = .ok (.enter 75 args) w := by
  simp [go_sem]

theorem outAt_alloc {bo : Nat} {L : List UInt8} {w : World} (o : Obj) (h : outAt bo L w) : outAt bo L (w.alloc o) := by
  obtain ⟨v, h1, h2⟩ := h
  exact ⟨v, old_alloc h1, h2.alloc o⟩

theorem outAt.own {bo : Nat} {L : List UInt8} {w : World} (h : outAt bo L w) : ∃ v, w.heap[bo]? = some (.cells #[v] 34) ∧ w.ownsRow (bo + 1) 5 1 v L.length (L.map byteV) ∧ bo < w.heap.size := by
  obtain ⟨v, h1, h2⟩ := h
  exact ⟨v, h1, h2, lt_of_heap h1⟩

set_option maxRecDepth 20000 in
set_option maxHeartbeats 800000 in
theorem put_tell (bo : Nat) (s : Sh) (d : V) (F : Nat → Prop) (u : Value) (L : List UInt8) (w : World) (hI : outAt bo L w) (hu : RepV w F d u) (hF : ∀ b, F b → b < w.heap.size ∧ putCold bo w b)
    (hL : L.length + d.b.length + 9 ≤ 1099511627776) :
    Calls Tryz.prog 75 #[.int .u8 (kind s), u, .pointer (some ⟨bo, 0, none⟩)] w fun e w' => e = .returned (.tuple #[]) ∧ outAt bo (L ++ headOf s d) w' ∧ Fr (putCold bo) w w' := by
  obtain ⟨v, hb, hown, hlt⟩ := hI.own
  obtain ⟨n, ab, nb, cb, al, nl, cl, rfl⟩ := hu.form
  have hF2 : ∀ b, F b → b < (w.alloc (.cells #[.int .u64 n, .slice ab nb cb, .slice al nl cl] 95)).heap.size ∧ v.ownBlock ≠ some b := fun b hb2 => ⟨by have := (hF b hb2).1; simp; omega, (hF b hb2).2.2 v hb⟩
  have hcall := lay_any s d F (bo + 1) v _ L (w.alloc (.cells #[.int .u64 n, .slice ab nb cb, .slice al nl cl] 95)) (hu.same (fun _ h => h) fun b hb2 => Below.heap_alloc _ _ _ (hF b hb2).1) (hown.alloc _) (by simp; omega) hL hF2
  have HC := Lib.hid hcall
  obtain ⟨a, c, rfl⟩ := owned_slice hown
  obtain ⟨c0, f0, _⟩ := block1 hb
  have HB := Lib.hid hb
  clear hcall hF hF2 hu hI hb
  go_enter Tryz.func75, Tryz.ntmps75
  go_wp2_with fail
  refine HC.out.mono ?_
  rintro e w1 ⟨v1, rfl, hacc⟩
  have hb1 : w1.heap[bo]? = some (.cells #[.slice a L.length c] 34) := by
    rw [hacc.2.1.block bo (by simp; omega) ?_]
    · exact old_alloc HB.out
    · intro h1
      have := (hown.lt _ h1.symm).1
      omega
  obtain ⟨c1, f1, hlt1⟩ := block1 hb1
  obtain ⟨a1, k1, rfl⟩ := owned_slice hacc.1
  have HB1 := Lib.hid hb1
  clear hb1
  go_wp2_with fail
  go_end0
  refine ⟨rfl, ⟨_, ?_, ownsRow_setCell_below hacc.1 (by simp) _⟩, ⟨hacc.2.1.os, hacc.2.1.tape, hacc.2.1.output, ?_, ?_, ?_⟩⟩
  · have := heap_setCell_same w1 bo 0 _ _ (.slice a1 (L ++ headOf s d).length k1) HB1.out
    simpa using this
  · have := hacc.2.1.size
    simp at this ⊢
    omega
  · intro k hk hc
    rw [Below.heap_setCell _ _ _ _ hc.1, hacc.2.1.block k (by simp; omega) fun h => hc.2 _ HB.out h.symm, Below.heap_alloc _ _ _ hk]
  · intro k hk hc
    refine ⟨hc.1, fun x hx => ?_⟩
    have h2 := heap_setCell_same w1 bo 0 _ _ (.slice a1 (L.length + (headOf s d).length) k1) HB1.out
    rw [h2] at hx
    simp at hx
    rw [← hx]
    rcases hacc.2.2 with h3 | ⟨g, h3, h4⟩
    · rw [show (Value.slice a1 (L.length + (headOf s d).length) k1).ownBlock = _ from by simpa using h3]; exact hc.2 _ HB.out
    · rw [show (Value.slice a1 (L.length + (headOf s d).length) k1).ownBlock = _ from by simpa using h3]
      intro h5
      simp at h4 h5
      omega

def putTeller (bo : Nat) : Teller 75 #[.pointer (some ⟨bo, 0, none⟩)] where
  entry := put_entry
  I := outAt bo
  cold := putCold bo
  iAlloc := fun o h => outAt_alloc o h
  iDrew := fun h => h
  cAlloc := fun {L w k} o hI hk hc => ⟨hc.1, fun v hv => by
    obtain ⟨_, _, _, hlt⟩ := hI.own
    rw [Below.heap_alloc _ _ _ hlt] at hv
    exact hc.2 v hv⟩
  cNew := fun {L w} o hI => by
    obtain ⟨v, hb, hown, hlt⟩ := hI.own
    refine ⟨by omega, fun x hx h => ?_⟩
    rw [Below.heap_alloc _ _ _ hlt, hb] at hx
    simp at hx
    rw [← hx] at h
    have := (hown.lt _ h).2
    omega
  cDrew := fun h => h
  call := put_tell bo

end Go.Proofs.YtamgjlegcegmeaaGreatDoor.M

/- Part: MouldPut4. -/
namespace Go.Proofs.YtamgjlegcegmeaaGreatDoor.M
open Go.RowKit

/-- What Put answers: an error's number, or the bytes. -/
def putAll (s : List UInt8) (l : List V) : Except Int (List UInt8) :=
  match shape s with
  | none => .error 10
  | some sh => if l.all (isV sh) then .ok (l.map (putV sh)).flatten else .error 2

def PutPost (w : World) (r : Except Int (List UInt8)) (e : Ending) (w' : World) : Prop :=
  Below w.heap.size w w' ∧ match r with
  | .error c => e = .returned (.tuple #[.slice none 0 0, .int .i64 c])
  | .ok L => ∃ v, e = .returned (.tuple #[v, .int .i64 0]) ∧ w'.ownsRow w.heap.size 5 1 v L.length (L.map byteV)

/-- Everything that was there when Put's variable was made is cold. -/
theorem cold_first {w : World} {bo k : Nat} (hb : w.heap[bo]? = some (.cells #[.slice none 0 0] 34)) (hk : k < bo) : putCold bo w k := by
  refine ⟨by omega, fun v hv h => ?_⟩
  rw [hb] at hv
  simp at hv
  rw [← hv] at h
  simp [Value.ownBlock] at h

set_option maxRecDepth 20000 in
set_option maxHeartbeats 1600000 in
theorem Put_any (s : ByteArray) (l : List V) (F : Nat → Prop) (v : Value) (w : World) (hs : s.size ≤ 9223372036854775807) (hv : RepVl w F l v) (hF : ∀ b, F b → b < w.heap.size) (hl : vsizes l ≤ 1099511627776) :
    Calls Tryz.prog 51 #[.string s, v] w (PutPost w (putAll s.data.toList l)) := by
  have HV := Lib.hid hv
  have HF := Lib.hid hF
  have HL := Lib.hid hl
  have hmf : ∀ (fn : Fn) (first cap : Array Value) (w : World), (Instr.makeFunc fn first cap).run Tryz.prog w = .ok (.func fn first cap) w := fun _ _ _ _ => rfl
  obtain ⟨va, vc, rfl, hll⟩ := hv.slice
  clear hv hF hl
  go_enter Tryz.func51, Tryz.ntmps51
  go_wp2_with fail
  refine (parse_any s _ hs).mono ?_
  rintro e w1 ⟨hb, hr⟩
  have hsz := hb.size
  cases hq : shape s.data.toList with
  | none =>
    rw [hq] at hr
    subst hr
    have HQ : Hid (putAll s.data.toList l = .error 10) := Lib.hid (by unfold putAll; rw [hq])
    clear hq
    go_wp2_with fail
    go_ret2
    rw [HQ.out]
    exact ⟨hb.alloc (by omega) _, rfl⟩
  | some sh =>
    rw [hq] at hr
    obtain ⟨u, rfl, hu⟩ := hr
    have HQ : Hid (putAll s.data.toList l = if l.all (isV sh) then .ok (l.map (putV sh)).flatten else .error 2) := Lib.hid (by unfold putAll; rw [hq])
    have HU := Lib.hid hu
    obtain ⟨pa, pn, pc, rfl⟩ := hu.agg
    clear hq hu
    go_wp2_with fail
    obtain ⟨w3, hw3⟩ : ∃ w3, w3 = ((w1.alloc (.cells #[.int .u8 (kind sh), .slice pa pn pc, .bool (solid sh)] 123)).alloc (.cells #[.slice none 0 0] 34)) := ⟨_, rfl⟩
    have hb3 : w3.heap[w1.heap.size + 1]? = some (.cells #[.slice none 0 0] 34) := by rw [hw3]; exact heap_new _ _ _ (by simp)
    have hp3 : w3.heap[w1.heap.size]? = some (.cells #[.int .u8 (kind sh), .slice pa pn pc, .bool (solid sh)] 123) := by rw [hw3]; exact old_alloc (heap_new _ _ _ rfl)
    have hold : ∀ k, k < w1.heap.size → w3.heap[k]? = w1.heap[k]? := fun k hk => by rw [hw3, Below.heap_alloc _ _ _ (by simp; omega), Below.heap_alloc _ _ _ hk]
    have hB3 : Below w.heap.size w w3 := by rw [hw3]; exact (hb.alloc (by omega) _).alloc (by simp; omega) _
    have hz3 : w3.heap.size = w1.heap.size + 2 := by rw [hw3]; simp
    have HB3 := Lib.hid hb3
    have HP3 := Lib.hid hp3
    have HO3 := Lib.hid hold
    have HZ3 := Lib.hid hz3
    rw [← hw3]
    clear hw3 hb3 hp3 hold hz3
    go_loopw [20] (fun i wr => ∃ k : Nat, i = .int .i64 (k : Int) ∧ k ≤ l.length ∧ (l.take k).all (isV sh) = true ∧ outAt (w1.heap.size + 1) ((l.take k).map (putV sh)).flatten wr ∧ Fr (putCold (w1.heap.size + 1)) w3 wr)
      (fun i _ => l.length - (intOf i).toNat)
    case atStart => exact ⟨0, rfl, by omega, by simp, ⟨_, HB3.out, World.ownsRow_nil _ _ _ _⟩, Fr.refl _⟩
    case round =>
      obtain ⟨k, rfl, hk, hall, hout, hfr⟩ := hrel
      have HALL := Lib.hid hall
      have HOUT := Lib.hid hout
      have HFR := Lib.hid hfr
      have hcold : ∀ k, k < w1.heap.size + 1 → wr.heap[k]? = w3.heap[k]? := fun k hk => hfr.block k (by rw [HZ3.out]; omega) (cold_first HB3.out hk)
      obtain ⟨ov, hob, hown, hbo⟩ := hout.own
      obtain ⟨p0, p1, p2, -, -, -, hz0⟩ := block3 ((hcold _ (by omega)).trans HP3.out)
      have HCOLD := Lib.hid hcold
      have hBr : Below w.heap.size w wr := ⟨hfr.os.trans hB3.os, hfr.tape.trans hB3.tape, hfr.output.trans hB3.output, Nat.le_trans hB3.size hfr.size, fun k hk => (hcold k (by omega)).trans (hB3.block k hk)⟩
      have HBR := Lib.hid hBr
      clear hall hfr hcold
      by_cases hk2 : k < l.length
      · obtain ⟨eb, eoff, rfl, hFe, u, hat, hu⟩ := HV.out.elem k hk2
        obtain ⟨en, eab, enb, ecb, eal, enl, ecl, rfl⟩ := hu.form
        have hlt := HF.out eb hFe
        obtain ⟨x, y, z, hxyz, e0, e1, e2⟩ := hat.same (w' := wr) (hBr.block eb hlt)
        cases hxyz
        have HUE := Lib.hid hu
        clear hat hu hBr
        have hcall := walk_any (putTeller (w1.heap.size + 1)) sh l[k] (fun b => b < w1.heap.size) (.agg #[.int .u8 (kind sh), .slice pa pn pc, .bool (solid sh)]) (.agg #[.int .u64 en, .slice eab enb ecb, .slice eal enl ecl])
          ((l.take k).map (putV sh)).flatten (wr.alloc (.cells #[.int .u64 en, .slice eab enb ecb, .slice eal enl ecl] 95)) (outAt_alloc _ HOUT.out)
          (HU.out.same (fun b hb => hb.2) fun b hb => by rw [Below.heap_alloc _ _ _ (by omega), HCOLD.out b (by omega), HO3.out b hb.2])
          (HUE.out.same (fun b hb => by have := HF.out b hb; omega) fun b hb => by
            have := HF.out b hb
            rw [Below.heap_alloc _ _ _ (by omega), HBR.out.block b this])
          (fun b hb => ⟨by simp; omega, (putTeller (w1.heap.size + 1)).cAlloc _ HOUT.out (by omega) (HFR.out.cold b (by rw [HZ3.out]; omega) (cold_first HB3.out (by omega)))⟩)
          (by
            have h1 := flatten_le (f := putV sh) (l.take k) fun v _ => putV_le sh v
            have h2 := vsizes_get l k hk2
            have h3 := HL.out
            omega)
        have HC := Lib.hid hcall
        clear hcall
        go_wp2_with fail
        refine HC.out.mono ?_
        rintro e w2 ⟨rfl, hfr2, L2, hI2, hL2⟩
        have hfr3 := HFR.out.trans ((Fr.box (putTeller (w1.heap.size + 1)) _ HOUT.out).trans hfr2)
        have HFR3 := Lib.hid hfr3
        have HI2 := Lib.hid hI2
        have HL2 := Lib.hid hL2
        clear hfr3 hfr2 hI2 hL2
        cases hv : isV sh l[k] with
        | true =>
          have HIS := Lib.hid hv
          clear hv
          go_wp2_with fail
          go_roundw
          case rel =>
            refine ⟨k + 1, by go_num, by omega, ?_, ?_, HFR3.out⟩
            · rw [List.take_add_one, List.getElem?_eq_getElem hk2, List.all_append, HALL.out]
              simp only [Option.toList_some, List.all_cons, List.all_nil, HIS.out, Bool.and_true]
            · rw [List.take_add_one, List.getElem?_eq_getElem hk2]
              simp only [Option.toList_some, List.map_append, List.map_cons, List.map_nil, List.flatten_append, List.flatten_cons, List.flatten_nil, List.append_nil]
              rw [← HL2.out HIS.out]
              exact HI2.out
          case measure => simp [intOf]; omega
        | false =>
          have HIS := Lib.hid hv
          clear hv
          go_wp2_with fail
          go_ret2
          have hno : l.all (isV sh) = false := List.all_eq_false.2 ⟨l[k], List.getElem_mem _, by rw [HIS.out]; simp⟩
          rw [HQ.out, hno]
          have hf := HFR3.out
          exact ⟨⟨hf.os.trans hB3.os, hf.tape.trans hB3.tape, hf.output.trans hB3.output, Nat.le_trans hB3.size hf.size, fun k hk => (hf.block k (by rw [HZ3.out]; omega) (cold_first HB3.out (by omega))).trans (hB3.block k hk)⟩, rfl⟩
      · obtain ⟨c0, -, -⟩ := block1 hob
        have HK : Hid (k = l.length) := Lib.hid (by omega)
        have HOWN := Lib.hid hown
        clear hob hown hout
        go_wp2_with fail
        go_ret2
        have hall := HALL.out
        have hown := HOWN.out
        rw [HK.out, List.take_length] at hall hown
        rw [HQ.out, hall]
        refine ⟨HBR.out, _, rfl, ?_⟩
        obtain ⟨h1, h2⟩ := hown
        refine ⟨h1, h2.imp id ?_⟩
        rintro ⟨g, cap, cur, h3, h4, h5⟩
        exact ⟨g, cap, cur, h3, by omega, h5⟩
end Go.Proofs.YtamgjlegcegmeaaGreatDoor.M

/- Part: MouldSame. -/
namespace Go.Proofs.YtamgjlegcegmeaaGreatDoor.M
open Go.RowKit

theorem toList_loop (s : ByteArray) : ∀ (n i : Nat) (r : List UInt8), s.size - i = n → ByteArray.toList.loop s i r = r.reverse ++ s.data.toList.drop i
  | 0, i, r, h => by
    unfold ByteArray.toList.loop
    rw [if_neg (by omega), List.drop_of_length_le (by rw [Array.length_toList]; exact Nat.le_of_sub_eq_zero h), List.append_nil]
  | n + 1, i, r, h => by
    unfold ByteArray.toList.loop
    have hi : i < s.size := by omega
    rw [if_pos hi, toList_loop s n (i + 1) _ (by omega), drop_cons s i hi, List.reverse_cons, List.append_assoc]
    congr 1
    simp only [List.singleton_append]
    congr 1
    obtain ⟨a⟩ := s; exact getElem!_pos a i hi

theorem toList_data1 (s : ByteArray) : s.toList = s.data.toList := by
  unfold ByteArray.toList
  rw [toList_loop s s.size 0 [] rfl]
  simp

theorem str_beq (a b : List UInt8) : ((strOf a).toList == (strOf b).toList) = (a == b) := by
  rw [toList_data1, toList_data1]
  rfl

/-- What Is answers. -/
def isAll (s : List UInt8) (l : List V) : Bool :=
  match shape s with
  | none => false
  | some sh => l.all (isV sh)

end Go.Proofs.YtamgjlegcegmeaaGreatDoor.M

/- Part: MouldSame2. -/
namespace Go.Proofs.YtamgjlegcegmeaaGreatDoor.M
open Go.RowKit

/-- One value in a new block, as a slice of one. -/
theorem RepVl.one {w w1 : World} {F G : Nat → Prop} {d : V} {x y z : Value} {g : Nat} {t : TypeId} (h : RepV w F d (.agg #[x, y, z])) (hb : w1.heap[g]? = some (.cells #[x, y, z] t))
    (hw : ∀ b, F b → w1.heap[b]? = w.heap[b]?) (hF : ∀ b, F b → G b) (hg : G g) : RepVl w1 G [d] (.slice (some ⟨g, 0, none⟩) 1 1) := by
  obtain ⟨c0, c1, c2, -, -, -, -⟩ := block3 hb
  refine .inr ⟨g, 0, 1, rfl, hg, by simp, by omega, ?_⟩
  unfold RepVs RepVs
  exact ⟨⟨_, ⟨x, y, z, rfl, c0, c1, c2⟩, h.same hF hw⟩, trivial⟩

/-- What Same answers. -/
def same (s : List UInt8) (a b : V) : Bool :=
  match putAll s [a], putAll s [b] with
  | .ok x, .ok y => x == y
  | _, _ => false

theorem PutPost.both {w w' : World} {r : Except Int (List UInt8)} {e : Ending} (h : PutPost w r e w') : ∃ v c, e = .returned (.tuple #[v, .int .i64 c]) ∧ Below w.heap.size w w' ∧
    ((∃ L, r = .ok L ∧ c = 0 ∧ RepB w' (fun b => w.heap.size ≤ b ∧ b < w'.heap.size) L v) ∨ (∃ n, r = .error n ∧ c = n)) := by
  obtain ⟨hb, h⟩ := h
  cases r with
  | error n => exact ⟨_, n, h, hb, .inr ⟨n, rfl, rfl⟩⟩
  | ok L =>
    obtain ⟨v, he, hown⟩ := h
    exact ⟨v, 0, he, hb, .inl ⟨L, rfl, rfl, .of_own hown⟩⟩

theorem putAll_error {s : List UInt8} {l : List V} {n : Int} (h : putAll s l = .error n) : n = 10 ∨ n = 2 := by
  unfold putAll at h
  split at h
  · cases h; exact .inl rfl
  · split at h
    · cases h
    · cases h; exact .inr rfl

end Go.Proofs.YtamgjlegcegmeaaGreatDoor.M

/- Part: MouldTake1. -/
namespace Go.Proofs.YtamgjlegcegmeaaGreatDoor.M
open Go.RowKit

/-- A reader: a variable that holds the bytes that are left. -/
def ReadAt (w : World) (rb : Nat) (v : Value) : Prop := w.heap[rb]? = some (.cells #[v] 175)

/-- Digits to the base 256, the greatest first, as a number. -/
def fold256 (l : List UInt8) : Nat := l.foldl (fun n d => n * 256 + d.toNat) 0

theorem fold256_snoc (l : List UInt8) (d : UInt8) : fold256 (l ++ [d]) = fold256 l * 256 + d.toNat := by simp [fold256]

theorem foldl_lt : ∀ (l : List UInt8) (n : Nat), l.foldl (fun n d => n * 256 + d.toNat) n < (n + 1) * 256 ^ l.length
  | [], n => by simp
  | d :: l, n => by
    have h := foldl_lt l (n * 256 + d.toNat)
    have hd := d.toNat_lt
    rw [List.foldl_cons, List.length_cons, Nat.pow_succ]
    refine Nat.lt_of_lt_of_le h ?_
    rw [Nat.mul_comm (256 ^ l.length) 256, ← Nat.mul_assoc]
    exact Nat.mul_le_mul_right _ (by omega)

theorem fold256_lt (l : List UInt8) : fold256 l < 256 ^ l.length := by
  have := foldl_lt l 0
  simpa [fold256] using this

theorem wraps_u64 (n : Int) (h0 : 0 ≤ n) (h1 : n < 2 ^ 64) : IntKind.u64.wrap n = n := IntWalk.u64_in n (by omega)

/-- 'n << 8 | d'. -/
theorem shl_or (f d : Nat) (hf : f < 72057594037927936) (hd : d ≤ 255) : bits .or .u64 (IntKind.u64.wrap ((f : Int) * 256)) (d : Int) = ((f * 256 + d : Nat) : Int) := by
  rw [IntWalk.u64_in _ (by omega), bits_join .u64 64 (by decide) wraps_u64 8 _ _ (by omega) (by omega) (by omega) (by omega) (by omega) (by omega)]
  omega

/-- Bytes, the first of them left out. -/
theorem RepB.drop1 {w : World} {F : Nat → Prop} {L : List UInt8} {b off n c k o' n' c' : Nat} (h : RepB w F L (.slice (some ⟨b, off, none⟩) n c)) (hk : k ≤ L.length) (ho : o' = off + k) (hn : n' = L.length - k) (hc : c' = c - k) :
    RepB w F (L.drop k) (.slice (some ⟨b, o', none⟩) n' c') := by
  rcases h with ⟨rfl, a, c1, h, h1, _⟩ | ⟨b, off, c, hv, hb, h1, h2, hcell⟩
  · cases h
    simp at hk
    subst hk ho hn hc
    exact .inl ⟨rfl, Bare.at (by omega)⟩
  · cases hv
    subst ho hn hc
    refine .inr ⟨b, off + k, c - k, by simp, hb, by simp; omega, by omega, fun i hi => ?_⟩
    rw [List.length_drop] at hi
    rw [show off + k + i = off + (k + i) from by omega, hcell (k + i) (by omega), List.getElem_drop]

theorem RepB.drop2 {w : World} {F : Nat → Prop} {L : List UInt8} {b off n c k n' c' : Nat} (h : RepB w F L (.slice (some ⟨b, off, none⟩) n c)) (hk : k = L.length) (hn : n' = 0) (hc : c' ≤ c) :
    RepB w F (L.drop k) (.slice (some ⟨b, off, none⟩) n' c') := by
  rcases h with ⟨rfl, a, c1, h, h1, _⟩ | ⟨b, off, c, hv, hb, h1, h2, hcell⟩
  · cases h
    subst hn
    exact .inl ⟨by simp, Bare.at (by omega)⟩
  · cases hv
    subst hk hn
    rw [List.drop_length]
    exact .inr ⟨b, off, c', rfl, hb, by simp, by omega, fun i hi => by simp at hi⟩

def DigPost (w : World) (rb : Nat) (F : Nat → Prop) (r : Except Int (Nat × List UInt8)) (e : Ending) (w' : World) : Prop :=
  match r with
  | .error c => e = .returned (.tuple #[.int .u64 0, .int .i64 c]) ∧ w = w'
  | .ok (n, l) => ∃ v, e = .returned (.tuple #[.int .u64 (n : Int), .int .i64 0]) ∧ w' = w.setCell ⟨rb, 0, none⟩ v ∧ RepB w F l v

set_option maxRecDepth 20000 in
set_option maxHeartbeats 1600000 in
theorem digits_any (rb : Nat) (F : Nat → Prop) (L : List UInt8) (v : Value) (w : World) (hr : ReadAt w rb v) (hv : RepB w F L v) :
    Calls Tryz.prog 148 #[.pointer (some ⟨rb, 0, none⟩)] w (DigPost w rb F (takeNum L)) := by
  obtain ⟨va, vc, rfl, hL⟩ := hv.slice
  obtain ⟨r0, r1, hrb⟩ := block1 hr
  have HV := Lib.hid hv
  clear hv hr
  cases L with
  | nil =>
    go_enter Tryz.func148, Tryz.ntmps148
    go_wp2_with fail
    go_ret2
    exact ⟨rfl, rfl⟩
  | cons c0 R =>
    have HV2 := HV.out
    rcases HV2 with ⟨h, _⟩ | ⟨b, off, c, hsl, hb, h1, h2, hc⟩
    · cases h
    · cases hsl
      have e0 : w.cell? ⟨b, off, none⟩ = some (.int .u8 (c0.toNat : Int)) := by have := hc 0 (by simp); simpa using this
      have HC := Lib.hid hc
      simp only [List.length_cons] at h1 hL
      clear hc
      have hz : c0.toNat ≤ 255 := by have := c0.toNat_lt; omega
      have HT0 : Hid (takeNum (c0 :: R) = if 8 < c0.toNat then .error 13 else if 0 < c0.toNat ∧ R.head? = some 0 then .error 13 else if R.length < c0.toNat then .error 11
        else .ok ((R.take c0.toNat).foldl (fun n d => n * 256 + d.toNat) 0, R.drop c0.toNat)) := Lib.hid (by rw [takeNum])
      generalize takeNum (c0 :: R) = TN at *
      have HC1 : Hid (∀ (i : Nat) (h : i < R.length), w.cell? ⟨b, off + 1 + i, none⟩ = some (.int .u8 (R[i].toNat : Int))) := Lib.hid fun i h => by
        have := HC.out (i + 1) (by simpa using h)
        rw [show off + 1 + i = off + (i + 1) from by omega]
        simpa using this
      clear HC
      generalize c0.toNat = z at *
      by_cases hs8 : 8 < z
      · have HT : Hid (TN = .error 13) := Lib.hid (by rw [HT0.out, if_pos hs8])
        have hs9 : (8 : Int) < (z : Int) := by omega
        go_enter Tryz.func148, Tryz.ntmps148
        go_wp2_with fail
        go_ret2
        rw [HT.out]
        exact ⟨rfl, rfl⟩
      · have hs9 : ¬ (8 : Int) < (z : Int) := by omega
        by_cases hz0 : 0 < z
        · have hz1 : (0 : Int) < (z : Int) := by omega
          cases R with
          | nil =>
            have HT : Hid (TN = .error 11) := Lib.hid (by rw [HT0.out, if_neg hs8, if_neg (by simp), if_pos (by simpa using hz0)])
            simp only [List.length_nil] at h1 hL r0 ⊢
            go_enter Tryz.func148, Tryz.ntmps148
            go_wp2_with fail
            go_ret2
            rw [HT.out]
            exact ⟨rfl, rfl⟩
          | cons c1 R2 =>
            have e1 : w.cell? ⟨b, off + 1, none⟩ = some (.int .u8 (c1.toNat : Int)) := by have := HC1.out 0 (by simp); simpa using this
            by_cases hc1 : c1 = 0
            · have HT : Hid (TN = .error 13) := Lib.hid (by rw [HT0.out, if_neg hs8, if_pos ⟨hz0, by simp [hc1]⟩])
              subst hc1
              go_enter Tryz.func148, Tryz.ntmps148
              go_wp2_with fail
              go_ret2
              rw [HT.out]
              exact ⟨rfl, rfl⟩
            · have hc2 : ((c1.toNat : Int) == 0) = false := by
                have e := byte_lit c1 0 (by decide)
                rw [show UInt8.ofNat 0 = 0 from rfl, decide_eq_false hc1] at e
                exact e
              by_cases hlen : (c1 :: R2).length < z
              · have HT : Hid (TN = .error 11) := Lib.hid (by rw [HT0.out, if_neg hs8, if_neg (by simp [hc1]), if_pos hlen])
                simp only [List.length_cons] at hlen
                go_enter Tryz.func148, Tryz.ntmps148
                go_wp2_with fail
                go_ret2
                rw [HT.out]
                exact ⟨rfl, rfl⟩
              · have HT : Hid (TN = .ok (((c1 :: R2).take z).foldl (fun n d => n * 256 + d.toNat) 0, (c1 :: R2).drop z)) := Lib.hid (by rw [HT0.out, if_neg hs8, if_neg (by simp [hc1]), if_neg hlen])
                simp only [List.length_cons] at hlen h1
                go_enter Tryz.func148, Tryz.ntmps148
                go_wp2_with fail
                go_loop [5, 57] (fun n i => ∃ k : Nat, i = .int .i64 (k : Int) ∧ n = .int .u64 ((fold256 ((c1 :: R2).take k) : Nat) : Int) ∧ k ≤ z) (fun _ i => z - (intOf i).toNat)
                case atStart => exact ⟨0, rfl, rfl, by omega⟩
                case round =>
                  obtain ⟨k, rfl, rfl, hk⟩ := hrel
                  by_cases hkz : k < z
                  · have hkR : k < (c1 :: R2).length := by simp; omega
                    have hcell := HC1.out k hkR
                    have hd : (c1 :: R2)[k].toNat ≤ 255 := by have := (c1 :: R2)[k].toNat_lt; omega
                    generalize hdd : (c1 :: R2)[k].toNat = d at *
                    generalize hff : fold256 ((c1 :: R2).take k) = f at *
                    have HDD := Lib.hid hdd
                    have HFF := Lib.hid hff
                    clear hdd hff
                    go_wp2_with fail
                    go_round
                    case rel =>
                      refine ⟨k + 1, by go_num, ?_, by omega⟩
                      have hf : f < 72057594037927936 := by
                        have := fold256_lt ((c1 :: R2).take k)
                        rw [HFF.out] at this
                        have h7 : ((c1 :: R2).take k).length ≤ 7 := by rw [List.length_take]; omega
                        exact Nat.lt_of_lt_of_le this (Nat.pow_le_pow_right (n := 256) (by omega) h7)
                      rw [shl_or f d hf hd, List.take_add_one, List.getElem?_eq_getElem hkR, Option.toList_some, fold256_snoc, HFF.out, HDD.out]
                    case measure => simp [intOf]; omega
                  · have hkz2 : k = z := by omega
                    subst hkz2
                    go_wp2_with fail
                    all_goals go_ret2
                    all_goals rw [HT.out]
                    · exact ⟨_, rfl, rfl, HV.out.drop2 (k := k + 1) (by simp at *; omega) (by omega) (by omega)⟩
                    · exact ⟨_, rfl, rfl, HV.out.drop1 (k := k + 1) (by simp; omega) (by omega) (by simp; omega) (by omega)⟩
        · obtain rfl : z = 0 := by omega
          have HT : Hid (TN = .ok (0, R)) := Lib.hid (by rw [HT0.out, if_neg hs8, if_neg (by simp), if_neg (by omega)]; simp)
          simp only [List.length_cons] at r0
          go_enter Tryz.func148, Tryz.ntmps148
          go_wp2_with fail
          all_goals (refine wp_loop_rounds 1 ?_; rw [rounds_succ])
          all_goals go_wp2_with fail
          all_goals go_ret2
          all_goals rw [HT.out]
          all_goals refine ⟨_, rfl, rfl, ?_⟩
          · exact HV.out.drop2 (k := 1) (by rw [List.length_cons]; omega) (by omega) (by omega)
          · exact HV.out.drop1 (k := 1) (by simp) rfl (by simp) rfl

/-- Bytes, the first of them alone. -/
theorem RepB.take1 {w : World} {F : Nat → Prop} {L : List UInt8} {a : Option Addr} {n c k : Nat} (h : RepB w F L (.slice a n c)) (hk : k ≤ L.length) : RepB w F (L.take k) (.slice a k c) := by
  rcases h with ⟨rfl, h⟩ | ⟨b, off, c, hv, hb, h1, h2, hcell⟩
  · obtain rfl : k = 0 := by simpa using hk
    obtain ⟨a', c', h, h1, h2⟩ := h
    cases h
    exact .inl ⟨rfl, a, c, rfl, h1, h2⟩
  · cases hv
    refine .inr ⟨b, off, c, by simp; omega, hb, by simp; omega, h2, fun i hi => ?_⟩
    rw [List.length_take] at hi
    rw [hcell i (by omega), List.getElem_take]

def CutPost (w : World) (rb : Nat) (F : Nat → Prop) (L : List UInt8) (k : Nat) (e : Ending) (w' : World) : Prop :=
  ∃ u v, e = .returned u ∧ w.grownBy w' (some rb) ∧ ReadAt w' rb v ∧ RepB w' F (L.drop k) v ∧ RepB w' (fun b => w.heap.size ≤ b ∧ b < w'.heap.size) (L.take k) u

set_option maxRecDepth 20000 in
set_option maxHeartbeats 1600000 in
theorem cut_any (rb : Nat) (F : Nat → Prop) (L : List UInt8) (v : Value) (k : Nat) (w : World) (hr : ReadAt w rb v) (hv : RepB w F L v) (hF : ∀ b, F b → b < w.heap.size ∧ b ≠ rb) (hk : k ≤ L.length)
    (hL : L.length ≤ 1099511627776) :
    Calls Tryz.prog 149 #[.pointer (some ⟨rb, 0, none⟩), .int .i64 (k : Int)] w (CutPost w rb F L k) := by
  obtain ⟨va, vc, rfl, _⟩ := hv.slice
  obtain ⟨r0, r1, hrb⟩ := block1 hr
  obtain ⟨ib, hib, hib0, hib1, hib2⟩ := info_parts infoByte
  have hcap : L.length ≤ vc := by
    rcases hv with ⟨rfl, h⟩ | ⟨b, off, c, h, _, h1, _⟩
    · simp
    · cases h; exact h1
  have HV := Lib.hid hv
  have HY := Lib.hid (hv.take1 hk).yields
  have HF := Lib.hid hF
  have HR := Lib.hid hr
  clear hv hr hF
  go_enter Tryz.func149, Tryz.ntmps149
  have hkl : (L.take k).length = k := by simp; omega
  have HKL := Lib.hid hkl
  clear hkl
  go_wp2_with (at_builtin; refine wpList_append_any _ rfl _ _ 34 rfl w.heap.size 5 ib (.int .u8 0) 1 1 Tryz.underlying34 hib hib0 hib1 hib2 rfl (by decide) _ 0 [] rfl (World.ownsRow_nil _ _ _ _) (.slice va k vc) rfl k ((L.take k).map byteV) (by have := HY.out; rw [HKL.out] at this; exact this) ?c1 ?c2 ?c3 ?_)
  case c1 => unfold maxLen; omega
  case c2 => omega
  case c3 => exact Nat.le_refl _
  intro v1 w1 happ
  rw [← List.map_take] at happ
  have hr1 : ReadAt w1 rb (.slice va L.length vc) := by
    have := happ.2.1.block rb hrb (by simp [Value.ownBlock])
    exact this.trans HR.out
  obtain ⟨c0, f0, hrb1⟩ := block1 hr1
  have HAP := Lib.hid happ
  have HR1 := Lib.hid hr1
  obtain ⟨ua, uc, rfl⟩ := owned_slice happ.1
  clear happ hr1
  simp only [Nat.zero_add] at HAP ⊢
  have hfin : ∀ v, RepB w F (L.drop k) v → CutPost w rb F L k (.returned (.slice ua k uc)) (w1.setCell ⟨rb, 0, none⟩ v) := by
    intro v hv
    have hg := HAP.out.2.1
    refine ⟨_, v, rfl, ⟨hg.os, hg.tape, hg.output, by simpa using hg.size, fun j hj hn => ?_⟩, ?_, ?_, ?_⟩
    · rw [Below.heap_setCell _ _ _ _ (fun h => hn (by simp at h; rw [h]))]
      exact hg.block j hj (by simp [Value.ownBlock])
    · have := heap_setCell_same w1 rb 0 _ _ v HR1.out
      simpa [ReadAt] using this
    · refine hv.same (fun _ h => h) fun b hb => ?_
      have hb2 := HF.out b hb
      rw [Below.heap_setCell _ _ _ _ (by simpa using hb2.2)]
      exact hg.block b hb2.1 (by simp [Value.ownBlock])
    · have hown := HAP.out.1
      have hacc := (Acc.of_app (L1 := []) HAP.out).1
      simp only [List.nil_append] at hacc
      refine (RepB.of_own hacc).same (fun b hb => by simpa using hb) fun b hb => ?_
      rw [Below.heap_setCell _ _ _ _ (by simp; omega)]
  have HFIN := Lib.hid hfin
  clear hfin
  cases va with
  | none =>
    rcases HV.out with ⟨h0, a', c', h, _, h1⟩ | ⟨b, off, c, h, _⟩
    · subst h0
      cases h
      obtain rfl := h1 rfl
      have hk0 : k = 0 := by simpa using hk
      subst hk0
      go_wp2_with fail
      go_ret
      exact HFIN.out _ (.inl ⟨rfl, Bare.nil⟩)
    · cases h
  | some ad =>
    by_cases hL0 : L = []
    · subst hL0
      have hk0 : k = 0 := by simpa using hk
      subst hk0
      have hvc : vc ≤ 9223372036854775807 := by
        rcases HV.out with ⟨_, _, _, h, h1, _⟩ | ⟨_, _, _, h, _, _, h1, _⟩
        · cases h; exact h1
        · cases h; exact h1
      go_wp2_with fail
      all_goals go_ret
      all_goals exact HFIN.out _ (.inl ⟨rfl, Bare.at (by omega)⟩)
    · obtain ⟨b, off, sp⟩ := ad
      have hsp : sp = none := by
        rcases HV.out with ⟨h, _⟩ | ⟨b, off, c, h, _⟩
        · exact absurd h hL0
        · cases h; rfl
      subst hsp
      clear hL0
      go_wp2_with fail
      all_goals go_ret
      · exact HFIN.out _ (HV.out.drop2 (by omega) (by omega) (Nat.zero_le _))
      · exact HFIN.out _ (HV.out.drop1 hk rfl rfl rfl)
end Go.Proofs.YtamgjlegcegmeaaGreatDoor.M

/- Part: MouldTake2. -/
namespace Go.Proofs.YtamgjlegcegmeaaGreatDoor.M
open Go.RowKit

def zeroVal : Value := .agg #[.int .u64 0, .slice none 0 0, .slice none 0 0]

def ReadPost (w : World) (rb : Nat) (F : Nat → Prop) (r : Except Int (V × List UInt8)) (e : Ending) (w' : World) : Prop :=
  match r with
  | .error c => e = .returned (.tuple #[.agg #[.int .u64 0, .slice none 0 0, .slice none 0 0], .int .i64 c]) ∧ w.grownBy w' (some rb)
  | .ok (d, l) => ∃ u v, e = .returned (.tuple #[u, .int .i64 0]) ∧ w.grownBy w' (some rb) ∧ ReadAt w' rb v ∧ RepB w' F l v ∧ RepV w' (fun b => w.heap.size ≤ b ∧ b < w'.heap.size) d u

def KindSaid (fn : FuncId) (s : Sh) : Prop := ∀ (rb : Nat) (F G : Nat → Prop) (L : List UInt8) (v pu : Value) (w : World), ReadAt w rb v → RepB w F L v → RepS w G s pu →
  (∀ b, F b → b < w.heap.size ∧ b ≠ rb) → (∀ b, G b → b < w.heap.size ∧ b ≠ rb) → L.length ≤ 1099511627776 → ssize s ≤ 64 →
  Calls Tryz.prog fn #[.pointer (some ⟨rb, 0, none⟩), pu] w (ReadPost w rb F (takeV s L))

theorem takeNum_error {L : List UInt8} {c : Int} (h : takeNum L = .error c) : c = 11 ∨ c = 13 := by
  cases L with
  | nil => simp [takeNum] at h; exact .inl h.symm
  | cons x r =>
    rw [takeNum] at h
    split at h
    · cases h; exact .inr rfl
    · split at h
      · cases h; exact .inr rfl
      · split at h
        · cases h; exact .inl rfl
        · cases h

theorem takeNum_ok {L : List UInt8} {n : Nat} {r : List UInt8} (h : takeNum L = .ok (n, r)) : n < 18446744073709551616 ∧ r.length < L.length := by
  cases L with
  | nil => simp [takeNum] at h
  | cons x l =>
    rw [takeNum] at h
    split at h
    · cases h
    · rename_i h8
      split at h
      · cases h
      · split at h
        · cases h
        · cases h
          refine ⟨?_, by simp; omega⟩
          have h1 := fold256_lt (l.take x.toNat)
          have h2 : (l.take x.toNat).length ≤ 8 := by rw [List.length_take]; omega
          exact Nat.lt_of_lt_of_le h1 (Nat.pow_le_pow_right (n := 256) (by omega) h2)

/-- Behind two new blocks. -/
theorem boxes2 {w : World} {rb : Nat} {v : Value} {F : Nat → Prop} {L : List UInt8} (o1 o2 : Obj) (hr : ReadAt w rb v) (hv : RepB w F L v) (hF : ∀ b, F b → b < w.heap.size ∧ b ≠ rb) :
    ReadAt ((w.alloc o1).alloc o2) rb v ∧ RepB ((w.alloc o1).alloc o2) F L v := by
  refine ⟨old_alloc (old_alloc hr), hv.same (fun _ h => h) fun b hb => ?_⟩
  have := (hF b hb).1
  rw [Below.heap_alloc _ _ _ (by simp; omega), Below.heap_alloc _ _ _ this]

/-- What digits leaves behind two boxes. -/
def DigLeft (w : World) (rb : Nat) (F : Nat → Prop) (o1 o2 : Obj) (r : Except Int (Nat × List UInt8)) (e : Ending) (w' : World) : Prop :=
  w.grownBy w' (some rb) ∧ w'.heap[w.heap.size]? = some o1 ∧ w'.heap[w.heap.size + 1]? = some o2 ∧ match r with
  | .error c => e = .returned (.tuple #[.int .u64 0, .int .i64 c])
  | .ok (n, l) => ∃ v, e = .returned (.tuple #[.int .u64 (n : Int), .int .i64 0]) ∧ ReadAt w' rb v ∧ RepB w' F l v

theorem digits_left (rb : Nat) (F : Nat → Prop) (L : List UInt8) (v : Value) (w : World) (o1 o2 : Obj) (hr : ReadAt w rb v) (hv : RepB w F L v) (hF : ∀ b, F b → b < w.heap.size ∧ b ≠ rb) :
    Calls Tryz.prog 148 #[.pointer (some ⟨rb, 0, none⟩)] ((w.alloc o1).alloc o2) (DigLeft w rb F o1 o2 (takeNum L)) := by
  obtain ⟨hr2, hv2⟩ := boxes2 o1 o2 hr hv hF
  have hrb := lt_of_heap hr
  have h1 : ((w.alloc o1).alloc o2).heap[w.heap.size]? = some o1 := old_alloc (heap_new _ _ _ rfl)
  have h2 : ((w.alloc o1).alloc o2).heap[w.heap.size + 1]? = some o2 := heap_new _ _ _ (by simp)
  have hg : w.grownBy ((w.alloc o1).alloc o2) (some rb) := gb_alloc _ (gb_alloc _ (gb_refl _ _))
  refine (digits_any rb F L v _ hr2 hv2).mono ?_
  intro e w' hp
  cases hq : takeNum L with
  | error c =>
    rw [hq] at hp
    obtain ⟨rfl, rfl⟩ := hp
    exact ⟨hg, h1, h2, rfl⟩
  | ok x =>
    obtain ⟨n, r⟩ := x
    rw [hq] at hp
    obtain ⟨v1, rfl, rfl, hv1⟩ := hp
    refine ⟨gb_set _ _ hg, old_set h1 (by simp; omega), old_set h2 (by simp; omega), v1, rfl, ?_, hv1.same (fun _ h => h) fun b hb => ?_⟩
    · have := heap_setCell_same _ rb 0 _ _ v1 hr2
      simpa [ReadAt] using this
    · rw [Below.heap_setCell _ _ _ _ (by simpa using (hF b hb).2)]

set_option maxRecDepth 20000 in
set_option maxHeartbeats 1600000 in
theorem number_any : KindSaid 140 .num := by
  intro rb F G L v pu w hr hv hs hF hG hL hss
  obtain ⟨sa, sn, sc, rfl⟩ := hs.agg
  have hd := fun o1 o2 => digits_left rb F L _ w o1 o2 hr hv hF
  have hrb := lt_of_heap hr
  have HD := Lib.hid hd
  have HF := Lib.hid hF
  clear hd hr hv hs hF hG
  have HT : Hid (takeV .num L = match takeNum L with | .error e => .error e | .ok (n, r) => .ok (.mk n [] [], r)) := Lib.hid (by rw [takeV]; rfl)
  go_enter Tryz.func140, Tryz.ntmps140
  go_wp2_with fail
  refine (HD.out _ _).mono ?_
  intro e w1 hp
  obtain ⟨hg, -, hb2, hp⟩ := hp
  obtain ⟨d0, d1, d2, g0, g1, g2, hz⟩ := block3 hb2
  have HG := Lib.hid hg
  cases hq : takeNum L with
  | error c =>
    rw [hq] at hp
    subst hp
    have HQ := Lib.hid hq
    clear hq hg hb2
    go_wp2_with fail
    refine bodyPost_ret (v := .tuple #[.agg #[.int .u64 0, .slice none 0 0, .slice none 0 0], .int .i64 c]) (by simp [results, Tryz.results140, go_sem, d0, d1, d2]) rfl ?_
    rw [HT.out, HQ.out]
    exact ⟨rfl, gb_new _ (by omega) (gb_new _ (by omega) (gb_new _ (by omega) HG.out))⟩
  | ok x =>
    obtain ⟨n, r⟩ := x
    rw [hq] at hp
    obtain ⟨v1, rfl, hr1, hv1⟩ := hp
    have HQ := Lib.hid hq
    have HV1 := Lib.hid hv1
    have HR1 := Lib.hid hr1
    clear hq hv1 hr1 hg hb2
    go_wp2_with fail
    refine bodyPost_ret (v := .tuple #[.agg #[.int .u64 (n : Int), .slice none 0 0, .slice none 0 0], .int .i64 0]) (by simp [results, Tryz.results140, go_sem, d0, d1, d2]) rfl ?_
    rw [HT.out, HQ.out]
    refine ⟨_, _, rfl, gb_new _ (by omega) (gb_new _ (by omega) (gb_new _ (by omega) HG.out)), ?_, HV1.out.same (fun _ h => h) fun b hb => ?_, ?_⟩
    · exact old_set (old_set (old_set HR1.out (by simp; omega)) (by simp; omega)) (by simp; omega)
    · have hb2 := HF.out b hb
      simp (disch := (simp; omega)) only [Below.heap_setCell]
    · exact RepV_mk.2 ⟨_, _, rfl, (takeNum_ok HQ.out).1, .inl ⟨rfl, Bare.nil⟩, .inl ⟨rfl, Bare.nil⟩⟩

set_option maxRecDepth 20000 in
set_option maxHeartbeats 1600000 in
theorem blob_any : KindSaid 141 .blob := by
  intro rb F G L v pu w hr hv hs hF hG hL hss
  obtain ⟨sa, sn, sc, rfl⟩ := hs.agg
  have hd := fun o1 o2 => digits_left rb F L _ w o1 o2 hr hv hF
  have hrb := lt_of_heap hr
  have HD := Lib.hid hd
  have HF := Lib.hid hF
  clear hd hr hv hs hF hG
  have HT : Hid (takeV .blob L = match takeNum L with | .error e => .error e | .ok (n, r) => if r.length < n then .error 11 else .ok (.mk 0 (r.take n) [], r.drop n)) := Lib.hid (by rw [takeV]; rfl)
  go_enter Tryz.func141, Tryz.ntmps141
  go_wp2_with fail
  refine (HD.out _ _).mono ?_
  intro e w1 hp
  obtain ⟨hg, -, hb2, hp⟩ := hp
  obtain ⟨d0, d1, d2, g0, g1, g2, hz⟩ := block3 hb2
  have HG := Lib.hid hg
  cases hq : takeNum L with
  | error c =>
    rw [hq] at hp
    subst hp
    have HQ := Lib.hid hq
    have hc0 : (c != 0) = true := by rcases takeNum_error hq with rfl | rfl <;> rfl
    clear hq hg hb2
    go_wp2_with fail
    refine bodyPost_ret (v := .tuple #[.agg #[.int .u64 0, .slice none 0 0, .slice none 0 0], .int .i64 c]) (by simp [results, Tryz.results141, go_sem, d0, d1, d2]) rfl ?_
    rw [HT.out, HQ.out]
    exact ⟨rfl, gb_new _ (by omega) (gb_new _ (by omega) (gb_new _ (by omega) HG.out))⟩
  | ok x =>
    obtain ⟨n, r⟩ := x
    rw [hq] at hp
    obtain ⟨v1, rfl, hr1, hv1⟩ := hp
    have HQ := Lib.hid hq
    have HV1 := Lib.hid hv1
    have HR1 := Lib.hid hr1
    obtain ⟨a1, k1, rfl, hrl⟩ := hv1.slice
    obtain ⟨r0, -, hrb1⟩ := block1 hr1
    have hlt := (takeNum_ok hq).2
    have hn64 : n < 18446744073709551616 := (takeNum_ok hq).1
    have HN : Hid (n < 18446744073709551616) := Lib.hid (takeNum_ok hq).1
    clear hq hv1 hr1
    by_cases hn : r.length < n
    · have hn2 : (r.length : Int) < (n : Int) := by omega
      have HNN := Lib.hid hn
      clear hn64 hg hb2
      go_wp2_with fail
      refine bodyPost_ret (v := .tuple #[.agg #[.int .u64 0, .slice none 0 0, .slice none 0 0], .int .i64 11]) (by simp [results, Tryz.results141, go_sem, d0, d1, d2]) rfl ?_
      rw [HT.out, HQ.out]
      simp only [if_pos HNN.out]
      exact ⟨rfl, gb_new _ (by omega) (gb_new _ (by omega) (gb_new _ (by omega) HG.out))⟩
    · have hn2 : ¬ (r.length : Int) < (n : Int) := by omega
      have hn3 : n ≤ r.length := by omega
      have HNN := Lib.hid hn
      have HC := Lib.hid (cut_any rb F r _ n w1 HR1.out HV1.out (fun b hb => ⟨Nat.lt_of_lt_of_le (HF.out b hb).1 hg.size, (HF.out b hb).2⟩) hn3 (by omega))
      have HB2 := Lib.hid hb2
      clear hn64 hg hn hb2
      go_wp2_with fail
      refine HC.out.mono ?_
      rintro e w2 ⟨u, v2, rfl, hg2, hr2, hv2, hu⟩
      have hb3 := (hg2.block (w.heap.size + 1) hz (by simp; omega)).trans HB2.out
      obtain ⟨d0, d1, d2, g0, g1, g2, hz2⟩ := block3 hb3
      obtain ⟨ua, uc, hue, _⟩ := hu.slice
      rw [List.length_take, Nat.min_eq_left hn3] at hue
      subst hue
      have HG2 := Lib.hid hg2
      have HR2 := Lib.hid hr2
      have HV2 := Lib.hid hv2
      have HU := Lib.hid hu
      clear hg2 hr2 hv2 hu hb3
      go_wp2_with fail
      refine bodyPost_ret (v := .tuple #[.agg #[.int .u64 0, .slice ua n uc, .slice none 0 0], .int .i64 0]) (by simp [results, Tryz.results141, go_sem, d0, d1, d2]) rfl ?_
      rw [HT.out, HQ.out]
      simp only [if_neg HNN.out]
      refine ⟨_, _, rfl, gb_new _ (by omega) (gb_new _ (by omega) (gb_new _ (by omega) (gb_trans HG.out HG2.out))), ?_, HV2.out.same (fun _ h => h) fun b hb => ?_, ?_⟩
      · exact old_set (old_set (old_set HR2.out (by simp; omega)) (by simp; omega)) (by simp; omega)
      · have hb2 := HF.out b hb
        simp (disch := (simp; omega)) only [Below.heap_setCell]
      · refine RepV_mk.2 ⟨_, _, rfl, by omega, HU.out.same (fun b hb => ?_) (fun b hb => ?_), .inl ⟨rfl, Bare.nil⟩⟩
        · simp; have := HG.out.size; omega
        · simp (disch := (simp; omega)) only [Below.heap_setCell]
end Go.Proofs.YtamgjlegcegmeaaGreatDoor.M

/- Part: MouldTake3. -/
namespace Go.Proofs.YtamgjlegcegmeaaGreatDoor.M
open Go.RowKit

def readerFn : Sh → FuncId
  | .num => 140
  | .blob => 141
  | .list _ => 142
  | .row _ => 143

theorem reader_entry (s : Sh) (args : Array Value) (w : World) : (callFunc (readerFn s) args).run Tryz.prog w = .ok (.enter (readerFn s) args) w := by
  cases s <;> simp [readerFn, go_sem]

theorem readerOf_any (s : Sh) (w : World) : Calls Tryz.prog 133 #[.int .u8 (kind s)] w fun e w' => e = .returned (.func (.func (readerFn s)) #[] #[]) ∧ w = w' := by
  cases s
  all_goals
    simp only [kind, readerFn]
    go_enter Tryz.func133, Tryz.ntmps133
    go_wp2_with fail
    go_ret
    exact ⟨rfl, rfl⟩

theorem ReadPost.form {w w' : World} {rb : Nat} {F : Nat → Prop} {r : Except Int (V × List UInt8)} {e : Ending} (h : ReadPost w rb F r e w') :
    ∃ n ab nb cb al nl cl c, e = .returned (.tuple #[.agg #[.int .u64 n, .slice ab nb cb, .slice al nl cl], .int .i64 c]) ∧ w.grownBy w' (some rb) := by
  cases r with
  | error c => exact ⟨_, _, _, _, _, _, _, _, h.1, h.2⟩
  | ok x =>
    obtain ⟨d, l⟩ := x
    obtain ⟨u, v, he, hg, hr, hv, hu⟩ := h
    obtain ⟨n, ab, nb, cb, al, nl, cl, rfl⟩ := hu.form
    exact ⟨_, _, _, _, _, _, _, _, he, hg⟩

/-- The same, seen from an earlier world, and behind stores into blocks that nobody else knows. -/
theorem ReadPost.wrap {w w0 w1 W : World} {rb : Nat} {F : Nat → Prop} {r : Except Int (V × List UInt8)} {e : Ending} (h : ReadPost w0 rb F r e w1) (h0 : w.heap.size ≤ w0.heap.size)
    (hW : ∀ k, k = rb ∨ F k ∨ w0.heap.size ≤ k → W.heap[k]? = w1.heap[k]?) (hg : w.grownBy W (some rb)) (hs : w1.heap.size ≤ W.heap.size) : ReadPost w rb F r e W := by
  cases r with
  | error c => exact ⟨h.1, hg⟩
  | ok x =>
    obtain ⟨d, l⟩ := x
    obtain ⟨u, v, he, _, hr, hv, hu⟩ := h
    exact ⟨u, v, he, hg, (hW rb (.inl rfl)).trans hr, hv.same (fun _ h => h) fun b hb => hW b (.inr (.inl hb)), hu.same (fun b hb => by omega) fun b hb => hW b (.inr (.inr hb.1))⟩

set_option maxRecDepth 20000 in
set_option maxHeartbeats 1600000 in
theorem value_of {s : Sh} (hk : KindSaid (readerFn s) s) : KindSaid 124 s := by
  intro rb F G L v pu w hr hv hs hF hG hL hss
  obtain ⟨sa, sn, sc, rfl⟩ := hs.agg
  have hrb := lt_of_heap hr
  have hcall := fun o1 o2 => hk rb F G L v (.agg #[.int .u8 (kind s), .slice sa sn sc, .bool (solid s)]) ((w.alloc o1).alloc o2).drew (boxes2 o1 o2 hr hv hF).1 (boxes2 o1 o2 hr hv hF).2
    (hs.same (fun _ h => h) fun b hb => by
      have := (hG b hb).1
      show ((w.alloc o1).alloc o2).heap[b]? = _
      rw [Below.heap_alloc _ _ _ (by simp; omega), Below.heap_alloc _ _ _ this])
    (fun b hb => ⟨by have := (hF b hb).1; simp; omega, (hF b hb).2⟩) (fun b hb => ⟨by have := (hG b hb).1; simp; omega, (hG b hb).2⟩) hL hss
  have HC := Lib.hid hcall
  have HRO := Lib.hid (readerOf_any s)
  have HF := Lib.hid hF
  have hent := reader_entry s
  clear hcall hk hr hv hs hF hG
  generalize readerFn s = fn at *
  generalize takeV s L = TV at *
  go_enter Tryz.func124, Tryz.ntmps124
  go_wp2_with fail
  go_region_law (first | (go_simp; go_at_call 133; refine (HRO.out _).mono ?_; rintro e w1 ⟨rfl, rfl⟩) | (go_simp; refine (HC.out _ _).mono ?_; intro e w1 hp; obtain ⟨n, ab, nb, cb, al, nl, cl, c, rfl, hg⟩ := hp.form; have hb2 := hg.block (w.heap.size + 1) (by simp) (by simp; omega); obtain ⟨d0, d1, d2, g0, g1, g2, hz⟩ := block3 (hb2.trans (heap_new _ _ _ (by simp))); have HP := Lib.hid hp; have HG := Lib.hid hg; clear hp hg hb2))
  all_goals go_wp2_with fail
  all_goals refine bodyPost_ret (v := .tuple #[.agg #[.int .u64 n, .slice ab nb cb, .slice al nl cl], .int .i64 c]) (by simp [results, Tryz.results124, go_sem, d0, d1, d2]) rfl ?_
  all_goals refine HP.out.wrap (by simp; omega) ?_ ?_ (by simp)
  all_goals first | exact gb_new _ (by simp) (gb_new _ (by simp) (gb_new _ (by simp) (gb_trans (gb_drew (gb_alloc _ (gb_alloc _ (gb_refl _ _)))) HG.out))) | skip
  all_goals
    intro k hk
    have hkne : k ≠ w.heap.size + 1 := by
      rcases hk with rfl | hk | hk
      · omega
      · have := (HF.out k hk).1; omega
      · simp at hk; omega
    simp (disch := (simp; omega)) only [Below.heap_setCell]
end Go.Proofs.YtamgjlegcegmeaaGreatDoor.M

/- Part: MouldTake4. -/
namespace Go.Proofs.YtamgjlegcegmeaaGreatDoor.M
open Go.RowKit

/-- What a reading may answer. -/
def Fair (b : List UInt8) {α : Type} (r : Except Int (α × List UInt8)) : Prop :=
  match r with
  | .error c => c = 11 ∨ c = 13
  | .ok (_, l) => l.length ≤ b.length

theorem fair_num (b : List UInt8) : Fair b (takeNum b) := by
  cases h : takeNum b with
  | error c => exact takeNum_error h
  | ok x => obtain ⟨n, r⟩ := x; exact Nat.le_of_lt (takeNum_ok h).2

theorem fair_many {t : List UInt8 → Except Int (V × List UInt8)} (ht : ∀ b, Fair b (t b)) : ∀ (n : Nat) (b : List UInt8), Fair b (takeMany t n b)
  | 0, b => by unfold takeMany Fair; simp
  | n + 1, b => by
    rw [takeMany]
    have h1 := ht b
    cases h : t b with
    | error c => rw [h] at h1; exact h1
    | ok x =>
      obtain ⟨v, b'⟩ := x
      rw [h] at h1
      have h2 := fair_many ht n b'
      dsimp only
      cases h' : takeMany t n b' with
      | error c => rw [h'] at h2; exact h2
      | ok y =>
        obtain ⟨l, b''⟩ := y
        rw [h'] at h2
        exact Nat.le_trans h2 h1

mutual
theorem fair_take : ∀ (s : Sh) (b : List UInt8), Fair b (takeV s b)
  | .num, b => by
    have h1 := fair_num b
    rw [takeV]
    cases h : takeNum b with
    | error c => rw [h] at h1; exact h1
    | ok x => obtain ⟨n, r⟩ := x; rw [h] at h1; exact h1
  | .blob, b => by
    have h1 := fair_num b
    rw [takeV]
    cases h : takeNum b with
    | error c => rw [h] at h1; exact h1
    | ok x =>
      obtain ⟨n, r⟩ := x
      rw [h] at h1
      dsimp only
      split
      · exact .inl rfl
      · unfold Fair at h1 ⊢
        simp only [List.length_drop]
        dsimp only at h1
        omega
  | .list s, b => by
    have h1 := fair_num b
    rw [takeV]
    cases h : takeNum b with
    | error c => rw [h] at h1; exact h1
    | ok x =>
      obtain ⟨n, r⟩ := x
      rw [h] at h1
      dsimp only
      split
      · exact .inl rfl
      · split
        · exact .inr rfl
        · have h2 := fair_many (fair_take s) n r
          cases h' : takeMany (takeV s) n r with
          | error c => rw [h'] at h2; exact h2
          | ok y => obtain ⟨l, r'⟩ := y; rw [h'] at h2; exact Nat.le_trans h2 h1
  | .row l, b => by
    have h1 := fair_takes l b
    rw [takeV]
    cases h : takeVs l b with
    | error c => rw [h] at h1; exact h1
    | ok x => obtain ⟨n, r⟩ := x; rw [h] at h1; exact h1
theorem fair_takes : ∀ (l : List Sh) (b : List UInt8), Fair b (takeVs l b)
  | [], b => by rw [takeVs]; unfold Fair; simp
  | s :: l, b => by
    have h1 := fair_take s b
    rw [takeVs]
    cases h : takeV s b with
    | error c => rw [h] at h1; exact h1
    | ok x =>
      obtain ⟨v, b'⟩ := x
      rw [h] at h1
      have h2 := fair_takes l b'
      dsimp only
      cases h' : takeVs l b' with
      | error c => rw [h'] at h2; exact h2
      | ok y => obtain ⟨vs, b''⟩ := y; rw [h'] at h2; exact Nat.le_trans h2 h1
end

/-- Values read already, ahead of what is read then. -/
def catV (ds : List V) (r : Except Int (List V × List UInt8)) : Except Int (List V × List UInt8) :=
  match r with
  | .error c => .error c
  | .ok (l, b) => .ok (ds ++ l, b)

theorem catV_nil (r : Except Int (List V × List UInt8)) : r = catV [] r := by cases r <;> rfl

theorem catV_step {t : List UInt8 → Except Int (V × List UInt8)} {n : Nat} {b r : List UInt8} {d : V} {ds : List V} (h : t b = .ok (d, r)) : catV ds (takeMany t (n + 1) b) = catV (ds ++ [d]) (takeMany t n r) := by
  rw [takeMany, h]
  dsimp only
  cases h' : takeMany t n r with
  | error c => rfl
  | ok y => obtain ⟨l, b'⟩ := y; simp [catV]

theorem catV_fails {t : List UInt8 → Except Int (V × List UInt8)} {n : Nat} {b : List UInt8} {c : Int} {ds : List V} (h : t b = .error c) : catV ds (takeMany t (n + 1) b) = .error c := by
  rw [takeMany, h]; rfl

theorem catV_ends {t : List UInt8 → Except Int (V × List UInt8)} {b : List UInt8} {ds : List V} : catV ds (takeMany t 0 b) = .ok (ds, b) := by
  rw [takeMany]; simp [catV]

theorem catR_step {s : Sh} {l : List Sh} {b r : List UInt8} {d : V} {ds : List V} (h : takeV s b = .ok (d, r)) : catV ds (takeVs (s :: l) b) = catV (ds ++ [d]) (takeVs l r) := by
  rw [takeVs, h]
  dsimp only
  cases h' : takeVs l r with
  | error c => rfl
  | ok y => obtain ⟨l, b'⟩ := y; simp [catV]

theorem catR_fails {s : Sh} {l : List Sh} {b : List UInt8} {c : Int} {ds : List V} (h : takeV s b = .error c) : catV ds (takeVs (s :: l) b) = .error c := by
  rw [takeVs, h]; rfl

theorem catR_ends {b : List UInt8} {ds : List V} : catV ds (takeVs [] b) = .ok (ds, b) := by
  rw [takeVs]; simp [catV]

theorem infoVal : (Tryz.prog.info? 95).map (fun i => (i.zero, i.size, i.bytes)) = some (some (.agg #[.int .u64 0, .slice none 0 0, .slice none 0 0]), 3, 56) := by kernel_rfl

/-- The values gathered so far by a call that began in w, and what is left of the bytes. -/
structure Gather (w : World) (rb : Nat) (F : Nat → Prop) (o1 o2 : Obj) (ds : List V) (va : Option Addr) (vn vc : Nat) (lk : List UInt8) (wr : World) : Prop where
  grown : w.grownBy wr (some rb)
  box1 : wr.heap[w.heap.size]? = some o1
  box2 : wr.heap[w.heap.size + 1]? = some o2
  left : ∃ v, ReadAt wr rb v ∧ RepB wr F lk v
  owns : ∃ xs, wr.ownsRow (w.heap.size + 2) 95 3 (.slice va vn vc) ds.length xs ∧ Kids (RepV wr fun b => w.heap.size + 2 ≤ b ∧ b < wr.heap.size ∧ (Value.slice va vn vc).ownBlock ≠ some b) ds xs

/-- The world moves on without touching what was gathered. -/
theorem Gather.next {w wr w1 : World} {rb : Nat} {F : Nat → Prop} {o1 o2 : Obj} {ds : List V} {va : Option Addr} {vn vc : Nat} {lk l1 : List UInt8} {v1 : Value} (h : Gather w rb F o1 o2 ds va vn vc lk wr) (hrb : rb < w.heap.size)
    (hg : wr.grownBy w1 (some rb)) (hr : ReadAt w1 rb v1) (hv : RepB w1 F l1 v1) : Gather w rb F o1 o2 ds va vn vc l1 w1 := by
  obtain ⟨hg0, h1, h2, _, xs, hown, hk⟩ := h
  have hz1 := lt_of_heap h1
  have hz2 := lt_of_heap h2
  refine ⟨gb_trans hg0 hg, (hg.block _ hz1 (by simp; omega)).trans h1, (hg.block _ hz2 (by simp; omega)).trans h2, ⟨v1, hr, hv⟩, xs, hown.kept hg ?_, hk.mono fun s u hu => hu.same ?_ ?_⟩
  · cases ho : (Value.slice va vn vc).ownBlock with
    | none => exact .inl rfl
    | some k =>
      have := (hown.lt k ho).1
      exact .inr (by simp; omega)
  · intro b ⟨a1, a2, a3⟩
    exact ⟨a1, Nat.lt_of_lt_of_le a2 hg.size, a3⟩
  · intro b ⟨a1, a2, a3⟩
    exact hg.block b a2 (by simp; omega)

/-- One value more is appended. -/
theorem Gather.push {w w1 w4 : World} {rb : Nat} {F : Nat → Prop} {o1 o2 o3 o4 : Obj} {ds : List V} {d : V} {va va' : Option Addr} {vn vn' vc vc' lo : Nat} {lk : List UInt8} {x y z : Value} {xs : List Value} {n : Nat}
    (h : Gather w rb F o1 o2 ds va vn vc lk w1) (hrb : rb < w.heap.size) (hF : ∀ b, F b → b < w.heap.size ∧ b ≠ rb) (hd : RepV w1 (fun b => lo ≤ b ∧ b < w1.heap.size) d (.agg #[x, y, z])) (hlo : w.heap.size + 2 ≤ lo)
    (hown1 : w1.ownsRow (w.heap.size + 2) 95 3 (.slice va vn vc) ds.length xs) (hkids : Kids (RepV w1 fun b => w.heap.size + 2 ≤ b ∧ b < w1.heap.size ∧ (Value.slice va vn vc).ownBlock ≠ some b) ds xs)
    (hlo2 : ∀ k, (Value.slice va vn vc).ownBlock = some k → k < lo)
    (hown : w4.ownsRow (w.heap.size + 2) 95 3 (.slice va' vn' vc') n (xs ++ [x, y, z])) (hn : n = ds.length + 1)
    (hg : ((w1.alloc o3).alloc o4).grownBy w4 (Value.slice va vn vc).ownBlock)
    (hwhere : (Value.slice va' vn' vc').ownBlock = (Value.slice va vn vc).ownBlock ∨ (Value.slice va' vn' vc').ownBlock = some (w1.heap.size + 2)) :
    Gather w rb F o1 o2 (ds ++ [d]) va' vn' vc' lk w4 := by
  obtain ⟨hg0, h1, h2, ⟨v, hr, hv⟩, _⟩ := h
  have hz := hg.size
  simp at hz
  have hz2 := lt_of_heap h2
  have hne : ∀ k, k < w.heap.size + 2 → (Value.slice va vn vc).ownBlock ≠ some k := fun k hk h => by
    have := (hown1.lt k h).1; omega
  have hkeep : ∀ k, k < w1.heap.size → (Value.slice va vn vc).ownBlock ≠ some k → w4.heap[k]? = w1.heap[k]? := fun k hk hn => by
    rw [hg.block k (by simp; omega) (fun h => hn h.symm), Below.heap_alloc _ _ _ (by simp; omega), Below.heap_alloc _ _ _ hk]
  have hnew : ∀ b, b < w1.heap.size → (Value.slice va vn vc).ownBlock ≠ some b → (Value.slice va' vn' vc').ownBlock ≠ some b := fun b hb hn h => by
    rcases hwhere with h5 | h5
    · exact hn (h5.symm.trans h)
    · rw [h] at h5; simp at h5; omega
  subst hn
  refine ⟨⟨hg.os.trans hg0.os, hg.tape.trans hg0.tape, hg.output.trans hg0.output, by have := hg0.size; omega, fun k hk hn => ?_⟩, (hkeep _ (by omega) (hne _ (by omega))).trans h1, (hkeep _ hz2 (hne _ (by omega))).trans h2,
    ⟨v, (hkeep rb (by omega) (hne rb (by omega))).trans hr, hv.same (fun _ h => h) fun b hb => hkeep b (by have := (hF b hb).1; omega) (hne b (by have := (hF b hb).1; omega))⟩,
    xs ++ [x, y, z], by rw [List.length_append, List.length_singleton]; exact hown, Kids.snoc (hd.same ?_ ?_) (hkids.mono fun s u hu => hu.same ?_ ?_)⟩
  · have := hg0.size
    rw [hkeep k (by omega) (hne k (by omega))]
    exact hg0.block k hk hn
  · intro b ⟨a1, a2⟩
    exact ⟨by omega, by omega, hnew b a2 fun h => by have := hlo2 b h; omega⟩
  · intro b ⟨a1, a2⟩
    exact hkeep b a2 fun h => by have := hlo2 b h; omega
  · intro b ⟨a1, a2, a3⟩
    exact ⟨a1, by omega, hnew b a2 a3⟩
  · intro b ⟨a1, a2, a3⟩
    exact hkeep b a2 a3
end Go.Proofs.YtamgjlegcegmeaaGreatDoor.M

/- Part: MouldTake5. -/
namespace Go.Proofs.YtamgjlegcegmeaaGreatDoor.M
open Go.RowKit

theorem Gather.ends {w wr : World} {rb : Nat} {F : Nat → Prop} {o1 o2 : Obj} {ds : List V} {va : Option Addr} {vn vc : Nat} {lk : List UInt8} (h : Gather w rb F o1 o2 ds va vn vc lk wr) :
    RepVl wr (fun b => w.heap.size ≤ b ∧ b < wr.heap.size) ds (.slice va vn vc) := by
  obtain ⟨xs, hown, hk⟩ := h.owns
  rcases owned_kids hown hk with h1 | ⟨b, c', hv, ho, hb, hlt, h3, h4, hx⟩
  · exact .inl ⟨h1.1, by rw [h1.2]; exact Bare.nil⟩
  · refine .inr ⟨b, 0, c', hv, ⟨by omega, hlt⟩, h3, h4, RepVs.of ds fun i hi => ?_⟩
    obtain ⟨u, ha, hu⟩ := hx i hi
    exact ⟨u, ha, hu.same (fun k h => ⟨by omega, h.2.1⟩) fun _ _ => rfl⟩

/-- What a gathering call hands back, its result laid into its second box. -/
theorem Gather.done {w wr : World} {rb : Nat} {F : Nat → Prop} {o1 o2 : Obj} {ds : List V} {va : Option Addr} {vn vc : Nat} {lk : List UInt8} (h : Gather w rb F o1 o2 ds va vn vc lk wr) (hrb : rb < w.heap.size)
    (hF : ∀ b, F b → b < w.heap.size ∧ b ≠ rb) (x y z : Value) :
    ReadPost w rb F (.ok (.mk 0 [] ds, lk)) (.returned (.tuple #[.agg #[.int .u64 0, .slice none 0 0, .slice va vn vc], .int .i64 0]))
      (((wr.setCell ⟨w.heap.size + 1, 0, none⟩ x).setCell ⟨w.heap.size + 1, 1, none⟩ y).setCell ⟨w.heap.size + 1, 2, none⟩ z) := by
  obtain ⟨v, hr, hv⟩ := h.left
  obtain ⟨xs, hown, hk⟩ := h.owns
  have hz2 := lt_of_heap h.box2
  refine ⟨_, v, rfl, gb_new _ (by omega) (gb_new _ (by omega) (gb_new _ (by omega) h.grown)), ?_, hv.same (fun _ h => h) fun b hb => ?_, RepV_mk.2 ⟨_, _, rfl, by omega, .inl ⟨rfl, Bare.nil⟩, ?_⟩⟩
  · exact old_set (old_set (old_set hr (by simp; omega)) (by simp; omega)) (by simp; omega)
  · have := (hF b hb).1
    simp (disch := (simp; omega)) only [Below.heap_setCell]
  · rcases owned_kids hown hk with h1 | ⟨b, c', hv, ho, hb, hlt, h3, h4, hx⟩
    · exact .inl ⟨h1.1, by rw [h1.2]; exact Bare.nil⟩
    · refine .inr ⟨b, 0, c', hv, ⟨by omega, by simp; omega⟩, h3, h4, RepVs.of ds fun i hi => ?_⟩
      obtain ⟨u, ha, hu⟩ := hx i hi
      refine ⟨u, ha.same ?_, hu.same (fun k h => ⟨by omega, by simp; omega⟩) fun k hk2 => ?_⟩
      · simp (disch := (simp; omega)) only [Below.heap_setCell]
      · have := hk2.1
        simp (disch := (simp; omega)) only [Below.heap_setCell]

set_option maxRecDepth 20000 in
set_option maxHeartbeats 3200000 in
theorem list_any {s : Sh} (ih : KindSaid 124 s) : KindSaid 142 (.list s) := by
  intro rb F G L v pu w hr hv hs hF hG hL hss
  have hss2 : ssize s ≤ 64 := by simp only [ssize] at hss; omega
  have HSS := Lib.hid hss2
  clear hss hss2
  unfold RepS at hs
  obtain ⟨pb, poff, pc, pu1, rfl, hpb, hpat, hpu1⟩ := hs
  obtain ⟨psa, psn, psc, rfl⟩ := hpu1.agg
  have hd := fun o1 o2 => digits_left rb F L _ w o1 o2 hr hv hF
  have hrb := lt_of_heap hr
  have hpbl := hG pb hpb
  have HD := Lib.hid hd
  have HF := Lib.hid hF
  have HG := Lib.hid hG
  have HPAT := Lib.hid hpat
  have HPU := Lib.hid hpu1
  have HIH := Lib.hid ih
  have hpb1 : pb < w.heap.size := hpbl.1
  have hpb2 : pb ≠ rb := hpbl.2
  clear hd hr hv hF hG hpat hpu1 ih hpbl
  obtain ⟨iv, hiv, hiv0, hiv1, hiv2⟩ := info_parts infoVal
  have HT : Hid (takeV (.list s) L = match takeNum L with
    | .error e => .error e
    | .ok (n, r) =>
      if solid s = true ∧ r.length < n then .error 11
      else if solid s = false ∧ 1048576 < n then .error 13
      else match takeMany (takeV s) n r with
        | .error e => .error e
        | .ok (l, r') => .ok (.mk 0 [] l, r')) := Lib.hid (by rw [takeV]; rfl)
  go_enter Tryz.func142, Tryz.ntmps142
  go_wp2_with fail
  refine (HD.out _ _).mono ?_
  intro e w1 hp
  obtain ⟨hg, hb1, hb2, hp⟩ := hp
  obtain ⟨c0, c1, c2, -, -, -, hz1⟩ := block3 hb1
  obtain ⟨d0, d1, d2, g0, g1, g2, hz⟩ := block3 hb2
  have HGB := Lib.hid hg
  cases hq : takeNum L with
  | error c =>
    rw [hq] at hp
    subst hp
    have HQ := Lib.hid hq
    have hc0 : (c != 0) = true := by rcases takeNum_error hq with rfl | rfl <;> rfl
    clear hq hg hb2 hb1
    go_wp2_with fail
    refine bodyPost_ret (v := .tuple #[.agg #[.int .u64 0, .slice none 0 0, .slice none 0 0], .int .i64 c]) (by simp [results, Tryz.results142, go_sem, d0, d1, d2, hz]) rfl ?_
    rw [HT.out, HQ.out]
    exact ⟨rfl, gb_new _ (by omega) (gb_new _ (by omega) (gb_new _ (by omega) HGB.out))⟩
  | ok x =>
    obtain ⟨n, r⟩ := x
    rw [hq] at hp
    obtain ⟨v1, rfl, hr1, hv1⟩ := hp
    have HQ := Lib.hid hq
    have HV1 := Lib.hid hv1
    have HR1 := Lib.hid hr1
    obtain ⟨a1, k1, rfl, hrl⟩ := hv1.slice
    obtain ⟨r0, -, hrb1⟩ := block1 hr1
    have hlt := (takeNum_ok hq).2
    have HN : Hid (n < 18446744073709551616) := Lib.hid (takeNum_ok hq).1
    have hpb3 : w1.heap[pb]? = w.heap[pb]? := hg.block pb hpb1 (by simpa using hpb2)
    obtain ⟨x, y, z, hxyz, p0, p1, p2⟩ := HPAT.out.same (w' := w1) hpb3
    cases hxyz
    have HB1 := Lib.hid hb1
    have HB2 := Lib.hid hb2
    clear hq hv1 hr1 hpb3 hg hb1 hb2
    have HT2 : Hid (takeV (.list s) L = if solid s = true ∧ r.length < n then .error 11 else if solid s = false ∧ 1048576 < n then .error 13
      else match takeMany (takeV s) n r with | .error e => .error e | .ok (l, r') => .ok (.mk 0 [] l, r')) := Lib.hid (by rw [HT.out, HQ.out])
    clear HT
    by_cases hA : solid s = true ∧ r.length < n
    · have hso := hA.1
      have hn2 : (r.length : Int) < (n : Int) := by have := hA.2; omega
      have HA := Lib.hid hA
      clear hA
      rw [hso] at p2
      have HSO := Lib.hid hso
      clear hso
      go_wp2_with fail
      refine bodyPost_ret (v := .tuple #[.agg #[.int .u64 0, .slice none 0 0, .slice none 0 0], .int .i64 11]) (by simp [results, Tryz.results142, go_sem, d0, d1, d2, hz]) rfl ?_
      rw [HT2.out]
      simp only [if_pos HA.out]
      exact ⟨rfl, gb_new _ (by omega) (gb_new _ (by omega) (gb_new _ (by omega) HGB.out))⟩
    by_cases hB : solid s = false ∧ 1048576 < n
    · have hso := hB.1
      have hn2 : (1048576 : Int) < (n : Int) := by have := hB.2; omega
      have HA := Lib.hid hA
      have HBB := Lib.hid hB
      clear hA hB
      rw [hso] at p2
      have HSO := Lib.hid hso
      clear hso
      go_wp2_with fail
      refine bodyPost_ret (v := .tuple #[.agg #[.int .u64 0, .slice none 0 0, .slice none 0 0], .int .i64 13]) (by simp [results, Tryz.results142, go_sem, d0, d1, d2, hz]) rfl ?_
      rw [HT2.out]
      simp only [if_neg HA.out, if_pos HBB.out]
      exact ⟨rfl, gb_new _ (by omega) (gb_new _ (by omega) (gb_new _ (by omega) HGB.out))⟩
    have hn40 : n ≤ 1099511627776 := by
      cases hso : solid s with
      | true => have : ¬ r.length < n := fun h => hA ⟨hso, h⟩
                omega
      | false => have : ¬ 1048576 < n := fun h => hB ⟨hso, h⟩
                 omega
    have HT3 : Hid (takeV (.list s) L = match takeMany (takeV s) n r with | .error e => .error e | .ok (l, r') => .ok (.mk 0 [] l, r')) := Lib.hid (by rw [HT2.out, if_neg hA, if_neg hB])
    have hgath : Gather w rb F (.cells #[.int .u8 42, .slice (some ⟨pb, poff, none⟩) 1 pc, .bool true] 123) (.cells #[.int .u64 0, .slice none 0 0, .slice none 0 0] 95) [] none 0 0 r w1 :=
      ⟨HGB.out, HB1.out, HB2.out, ⟨_, HR1.out, HV1.out⟩, [], World.ownsRow_nil _ _ _ _, rfl⟩
    have HGA := Lib.hid hgath
    clear hgath HT2
    have key : ∀ so, so = solid s → (so = true → ¬ (r.length : Int) < (n : Int)) ∧ (so = false → ¬ (1048576 : Int) < (n : Int)) := by
      rintro so rfl
      exact ⟨fun h h2 => hA ⟨h, by omega⟩, fun h h2 => hB ⟨h, by omega⟩⟩
    clear hA hB
    cases hso : solid s
    case' true =>
      have hn2 := (key true hso.symm).1 rfl
      have hn3 : decide (r.length < n) = false := decide_eq_false (by omega)
    case' false =>
      have hn2 := (key false hso.symm).2 rfl
      have hn3 := decide_eq_false hn2
    all_goals
      rw [hso] at p2
      have HSO := Lib.hid hso
      clear key hso
      go_wp2_with fail
      go_loopw [8, 48] (fun vs i wr => ∃ (k : Nat) (ds : List V) (va : Option Addr) (vn vc : Nat) (lk : List UInt8), vs = .slice va vn vc ∧ i = .int .u64 (k : Int) ∧ k ≤ n ∧ ds.length = k ∧ lk.length ≤ r.length ∧
          takeMany (takeV s) n r = catV ds (takeMany (takeV s) (n - k) lk) ∧
          Gather w rb F (.cells #[.int .u8 42, .slice (some ⟨pb, poff, none⟩) 1 pc, .bool true] 123) (.cells #[.int .u64 0, .slice none 0 0, .slice none 0 0] 95) ds va vn vc lk wr) (fun _ i _ => n - (intOf i).toNat)
      case atStart => exact ⟨0, [], none, 0, 0, r, rfl, rfl, by omega, rfl, Nat.le_refl _, catV_nil _, HGA.out⟩
      case round =>
        obtain ⟨k, ds, va, vn, vc, lk, rfl, rfl, hk, hds, hlk, hspec, hga⟩ := hrel
        have HSP := Lib.hid hspec
        have HGA2 := Lib.hid hga
        have HDS := Lib.hid hds
        have hb1 := hga.box1
        have hb2 := hga.box2
        have hgr := hga.grown
        obtain ⟨vl, hrl1, hvl1⟩ := hga.left
        obtain ⟨c0, c1, c2, -, -, -, hz1⟩ := block3 hb1
        obtain ⟨d0, d1, d2, g0, g1, g2, hz⟩ := block3 hb2
        by_cases hkn : k < n
        · have hpb3 : wr.heap[pb]? = w.heap[pb]? := hgr.block pb hpb1 (by simpa using hpb2)
          obtain ⟨x, y, z, hxyz, p0, p1, p2⟩ := HPAT.out.same (w' := wr) hpb3
          cases hxyz
          have HC := Lib.hid (HIH.out rb F G lk vl _ wr hrl1 hvl1 (HPU.out.same (fun _ h => h) fun b hb => hgr.block b (HG.out b hb).1 (by have := (HG.out b hb).2; simpa using this))
            (fun b hb => ⟨Nat.lt_of_lt_of_le (HF.out b hb).1 hgr.size, (HF.out b hb).2⟩) (fun b hb => ⟨Nat.lt_of_lt_of_le (HG.out b hb).1 hgr.size, (HG.out b hb).2⟩) (by omega) HSS.out)
          clear hspec hga hb1 hb2 hrl1 hvl1 hpb3 hds hgr
          go_wp2_with fail
          refine HC.out.mono ?_
          intro e w2 hp
          have hfair := fair_take s lk
          cases hq : takeV s lk with
          | error c =>
            rw [hq] at hp hfair
            obtain ⟨rfl, hg2⟩ := hp
            have hc0 : (c != 0) = true := by rcases hfair with rfl | rfl <;> rfl
            have HQ2 := Lib.hid hq
            have hb2 := (hg2.block _ hz (by simp; omega)).trans HGA2.out.box2
            obtain ⟨d0, d1, d2, g0, g1, g2, hz⟩ := block3 hb2
            have HG2 := Lib.hid hg2
            clear hq hg2 hb2 hfair
            go_wp2_with fail
            refine bodyPost_ret (v := .tuple #[.agg #[.int .u64 0, .slice none 0 0, .slice none 0 0], .int .i64 c]) (by simp [results, Tryz.results142, go_sem, d0, d1, d2, hz]) rfl ?_
            rw [HT3.out, HSP.out, show n - k = (n - k - 1) + 1 from by omega, catV_fails HQ2.out]
            exact ⟨rfl, gb_alloc _ (gb_new _ (by omega) (gb_new _ (by omega) (gb_new _ (by omega) (gb_trans HGA2.out.grown HG2.out))))⟩
          | ok x =>
            obtain ⟨d, l1⟩ := x
            rw [hq] at hp hfair
            obtain ⟨u, v2, rfl, hg2, hr2, hv2, hu⟩ := hp
            have hl1 : l1.length ≤ lk.length := hfair
            have hga3 := HGA2.out.next hrb hg2 hr2 hv2
            have HQ2 := Lib.hid hq
            have HU := Lib.hid hu
            obtain ⟨en, eab, enb, ecb, eal, enl, ecl, rfl⟩ := hu.form
            obtain ⟨xs, hown, hkids⟩ := hga3.owns
            have hown0 : ∀ j, (Value.slice va vn vc).ownBlock = some j → j < wr.heap.size := fun j hj => by
              obtain ⟨xs0, hown0, _⟩ := HGA2.out.owns
              exact (hown0.lt j hj).2
            have HO0 := Lib.hid hown0
            have HKI := Lib.hid hkids
            have HG3 := Lib.hid hga3
            have hzz := hg2.size
            rw [HDS.out] at hown
            have HG22 := Lib.hid hg2
            clear hq hg2 hfair hr2 hv2 hu hga3 hkids hown0
            go_wp2_with (at_builtin; refine wpList_append_own2 _ rfl (.tmp 63) (.tmp 65) 93 rfl (w.heap.size + 2) 95 iv (.agg #[.int .u64 0, .slice none 0 0, .slice none 0 0]) 3 56 Tryz.underlying93 hiv hiv0 hiv1 hiv2 rfl (by decide) _ _ _ rfl ((hown.alloc _).alloc _) ⟨w2.heap.size + 1, 0, none⟩ 1 1 [.int .u64 en, .slice eab enb ecb, .slice eal enl ecl] rfl rfl ?c1 ?c2 ?c3 ?c4 ?c5 ?_)
            case c1 => exact three_new (by simp)
            case c2 => intro u hu; simp at hu; rcases hu with rfl | rfl | rfl <;> rfl
            case c3 => unfold maxLen; omega
            case c4 => omega
            case c5 => simp; omega
            intro v' w4 hown2 hg4 _ hwhere
            obtain ⟨a', c', hv'⟩ := owned_slice hown2
            subst hv'
            have hga4 := HG3.out.push (o3 := .cells #[.int .u64 en, .slice eab enb ecb, .slice eal enl ecl] 95) (o4 := .cells #[.int .u64 en, .slice eab enb ecb, .slice eal enl ecl] 95) hrb HF.out HU.out (by omega) (by rw [HDS.out]; exact hown) HKI.out HO0.out hown2 (by rw [HDS.out]) hg4 (by simpa using hwhere)
            have HG4 := Lib.hid hga4
            have HLEN : Hid ((ds ++ [d]).length = k + 1) := Lib.hid (by rw [List.length_append, HDS.out]; rfl)
            clear hown hown2 hg4 hwhere hga4
            go_wp2_with fail
            go_roundw
            case rel =>
              have hr : ∃ (k_1 : Nat) (ds : List V) (va : Option Addr) (vn vc : Nat) (lk : List UInt8), Value.slice a' (k + 1) c' = .slice va vn vc ∧ Value.int .u64 ((k : Int) + 1) = .int .u64 (k_1 : Int) ∧ k_1 ≤ n ∧ ds.length = k_1 ∧ lk.length ≤ r.length ∧
                  takeMany (takeV s) n r = catV ds (takeMany (takeV s) (n - k_1) lk) ∧
                  Gather w rb F (.cells #[.int .u8 42, .slice (some ⟨pb, poff, none⟩) 1 pc, .bool true] 123) (.cells #[.int .u64 0, .slice none 0 0, .slice none 0 0] 95) ds va vn vc lk w4 :=
                ⟨k + 1, ds ++ [d], a', k + 1, c', l1, rfl, by go_num, by omega, HLEN.out, by omega, by rw [HSP.out, show n - k = (n - (k + 1)) + 1 from by omega, catV_step HQ2.out], HG4.out⟩
              first | exact hr | ((repeat apply Exists.intro); exact ⟨hr, rfl⟩)
            case measure => simp [intOf]; omega
        · have HK : Hid (n - k = 0) := Lib.hid (by omega)
          clear hspec hga hb1 hb2 hrl1 hvl1 hds hgr
          go_wp2_with fail
          refine bodyPost_ret (v := .tuple #[.agg #[.int .u64 0, .slice none 0 0, .slice va vn vc], .int .i64 0]) (by simp [results, Tryz.results142, go_sem, d0, d1, d2, hz]) rfl ?_
          rw [HT3.out, HSP.out, HK.out, catV_ends]
          exact HGA2.out.done hrb HF.out _ _ _
end Go.Proofs.YtamgjlegcegmeaaGreatDoor.M

/- Part: MouldTake6. -/
namespace Go.Proofs.YtamgjlegcegmeaaGreatDoor.M
open Go.RowKit

set_option maxRecDepth 20000 in
set_option maxHeartbeats 3200000 in
theorem row_any {l : List Sh} (ih : ∀ s ∈ l, KindSaid 124 s) : KindSaid 143 (.row l) := by
  intro rb F G L v pu w hr hv hs hF hG hL hss
  have hll := ssizes_length l
  have hlen : l.length ≤ 64 := by simp only [ssize] at hss; omega
  have HSS : Hid (∀ s ∈ l, ssize s ≤ 64) := Lib.hid fun s hs => by
    have := ssizes_mem l s hs
    simp only [ssize] at hss
    omega
  clear hss hll
  obtain ⟨pa, pc, rfl, hps⟩ := hs.row
  have hrb := lt_of_heap hr
  obtain ⟨iv, hiv, hiv0, hiv1, hiv2⟩ := info_parts infoVal
  have hgath : Gather w rb F (.cells #[.int .u8 91, .slice pa l.length pc, .bool (solids l)] 123) (.cells #[.int .u64 0, .slice none 0 0, .slice none 0 0] 95) [] none 0 0 L
      ((w.alloc (.cells #[.int .u8 91, .slice pa l.length pc, .bool (solids l)] 123)).alloc (.cells #[.int .u64 0, .slice none 0 0, .slice none 0 0] 95)) :=
    ⟨gb_alloc _ (gb_alloc _ (gb_refl _ _)), old_alloc (heap_new _ _ _ rfl), heap_new _ _ _ (by simp), ⟨v, (boxes2 _ _ hr hv hF).1, (boxes2 _ _ hr hv hF).2⟩, [], World.ownsRow_nil _ _ _ _, rfl⟩
  have HT3 : Hid (takeV (.row l) L = match takeVs l L with | .error e => .error e | .ok (l, r') => .ok (.mk 0 [] l, r')) := Lib.hid (by rw [takeV]; rfl)
  have HGA := Lib.hid hgath
  have HF := Lib.hid hF
  have HG := Lib.hid hG
  have HP := Lib.hid hps
  have HIH := Lib.hid ih
  clear hr hv hF hG hs hps ih hgath
  go_enter Tryz.func143, Tryz.ntmps143
  go_wp2_with fail
  go_loopw [6, 14] (fun vs i wr => ∃ (k : Nat) (ds : List V) (va : Option Addr) (vn vc : Nat) (lk : List UInt8), vs = .slice va vn vc ∧ i = .int .i64 (k : Int) ∧ k ≤ l.length ∧ ds.length = k ∧ lk.length ≤ L.length ∧
      takeVs l L = catV ds (takeVs (l.drop k) lk) ∧
      Gather w rb F (.cells #[.int .u8 91, .slice pa l.length pc, .bool (solids l)] 123) (.cells #[.int .u64 0, .slice none 0 0, .slice none 0 0] 95) ds va vn vc lk wr) (fun _ i _ => l.length - (intOf i).toNat)
  case atStart => exact ⟨0, [], none, 0, 0, L, rfl, rfl, by omega, rfl, Nat.le_refl _, catV_nil _, HGA.out⟩
  case round =>
    obtain ⟨k, ds, va, vn, vc, lk, rfl, rfl, hk, hds, hlk, hspec, hga⟩ := hrel
    have HSP := Lib.hid hspec
    have HGA2 := Lib.hid hga
    have HDS := Lib.hid hds
    have hb1 := hga.box1
    have hb2 := hga.box2
    have hgr := hga.grown
    obtain ⟨vl, hrl1, hvl1⟩ := hga.left
    obtain ⟨c0, c1, c2, -, -, -, hz1⟩ := block3 hb1
    obtain ⟨d0, d1, d2, g0, g1, g2, hz⟩ := block3 hb2
    by_cases hkn : k < l.length
    · obtain ⟨pb, poff, rfl, hFp, pu, hpat, hpu⟩ := HP.out k hkn
      obtain ⟨psa, psn, psc, rfl⟩ := hpu.agg
      have hpb3 : wr.heap[pb]? = w.heap[pb]? := hgr.block pb (HG.out pb hFp).1 (by have := (HG.out pb hFp).2; simpa using this)
      obtain ⟨x, y, z, hxyz, p0, p1, p2⟩ := hpat.same (w' := wr) hpb3
      cases hxyz
      have hrbz := lt_of_heap hrl1
      have HDR : Hid (l.drop k = l[k] :: l.drop (k + 1)) := Lib.hid (List.drop_eq_getElem_cons hkn)
      have HC := Lib.hid (fun o => HIH.out l[k] (List.getElem_mem hkn) rb F G lk vl _ (wr.alloc o) (old_alloc hrl1) (hvl1.same (fun _ h => h) fun b hb => Below.heap_alloc _ _ _ (Nat.lt_of_lt_of_le (HF.out b hb).1 hgr.size))
        (hpu.same (fun _ h => h) fun b hb => by rw [Below.heap_alloc _ _ _ (Nat.lt_of_lt_of_le (HG.out b hb).1 hgr.size)]; exact hgr.block b (HG.out b hb).1 (by have := (HG.out b hb).2; simpa using this))
        (fun b hb => ⟨by have := Nat.lt_of_lt_of_le (HF.out b hb).1 hgr.size; simp; omega, (HF.out b hb).2⟩) (fun b hb => ⟨by have := Nat.lt_of_lt_of_le (HG.out b hb).1 hgr.size; simp; omega, (HG.out b hb).2⟩) (by omega) (HSS.out _ (List.getElem_mem hkn)))
      have HVL1 : Hid (RepB wr F lk vl) := Lib.hid hvl1
      have HRL1 : Hid (ReadAt wr rb vl) := Lib.hid hrl1
      have hgrz := hgr.size
      clear hspec hga hb1 hb2 hrl1 hvl1 hpb3 hds hgr hpat hpu
      go_wp2_with fail
      refine (HC.out _).mono ?_
      intro e w2 hp
      have hfair := fair_take l[k] lk
      cases hq : takeV l[k] lk with
      | error c =>
        rw [hq] at hp hfair
        obtain ⟨rfl, hg2⟩ := hp
        have hc0 : (c != 0) = true := by rcases hfair with rfl | rfl <;> rfl
        have HQ2 := Lib.hid hq
        have hg3 := gb_trans (gb_alloc _ (gb_refl wr _)) hg2
        have hb2 := (hg3.block _ hz (by simp; omega)).trans HGA2.out.box2
        obtain ⟨d0, d1, d2, g0, g1, g2, hz⟩ := block3 hb2
        have HG2 := Lib.hid hg3
        clear hq hg2 hg3 hb2 hfair
        go_wp2_with fail
        refine bodyPost_ret (v := .tuple #[.agg #[.int .u64 0, .slice none 0 0, .slice none 0 0], .int .i64 c]) (by simp [results, Tryz.results143, go_sem, d0, d1, d2, hz]) rfl ?_
        rw [HT3.out, HSP.out, HDR.out, catR_fails HQ2.out]
        exact ⟨rfl, gb_alloc _ (gb_new _ (by omega) (gb_new _ (by omega) (gb_new _ (by omega) (gb_trans HGA2.out.grown HG2.out))))⟩
      | ok x =>
        obtain ⟨d, l1⟩ := x
        rw [hq] at hp hfair
        obtain ⟨u, v2, rfl, hg2, hr2, hv2, hu⟩ := hp
        have hl1 : l1.length ≤ lk.length := hfair
        have hg3 := gb_trans (gb_alloc _ (gb_refl wr _)) hg2
        have hga3 := HGA2.out.next hrb hg3 hr2 hv2
        have HQ2 := Lib.hid hq
        have HU := Lib.hid hu
        obtain ⟨en, eab, enb, ecb, eal, enl, ecl, rfl⟩ := hu.form
        obtain ⟨xs, hown, hkids⟩ := hga3.owns
        have hown0 : ∀ j, (Value.slice va vn vc).ownBlock = some j → j < wr.heap.size + 1 := fun j hj => by
          obtain ⟨xs0, hown0, _⟩ := HGA2.out.owns
          have := (hown0.lt j hj).2
          omega
        have HO0 := Lib.hid hown0
        have HKI := Lib.hid hkids
        have HG3 := Lib.hid hga3
        have hzz := hg3.size
        rw [HDS.out] at hown
        clear hq hg2 hg3 hfair hr2 hv2 hu hga3 hkids hown0
        go_wp2_with (at_builtin; refine wpList_append_own2 _ rfl (.tmp 28) (.tmp 30) 93 rfl (w.heap.size + 2) 95 iv (.agg #[.int .u64 0, .slice none 0 0, .slice none 0 0]) 3 56 Tryz.underlying93 hiv hiv0 hiv1 hiv2 rfl (by decide) _ _ _ rfl ((hown.alloc _).alloc _) ⟨w2.heap.size + 1, 0, none⟩ 1 1 [.int .u64 en, .slice eab enb ecb, .slice eal enl ecl] rfl rfl ?c1 ?c2 ?c3 ?c4 ?c5 ?_)
        case c1 => exact three_new (by simp)
        case c2 => intro u hu; simp at hu; rcases hu with rfl | rfl | rfl <;> rfl
        case c3 => unfold maxLen; omega
        case c4 => omega
        case c5 => simp; omega
        intro v' w4 hown2 hg4 _ hwhere
        obtain ⟨a', c', hv'⟩ := owned_slice hown2
        subst hv'
        have hga4 := HG3.out.push (o3 := .cells #[.int .u64 en, .slice eab enb ecb, .slice eal enl ecl] 95) (o4 := .cells #[.int .u64 en, .slice eab enb ecb, .slice eal enl ecl] 95) hrb HF.out HU.out (by simp; omega) (by rw [HDS.out]; exact hown) HKI.out (by simpa using HO0.out) hown2 (by rw [HDS.out]) hg4 (by simpa using hwhere)
        have HG4 := Lib.hid hga4
        have HLEN : Hid ((ds ++ [d]).length = k + 1) := Lib.hid (by rw [List.length_append, HDS.out]; rfl)
        clear hown hown2 hg4 hwhere hga4
        go_wp2_with fail
        go_roundw
        case rel =>
          refine ⟨k + 1, ds ++ [d], a', k + 1, c', l1, rfl, by go_num, by omega, HLEN.out, by omega, ?_, HG4.out⟩
          rw [HSP.out, HDR.out, catR_step HQ2.out]
        case measure => simp [intOf]; omega
    · have HK : Hid (l.drop k = []) := Lib.hid (List.drop_of_length_le (by omega))
      clear hspec hga hb1 hb2 hrl1 hvl1 hds hgr
      go_wp2_with fail
      refine bodyPost_ret (v := .tuple #[.agg #[.int .u64 0, .slice none 0 0, .slice va vn vc], .int .i64 0]) (by simp [results, Tryz.results143, go_sem, d0, d1, d2]) rfl ?_
      rw [HT3.out, HSP.out, HK.out, catR_ends]
      exact HGA2.out.done hrb HF.out _ _ _

mutual
theorem value_any : ∀ s, KindSaid 124 s
  | .num => value_of number_any
  | .blob => value_of blob_any
  | .list s => value_of (list_any (value_any s))
  | .row l => value_of (row_any (values_any l))
theorem values_any : ∀ (l : List Sh), ∀ s ∈ l, KindSaid 124 s
  | [], s, h => by simp at h
  | t :: l, s, h => by
    rcases List.mem_cons.1 h with h | h
    · rw [h]; exact value_any t
    · exact values_any l s h
end
end Go.Proofs.YtamgjlegcegmeaaGreatDoor.M

/- Part: MouldTake. -/
namespace Go.Proofs.YtamgjlegcegmeaaGreatDoor.M
open Go.RowKit

/-- What Take answers: an error's number, or the value. -/
def takeAt (s : List UInt8) (L : List UInt8) : Except Int V :=
  match shape s with
  | none => .error 10
  | some sh => match takeV sh L with
    | .error c => .error c
    | .ok (d, l) => if l.isEmpty then .ok d else .error 12

def TakePost (w : World) (r : Except Int V) (e : Ending) (w' : World) : Prop :=
  Below w.heap.size w w' ∧ match r with
  | .error c => e = .returned (.tuple #[.agg #[.int .u64 0, .slice none 0 0, .slice none 0 0], .int .i64 c])
  | .ok d => ∃ u, e = .returned (.tuple #[u, .int .i64 0]) ∧ RepV w' (fun b => w.heap.size ≤ b ∧ b < w'.heap.size) d u

theorem below_of_grown {w w0 w1 : World} {rb : Nat} (h0 : Below w.heap.size w w0) (hg : w0.grownBy w1 (some rb)) (hrb : w.heap.size ≤ rb) : Below w.heap.size w w1 :=
  ⟨hg.os.trans h0.os, hg.tape.trans h0.tape, hg.output.trans h0.output, Nat.le_trans h0.size hg.size, fun k hk => (hg.block k (Nat.lt_of_lt_of_le hk h0.size) (by simp; omega)).trans (h0.block k hk)⟩

set_option maxRecDepth 20000 in
set_option maxHeartbeats 1600000 in
theorem Take_any (s : ByteArray) (L : List UInt8) (F : Nat → Prop) (v : Value) (w : World) (hs : s.size ≤ 9223372036854775807) (hv : RepB w F L v) (hF : ∀ b, F b → b < w.heap.size) (hL : L.length ≤ 1099511627776) :
    Calls Tryz.prog 104 #[.string s, v] w (TakePost w (takeAt s.data.toList L)) := by
  have HV := Lib.hid hv
  have HF := Lib.hid hF
  obtain ⟨va, vc, rfl, _⟩ := hv.slice
  clear hv hF
  go_enter Tryz.func104, Tryz.ntmps104
  go_wp2_with fail
  refine (parse_any s _ hs).mono ?_
  rintro e w1 ⟨hb, hr⟩
  obtain ⟨c0, c1, c2, f0, f1, f2, hz⟩ := three_kept hb
  have hbox := old_below (heap_new w (.cells #[.int .u64 0, .slice none 0 0, .slice none 0 0] 95) _ rfl) hb
  have hB1 : Below w.heap.size w w1 := (below_alloc _ _).trans (hb.mono (by simp))
  have HBOX := Lib.hid hbox
  have HB1 := Lib.hid hB1
  have hsz := hb.size
  simp only [World.size_alloc] at hsz
  cases hq : shape s.data.toList with
  | none =>
    rw [hq] at hr
    subst hr
    have HQ : Hid (takeAt s.data.toList L = .error 10) := Lib.hid (by unfold takeAt; rw [hq])
    clear hq hb hbox hB1
    go_wp2_with fail
    refine bodyPost_ret (v := .tuple #[.agg #[.int .u64 0, .slice none 0 0, .slice none 0 0], .int .i64 10]) (by simp [results, Tryz.results104, go_sem, c0, c1, c2, hz]) rfl ?_
    rw [HQ.out]
    exact ⟨(((HB1.out.setCell (by simp) _).setCell (by simp) _).setCell (by simp) _).alloc (by simp; omega) _, rfl⟩
  | some sh =>
    rw [hq] at hr
    obtain ⟨u, rfl, hu⟩ := hr
    have HQ : Hid (takeAt s.data.toList L = match takeV sh L with | .error c => .error c | .ok (d, l) => if l.isEmpty then .ok d else .error 12) := Lib.hid (by unfold takeAt; rw [hq])
    have HSZ := Lib.hid (shape_size hq)
    obtain ⟨pa, pn, pc, rfl⟩ := hu.agg
    have hcall : ∀ o, Calls Tryz.prog 124 #[.pointer (some ⟨w1.heap.size + 1, 0, none⟩), .agg #[.int .u8 (kind sh), .slice pa pn pc, .bool (solid sh)]]
        ((w1.alloc o).alloc (.cells #[.slice va L.length vc] 175)) (ReadPost ((w1.alloc o).alloc (.cells #[.slice va L.length vc] 175)) (w1.heap.size + 1) F (takeV sh L)) := fun o =>
      value_any sh (w1.heap.size + 1) F (fun b => w.heap.size + 1 ≤ b ∧ b < w1.heap.size) L _ _ _ (heap_new _ _ _ (by simp))
        (HV.out.same (fun _ h => h) fun b hb2 => by
          have := HF.out b hb2
          rw [Below.heap_alloc _ _ _ (by simp; omega), Below.heap_alloc _ _ _ (by omega)]
          exact hB1.block b this)
        (hu.same (fun b hb2 => by simpa using hb2) fun b hb2 => by
          simp at hb2
          rw [Below.heap_alloc _ _ _ (by simp; omega), Below.heap_alloc _ _ _ hb2.2])
        (fun b hb2 => by have := HF.out b hb2; simp; omega) (fun b hb2 => by simp; omega) hL HSZ.out
    have HC := Lib.hid hcall
    clear hq hb hbox hB1 hu hcall
    go_wp2_with fail
    refine (HC.out _).mono ?_
    intro e w2 hp
    obtain ⟨n, ab, nb, cb, al, nl, cl, c, he, hg⟩ := hp.form
    have hB2 : Below w.heap.size w w2 := below_of_grown ((HB1.out.alloc (by omega) _).alloc (by simp; omega) _) hg (by omega)
    have hbox2 : w2.heap[w.heap.size]? = _ := (hg.block w.heap.size (by simp; omega) (by simp; omega)).trans (old_alloc (old_alloc HBOX.out))
    obtain ⟨c0, c1, c2, f0, f1, f2, hz⟩ := block3 hbox2
    have hgz := hg.size
    simp only [World.size_alloc] at hgz
    have HB2 := Lib.hid hB2
    have hfair := fair_take sh L
    cases hq2 : takeV sh L with
    | error c =>
      rw [hq2] at hp hfair
      obtain ⟨rfl, hg2⟩ := hp
      have hc0 : (c != 0) = true := by rcases hfair with rfl | rfl <;> rfl
      have HQ2 := Lib.hid hq2
      clear hq2 hg hg2 hB2 hbox2 hfair he
      go_wp2_with fail
      refine bodyPost_ret (v := .tuple #[.agg #[.int .u64 0, .slice none 0 0, .slice none 0 0], .int .i64 c]) (by simp [results, Tryz.results104, go_sem, c0, c1, c2, hz]) rfl ?_
      rw [HQ.out, HQ2.out]
      exact ⟨(((HB2.out.setCell (by simp) _).setCell (by simp) _).setCell (by simp) _).alloc (by simp; omega) _, rfl⟩
    | ok x =>
      obtain ⟨d, l1⟩ := x
      rw [hq2] at hp
      obtain ⟨u, v2, rfl, hg2, hr2, hv2, hu⟩ := hp
      obtain ⟨en, eab, enb, ecb, eal, enl, ecl, rfl⟩ := hu.form
      obtain ⟨la, lc, rfl, hll⟩ := hv2.slice
      obtain ⟨r0, -, hrz⟩ := block1 hr2
      have HQ2 := Lib.hid hq2
      have HU := Lib.hid hu
      clear hq2 hg hg2 hB2 hbox2 hfair he hu hv2 hr2
      cases l1 with
      | nil =>
        simp only [List.length_nil] at r0
        go_wp2_with fail
        refine bodyPost_ret (v := .tuple #[.agg #[.int .u64 en, .slice eab enb ecb, .slice eal enl ecl], .int .i64 0]) (by simp [results, Tryz.results104, go_sem, c0, c1, c2, hz]) rfl ?_
        rw [HQ.out, HQ2.out]
        refine ⟨(((HB2.out.setCell (by simp) _).setCell (by simp) _).setCell (by simp) _).alloc (by simp; omega) _, _, rfl, HU.out.same (fun b hb2 => ?_) fun b hb2 => ?_⟩
        · simp at hb2 ⊢; omega
        · simp only [World.size_alloc] at hb2
          rw [Below.heap_alloc _ _ _ (by simp; omega)]
          simp (disch := (simp; omega)) only [Below.heap_setCell]
      | cons x l2 =>
        simp only [List.length_cons] at r0 hll
        go_wp2_with fail
        refine bodyPost_ret (v := .tuple #[.agg #[.int .u64 0, .slice none 0 0, .slice none 0 0], .int .i64 12]) (by simp [results, Tryz.results104, go_sem, c0, c1, c2, hz]) rfl ?_
        rw [HQ.out, HQ2.out]
        exact ⟨(((HB2.out.setCell (by simp) _).setCell (by simp) _).setCell (by simp) _).alloc (by simp; omega) _, rfl⟩
end Go.Proofs.YtamgjlegcegmeaaGreatDoor.M

/- Part: MouldPure. -/
namespace Go.Proofs.YtamgjlegcegmeaaGreatDoor.M
open Go.RowKit

theorem fold_dig : ∀ (k n : Nat), n < 256 ^ k → fold256 (dig k n) = n
  | 0, n, h => by
    obtain rfl : n = 0 := by simpa using h
    rfl
  | k + 1, n, h => by
    rw [dig]
    by_cases h0 : n = 0
    · rw [if_pos h0, h0]; rfl
    · rw [if_neg h0, fold256_snoc, fold_dig k (n / 256) (by rw [Nat.div_lt_iff_lt_mul (by omega), ← Nat.pow_succ]; exact h), UInt8.toNat_ofNat_of_lt' (by show _ < 256; omega)]
      omega

theorem dig_head : ∀ (k n : Nat), n < 256 ^ k → (dig k n).head? ≠ some 0
  | 0, n, h => by simp [dig]
  | k + 1, n, h => by
    rw [dig]
    by_cases h0 : n = 0
    · rw [if_pos h0]; simp
    · rw [if_neg h0]
      by_cases h1 : n / 256 = 0
      · rw [h1, dig_zero']
        simp only [List.nil_append, List.head?_cons, ne_eq, Option.some.injEq]
        intro h2
        have := congrArg UInt8.toNat h2
        rw [UInt8.toNat_ofNat_of_lt' (by show _ < 256; omega)] at this
        simp at this
        omega
      · have h2 := dig_head k (n / 256) (by rw [Nat.div_lt_iff_lt_mul (by omega), ← Nat.pow_succ]; exact h)
        have h3 : dig k (n / 256) ≠ [] := by
          cases k with
          | zero => simp at h; omega
          | succ k => rw [dig, if_neg h1]; simp
        cases hd : dig k (n / 256) with
        | nil => exact absurd hd h3
        | cons c t => rw [hd] at h2; simpa using h2
where
  dig_zero' {k : Nat} : dig k 0 = [] := by cases k <;> simp [dig]

theorem num_len8 (n : Nat) : (UInt8.ofNat (dig 8 n).length).toNat = (dig 8 n).length := by
  have := dig_fuel 8 n
  exact UInt8.toNat_ofNat_of_lt' (by show _ < 256; omega)

/-- A number's form is read back. -/
theorem take_num (n : Nat) (r : List UInt8) (h : n < 18446744073709551616) : takeNum (num n ++ r) = .ok (n, r) := by
  have h8 := dig_fuel 8 n
  have hl := num_len8 n
  have hh := dig_head 8 n (by omega)
  have hf := fold_dig 8 n (by omega)
  rw [num, List.cons_append, takeNum, hl, if_neg (by omega)]
  rw [if_neg, if_neg (by simp), List.take_left, List.drop_left]
  · exact congrArg (fun x => Except.ok (x, r)) hf
  · rintro ⟨h0, h1⟩
    cases hd : dig 8 n with
    | nil => rw [hd] at h0; simp at h0
    | cons c t => rw [hd] at h1 hh; simp at h1 hh; exact hh h1

theorem put_num (n : Nat) : putAll [110] [.mk n [] []] = .ok (num n) := by
  unfold putAll
  rw [show shape [110] = some .num from by kernel_rfl]
  simp [isV, putV, V.n]

theorem takeAt_num (n : Nat) (h : n < 18446744073709551616) : takeAt [110] (num n) = .ok (.mk n [] []) := by
  unfold takeAt
  rw [show shape [110] = some .num from by kernel_rfl]
  have := take_num n [] h
  rw [List.append_nil] at this
  simp [takeV, this]

theorem takeAt_long (n : Nat) : takeAt [110] ([UInt8.ofNat ((dig 8 n).length + 1), 0] ++ dig 8 n) = .error 13 := by
  have h8 := dig_fuel 8 n
  unfold takeAt
  rw [show shape [110] = some .num from by kernel_rfl]
  have hl : (UInt8.ofNat ((dig 8 n).length + 1)).toNat = (dig 8 n).length + 1 := UInt8.toNat_ofNat_of_lt' (by show _ < 256; omega)
  have : takeNum ([UInt8.ofNat ((dig 8 n).length + 1), 0] ++ dig 8 n) = .error 13 := by
    rw [List.cons_append, takeNum, hl]
    split
    · rfl
    · rw [if_pos ⟨by omega, by simp⟩]
  simp only [takeV, this]

theorem blen_mono {a b : Nat} (h : a ≤ b) : blen a ≤ blen b := by
  rw [blen_le]
  have := (blen_le b (blen b)).1 (Nat.le_refl _)
  omega

theorem num_longer {a b : Nat} (ha : a < 18446744073709551616) (hb : b < 18446744073709551616) (h : (num a).length < (num b).length) : a < b := by
  rcases Nat.lt_or_ge a b with h1 | h1
  · exact h1
  · have := blen_mono h1
    simp only [num, List.length_cons, dig_length 8 a (by omega), dig_length 8 b (by omega)] at h
    omega
end Go.Proofs.YtamgjlegcegmeaaGreatDoor.M
