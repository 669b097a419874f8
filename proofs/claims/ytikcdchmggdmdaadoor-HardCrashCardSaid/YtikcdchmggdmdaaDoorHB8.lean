/- The document's examples of hard states, as law 4's statements begin with them. What stays true of a disk that has slots alone, through saves, stops and crashes. Hard states in a law's own memory, beside a row of states that it makes longer. -/
import Derived.Test.YtikcdchmggdmdaaDoorHB7
import Derived.Lib.SlBytesConst
import Derived.Test.YtikcdchmggdmdaaDoorHB6
/- Part: HardLaw. -/
namespace Go.Proofs.YtikcdchmggdmdaaDoor.M
open Go.RowKit Go.Maps
open D (Fl Dk)

def y1 : Dk := fresh 1000
def y2 : Dk := (save y1 (0, -1) (1, 2)).2
def y3 : Dk := (save y2 (1, 2) (2, -1)).2
def y4 : Dk := (save y3 (2, -1) (2, 0)).2
def y5 : Dk := (save (D.stop y4 1) (2, 0) (3, 0)).2
def y6 : Dk := (D.crash y5 []).2

theorem ey_0 : (newest y1.fs).2.2 = (0, -1) ∧ D.used y1.fs = 0 := by decide +kernel
theorem ey_1 : (save y1 (0, -1) (1, 2)).1 = 0 ∧ D.used y2.fs ≤ 1000 := by decide +kernel
theorem ey_2 : (save y2 (1, 2) (2, -1)).1 = 0 ∧ D.used y3.fs ≤ 1000 := by decide +kernel
theorem ey_3 : (save y3 (2, -1) (2, 0)).1 = 0 ∧ D.used y4.fs ≤ 1000 := by decide +kernel
theorem ey_4 : (save (D.stop y4 1) (2, 0) (3, 0)).1 = 32 ∧ D.used y5.fs ≤ 1000 := by decide +kernel
theorem ey_5 : (newest y6.fs).2.2 = (2, 0) ∧ D.used y6.fs ≤ 1000 := by decide +kernel
theorem ey_b : save y2 (1, 2) (1, 3) = (2, y2) := by
  unfold save; rw [if_pos (.inl (by decide))]
theorem ey_c : save y2 (1, 2) (0, -1) = (2, y2) := by
  unfold save; rw [if_pos (.inl (by decide))]

set_option maxRecDepth 20000 in
set_option maxHeartbeats 1600000 in
theorem made_any (n : Int) (w : World) (h0 : 0 ≤ n) (h1 : n ≤ 9223372036854775807) :
    Calls Tryd.prog 9 #[.int .i64 n] w fun e w' => ∃ gd gr X, e = .returned (.tuple #[.pointer (some ⟨gd, 0, none⟩), .pointer (some ⟨gr, 0, none⟩)]) ∧ DS w X gd (fresh n) w' ∧
      w.heap.size ≤ gr ∧ ¬ X gr ∧ w'.heap[gr]? = some (.cells #[.int .i64 n, .slice none 0 0, .bool false, .int .i64 0] 50) := by
  go_enter Tryd.func9, Tryd.ntmps9
  go_wp2_with fail
  refine (New_any n w h0).mono ?_
  rintro e w1 ⟨rfl, hb1, hz1, hd1⟩
  have HD : Hid (DS w (fun k => w.heap.size ≤ k ∧ k < w.heap.size + 2) (w.heap.size + 1) (fresh n) w1) := Lib.hid ⟨hb1, fun k hk => hk.1, ⟨hd1, fun k hk => by omega⟩, fresh_well h0 h1⟩
  have HZ := Lib.hid hz1
  clear hb1 hd1 hz1
  go_wp2_with fail
  go_ret2
  refine ⟨w.heap.size + 1, w1.heap.size, _, rfl, HD.out.alloc _, by have := HZ.out; omega, fun h => by have := HZ.out; omega, heap_new _ _ _ rfl⟩

theorem DStop {w wr : World} {X : Nat → Prop} {gd : Nat} {d : Dk} (h : DS w X gd d wr) (n : Int) (hn : -9223372036854775808 ≤ n ∧ n ≤ 9223372036854775807) :
    Calls Tryd.prog 11 #[.pointer (some ⟨gd, 0, none⟩), .int .i64 n] wr fun e w' => e = .returned (.tuple #[]) ∧ DS w X gd (D.stop d n) w' ∧ Only X wr w' ∧ w'.heap.size = wr.heap.size :=
  (PStop_any d X gd wr n h.dsk.1 hn).mono fun e w' ⟨he, ho, hp, hz⟩ => ⟨he, ⟨⟨ho.os.trans h.below.os, ho.tape.trans h.below.tape, ho.output.trans h.below.output, Nat.le_trans h.below.size ho.size, fun k hk => by
    rw [ho.block k (Nat.lt_of_lt_of_le hk h.below.size) fun hx => by have := h.own k hx; omega]
    exact h.below.block k hk⟩, h.own, ⟨hp, fun k hk => by rw [hz]; exact h.lt k hk⟩, stop_well h.well hn.2⟩, ho, hz⟩

theorem HS.stop {w wr : World} {X : Nat → Prop} {gd gh : Nat} {d : Dk} {has : Int × Int} (h : HS w X gd gh d has wr) (n : Int) (hn : -9223372036854775808 ≤ n ∧ n ≤ 9223372036854775807) :
    Calls Tryd.prog 11 #[.pointer (some ⟨gd, 0, none⟩), .int .i64 n] wr fun e w' => e = .returned (.tuple #[]) ∧ HS w X gd gh (D.stop d n) has w' ∧ Only X wr w' ∧ w'.heap.size = wr.heap.size :=
  (DStop h.ds n hn).mono fun e w' ⟨he, hd, ho, hz⟩ => ⟨he, ⟨hd, (ho.block _ (lt_of_heap h.blk) h.out).trans h.blk, h.out, h.new⟩, ho, hz⟩

theorem HS.crash {w wr : World} {X : Nat → Prop} {gd gh : Nat} {d : Dk} {has : Int × Int} (h : HS w X gd gh d has wr) (ks : List Int) (F : Nat → Prop) (vk : Value) (hv : RepI wr F ks vk) (hF : ∀ k, F k → k < wr.heap.size ∧ ¬ X k) :
    Calls Tryd.prog 13 #[.pointer (some ⟨gd, 0, none⟩), vk] wr fun e w' => e = .returned (.int .i64 (((D.crash d ks).1 : Nat) : Int)) ∧ ∃ X', (∀ k, X' k → X k ∨ wr.heap.size ≤ k) ∧ HS w X' gd gh (D.crash d ks).2 has w' ∧ Only X wr w' :=
  (DCrash h.ds ks F vk hv hF).mono fun e w' ⟨he, ho, X', hx, hd⟩ => ⟨he, X', hx, ⟨hd, (ho.block _ (lt_of_heap h.blk) h.out).trans h.blk, fun hg => by
    rcases hx _ hg with h1 | h1
    · exact h.out h1
    · have := lt_of_heap h.blk; omega, h.new⟩, ho⟩

theorem HS.save {w wr : World} {X : Nat → Prop} {gd gh : Nat} {d d' : Dk} {has s : Int × Int} {r : Int} (h : HS w X gd gh d has wr) (hu : D.used d.fs ≤ 1000000000) (hT : Hid (Tab w)) (hs : M.save d has s = (r, d')) :
    Calls Tryd.prog 12 #[.pointer (some ⟨gh, 0, none⟩), .agg #[.int .i64 s.1, .int .i64 s.2]] wr fun e w' => e = .returned (.int .i64 r) ∧ ∃ X', (∀ k, X' k → X k ∨ wr.heap.size ≤ k) ∧ HS w X' gd gh d' (if r = 0 then s else has) w' ∧ Only (fun k => X k ∨ k = gh) wr w' :=
  (Save_any d X gd gh has s w wr h hu hT).mono fun e w' hp => by
    unfold SPost at hp
    rw [hs] at hp
    exact hp

theorem eq_of {d' : Dk} {r : Int × Dk} {x : Int} (h1 : r.1 = x) (h2 : d' = r.2) : r = (x, d') := by
  subst h1 h2; rfl

theorem RepI.nil {w : World} {F : Nat → Prop} : RepI w F [] (.slice none 0 0) := .inl ⟨rfl, Bare.nil⟩

set_option maxRecDepth 20000 in
set_option maxHeartbeats 6400000 in
theorem awake4_any (w : World) (hT : Hid (Tab w)) : Calls Tryd.prog 6 #[] w fun e w' => e = .returned (.bool true) ∧ Below w.heap.size w w' := by
  go_enter Tryd.func6, Tryd.ntmps6
  go_wp2_with fail
  refine (made_any 1000 w (by omega) (by omega)).mono ?_
  rintro e w1 ⟨gd, gr, X1, rfl, hd1, -, -, -⟩
  have H1 : Hid (DS w X1 gd y1 w1) := Lib.hid hd1
  clear hd1
  go_wp2_with fail
  refine (Open_any y1 X1 gd w1 H1.out.dsk H1.out.well.1.2.1 (by rw [ey_0.2]; decide) (H1.out.tab hT)).mono ?_
  rintro e w2 ⟨gh, rfl, hb2, hg2, hk2⟩
  rw [ey_0.1] at hk2
  have H2 : Hid (HS w X1 gd gh y1 (0, -1) w2) := Lib.hid ⟨H1.out.next hb2, hk2, fun h => by have := H1.out.lt _ h; omega, Nat.le_trans H1.out.below.size hg2⟩
  clear hb2 hg2
  obtain ⟨b0, b1, b2, -, -, -, bz⟩ := block3 hk2
  clear hk2
  go_wp2_with fail
  clear b0 b1 b2 bz
  refine (H2.out.save (s := (1, 2)) (by rw [ey_0.2]; decide) hT (eq_of ey_1.1 (rfl : y2 = _))).mono ?_
  rintro e w3 ⟨rfl, X3, -, h3, -⟩
  have H3 : Hid (HS w X3 gd gh y2 (1, 2) w3) := Lib.hid h3
  clear h3
  go_wp2_with fail
  refine (H3.out.save (s := (1, 3)) (Nat.le_trans ey_1.2 (by decide)) hT ey_b).mono ?_
  rintro e w4 ⟨rfl, X4, -, h4, -⟩
  have H4 : Hid (HS w X4 gd gh y2 (1, 2) w4) := Lib.hid h4
  clear h4
  go_wp2_with fail
  refine (H4.out.save (s := (0, -1)) (Nat.le_trans ey_1.2 (by decide)) hT ey_c).mono ?_
  rintro e w5 ⟨rfl, X5, -, h5, -⟩
  have H5 : Hid (HS w X5 gd gh y2 (1, 2) w5) := Lib.hid h5
  clear h5
  go_wp2_with fail
  refine (H5.out.save (s := (2, -1)) (Nat.le_trans ey_1.2 (by decide)) hT (eq_of ey_2.1 (rfl : y3 = _))).mono ?_
  rintro e w6 ⟨rfl, X6, -, h6, -⟩
  have H6 : Hid (HS w X6 gd gh y3 (2, -1) w6) := Lib.hid h6
  clear h6
  go_wp2_with fail
  refine (H6.out.save (s := (2, 0)) (Nat.le_trans ey_2.2 (by decide)) hT (eq_of ey_3.1 (rfl : y4 = _))).mono ?_
  rintro e w7 ⟨rfl, X7, -, h7, -⟩
  have H7 : Hid (HS w X7 gd gh y4 (2, 0) w7) := Lib.hid h7
  clear h7
  go_wp2_with fail
  refine (H7.out.stop 1 (by omega)).mono ?_
  rintro e w8 ⟨rfl, h8, -, -⟩
  have H8 := Lib.hid h8
  clear h8
  go_wp2_with fail
  refine (H8.out.save (s := (3, 0)) (Nat.le_trans ey_3.2 (by decide)) hT (eq_of ey_4.1 (rfl : y5 = _))).mono ?_
  rintro e w9 ⟨rfl, X9, -, h9, -⟩
  have H9 : Hid (HS w X9 gd gh y5 (2, 0) w9) := Lib.hid h9
  clear h9
  go_wp2_with fail
  refine (H9.out.crash [] (fun _ => False) _ RepI.nil (fun _ h => h.elim)).mono ?_
  rintro e w10 ⟨rfl, X10, -, h10, -⟩
  have H10 : Hid (HS w X10 gd gh y6 (2, 0) w10) := Lib.hid h10
  obtain ⟨b0, b1, b2, -, -, -, bz⟩ := block3 h10.blk
  clear h10
  go_wp2_with fail
  refine (On_any y6 X10 gd w10 H10.out.ds.dsk H10.out.ds.well.1.2.1 (Nat.le_trans ey_5.2 (by decide)) (H10.out.ds.tab hT)).mono ?_
  rintro e w11 ⟨rfl, hb11⟩
  rw [ey_5.1]
  have HF : Hid (Below w.heap.size w w11) := Lib.hid (H10.out.ds.below.trans (hb11.mono H10.out.ds.below.size))
  clear hb11
  go_wp2_with fail
  go_ret
  exact ⟨rfl, HF.out⟩
end Go.Proofs.YtikcdchmggdmdaaDoor.M

/- Part: HardInv. -/
namespace Go.Proofs.YtikcdchmggdmdaaDoor.M
open Go.RowKit
open D (Fl Dk)

/-- A slot's name; what is there of it: its bytes, how many of them safe. -/
def nmK (k : Bool) : ByteArray := if k then nmH1 else nmH0

abbrev Slt := Option (List UInt8 × Nat)

def flOf (k : Bool) : Slt → List Fl
  | none => []
  | some (b, s) => [⟨nmK k, b, s⟩]

/-- The files of two slots. -/
def fsOf (p : Slt × Slt) : List Fl := flOf false p.1 ++ flOf true p.2

def getK (p : Slt × Slt) (k : Bool) : Slt := if k then p.2 else p.1
def setK (p : Slt × Slt) (k : Bool) (o : Slt) : Slt × Slt := if k then (p.1, o) else (o, p.2)

def byt (o : Slt) : List UInt8 := match o with | some (b, _) => b | none => []

theorem nm00 : (nmH0.toList == nmH0.toList) = true := by decide +kernel
theorem nm11 : (nmH1.toList == nmH1.toList) = true := by decide +kernel
theorem nm01 : (nmH0.toList == nmH1.toList) = false := by decide +kernel
theorem nm10 : (nmH1.toList == nmH0.toList) = false := by decide +kernel
theorem ne01 : ¬ nmH0 = nmH1 := by decide +kernel
theorem ne10 : ¬ nmH1 = nmH0 := by decide +kernel
theorem ok0 : D.okName nmH0 = true := by decide +kernel
theorem ok1 : D.okName nmH1 = true := by decide +kernel
theorem less01 : Op.bytesLess nmH0.toList nmH1.toList = true := by decide +kernel
theorem less10 : Op.bytesLess nmH1.toList nmH0.toList = false := by decide +kernel

theorem bytes_fsOf (p : Slt × Slt) (k : Bool) : bytesOf (fsOf p) (nmK k) = byt (getK p k) := by
  obtain ⟨a, b⟩ := p
  rcases a with _ | ⟨a, x⟩ <;> rcases b with _ | ⟨b, y⟩ <;> cases k <;> simp [bytesOf, fsOf, flOf, nmK, getK, byt, ne01, ne10]

theorem isThere_fsOf (p : Slt × Slt) (k : Bool) : D.isThere (fsOf p) (nmK k) = (getK p k).isSome := by
  obtain ⟨a, b⟩ := p
  rcases a with _ | ⟨a, x⟩ <;> rcases b with _ | ⟨b, y⟩ <;> cases k <;> simp [D.isThere, D.find, fsOf, flOf, nmK, getK, nm00, nm01, nm10, nm11, List.findIdx_cons]

theorem used_fsOf (p : Slt × Slt) : D.used (fsOf p) = (byt p.1).length + (byt p.2).length := by
  obtain ⟨a, b⟩ := p
  rcases a with _ | ⟨a, x⟩ <;> rcases b with _ | ⟨b, y⟩ <;> simp [D.used, fsOf, flOf, byt]

theorem len_fsOf (p : Slt × Slt) : (fsOf p).length ≤ 2 := by
  obtain ⟨a, b⟩ := p
  rcases a with _ | ⟨a, x⟩ <;> rcases b with _ | ⟨b, y⟩ <;> simp [fsOf, flOf]

theorem erase_fsOf (p : Slt × Slt) (k : Bool) : (fsOf p).eraseIdx (D.find (fsOf p) (nmK k)) = fsOf (setK p k none) := by
  obtain ⟨a, b⟩ := p
  rcases a with _ | ⟨a, x⟩ <;> rcases b with _ | ⟨b, y⟩ <;> cases k <;> simp [D.find, fsOf, flOf, nmK, setK, nm00, nm01, nm10, nm11, List.findIdx_cons]

theorem add_fsOf (p : Slt × Slt) (k : Bool) (b : List UInt8) (s : Nat) (h : getK p k = none) : D.add (fsOf p) ⟨nmK k, b, s⟩ = fsOf (setK p k (some (b, s))) := by
  obtain ⟨a, c⟩ := p
  rcases a with _ | ⟨a, x⟩ <;> rcases c with _ | ⟨c, y⟩ <;> cases k <;> simp [getK] at h <;> simp [D.add, D.place, fsOf, flOf, nmK, setK, less01, less10, List.findIdx_cons]

theorem lay_fsOf (p : Slt × Slt) (k : Bool) (b x : List UInt8) (s : Nat) (h : getK p k = some (b, s)) : D.layAt (fsOf p) (D.find (fsOf p) (nmK k)) x = fsOf (setK p k (some (b ++ x, s))) := by
  obtain ⟨a, c⟩ := p
  rcases a with _ | ⟨a, u⟩ <;> rcases c with _ | ⟨c, y⟩ <;> cases k <;> simp [getK] at h <;> obtain ⟨rfl, rfl⟩ := h <;> simp [D.layAt, D.find, fsOf, flOf, nmK, setK, nm00, nm01, nm10, nm11, List.findIdx_cons]

theorem sync_fsOf (p : Slt × Slt) (k : Bool) (b : List UInt8) (s : Nat) (h : getK p k = some (b, s)) : D.syncAt (fsOf p) (D.find (fsOf p) (nmK k)) = fsOf (setK p k (some (b, b.length))) := by
  obtain ⟨a, c⟩ := p
  rcases a with _ | ⟨a, u⟩ <;> rcases c with _ | ⟨c, y⟩ <;> cases k <;> simp [getK] at h <;> obtain ⟨rfl, rfl⟩ := h <;> simp [D.syncAt, D.find, fsOf, flOf, nmK, setK, nm00, nm01, nm10, nm11, List.findIdx_cons]

theorem get_set (p : Slt × Slt) (k : Bool) (o : Slt) : getK (setK p k o) k = o := by cases k <;> rfl
theorem get_set_ne (p : Slt × Slt) (k : Bool) (o : Slt) : getK (setK p k o) (!k) = getK p (!k) := by cases k <;> rfl
theorem set_set (p : Slt × Slt) (k : Bool) (o o2 : Slt) : setK (setK p k o) k o2 = setK p k o2 := by cases k <;> rfl
theorem okK (k : Bool) : D.okName (nmK k) = true := by cases k; exact ok0; exact ok1
theorem beqK (k : Bool) : ((nmK k).toList == (nmK k).toList) = true := by cases k; exact nm00; exact nm11

theorem tick_roomH (d : Dk) : d.tick.room = d.room := by unfold D.Dk.tick; split <;> rfl
theorem tick_fs1 (d : Dk) : d.tick.fs = d.fs := by unfold D.Dk.tick; split <;> rfl
theorem tick_endsH (d : Dk) : d.tick.ends = d.ends := by unfold D.Dk.tick; split <;> rfl

/-- A slot's file is taken away. -/
theorem remove_slot {d : Dk} {p : Slt × Slt} {k : Bool} (hf : d.fs = fsOf p) (hk : (getK p k).isSome = true) :
    (d.stopped = true ∧ D.remove d [nmK k] = (32, d)) ∨ (d.stopped = false ∧ ∃ d', D.remove d [nmK k] = (0, d') ∧ d'.fs = fsOf (setK p k none) ∧ d'.room = d.room ∧ d'.ends = d.ends) := by
  unfold D.remove
  cases hs : d.stopped with
  | true => exact .inl ⟨rfl, by simp⟩
  | false =>
    refine .inr ⟨rfl, { d.tick with fs := fsOf (setK p k none) }, ?_, rfl, tick_roomH d, tick_endsH d⟩
    simp only [Bool.false_eq_true, if_false, tick_fs1, hf]
    rw [if_neg (by simp [D.eachOnce, isThere_fsOf, hk])]
    simp [erase_fsOf]

/-- It is laid anew. -/
theorem append_slot {d : Dk} {p : Slt × Slt} {k : Bool} {b : List UInt8} (hf : d.fs = fsOf p) (hk : getK p k = none) (hr : ((D.used (fsOf p) + b.length : Nat) : Int) ≤ d.room) :
    (d.stopped = true ∧ D.append d (nmK k) [b] = (32, d)) ∨ (d.stopped = false ∧ ∃ d', D.append d (nmK k) [b] = (0, d') ∧ d'.fs = fsOf (setK p k (some (b, 0))) ∧ d'.room = d.room ∧ d'.ends = d.ends) := by
  unfold D.append
  cases hs : d.stopped with
  | true => exact .inl ⟨rfl, by simp⟩
  | false =>
    refine .inr ⟨rfl, { d.tick with fs := fsOf (setK p k (some (b, 0))) }, ?_, rfl, tick_roomH d, tick_endsH d⟩
    have hl := len_fsOf p
    simp only [Bool.false_eq_true, if_false]
    rw [if_neg (by rw [okK]; simp), if_neg (by
      unfold D.Dk.free
      rw [tick_roomH, tick_fs1, hf, isThere_fsOf, hk]
      simp
      omega)]
    simp only [tick_fs1, hf, isThere_fsOf, hk, Option.isSome_none, Bool.false_eq_true, if_false]
    rw [add_fsOf p k [] 0 hk, lay_fsOf _ k [] _ 0 (get_set p k _), set_set]
    simp

/-- It is made safe. -/
theorem sync_slot {d : Dk} {p : Slt × Slt} {k : Bool} {b : List UInt8} {s : Nat} (hf : d.fs = fsOf p) (hk : getK p k = some (b, s)) :
    (d.stopped = true ∧ D.sync d [nmK k] = (32, d)) ∨ (d.stopped = false ∧ ∃ d', D.sync d [nmK k] = (0, d') ∧ d'.fs = fsOf (setK p k (some (b, b.length))) ∧ d'.room = d.room ∧ d'.ends = d.ends) := by
  unfold D.sync
  cases hs : d.stopped with
  | true => exact .inl ⟨rfl, by simp⟩
  | false =>
    refine .inr ⟨rfl, { d.tick with fs := fsOf (setK p k (some (b, b.length))) }, ?_, rfl, tick_roomH d, tick_endsH d⟩
    simp only [Bool.false_eq_true, if_false, tick_fs1, hf]
    rw [if_neg (by simp [isThere_fsOf, hk])]
    simp [sync_fsOf p k b s hk]

theorem not_stopped {d : Dk} (h : d.ends = false) : d.stopped = false := by unfold D.Dk.stopped; rw [h]; rfl

/-- A file anew: what may come of it. -/
theorem saveF_slot {d : Dk} {p : Slt × Slt} {k : Bool} {b : List UInt8} (hf : d.fs = fsOf p) (hr : ((D.used (fsOf p) + b.length : Nat) : Int) ≤ d.room) :
    ∃ r d', saveF d (nmK k) b = (r, d') ∧ d'.room = d.room ∧ (d.ends = false → r = 0 ∧ d'.ends = false) ∧
      ((r = 0 ∧ d'.fs = fsOf (setK p k (some (b, b.length)))) ∨ (r = 32 ∧ (d'.fs = fsOf p ∨ d'.fs = fsOf (setK p k none) ∨ d'.fs = fsOf (setK p k (some (b, 0)))))) := by
  -- what is done behind the removing
  have tail : ∀ d1 : Dk, d1.fs = fsOf (setK p k none) → d1.room = d.room → d1.ends = d.ends →
      ∃ r d', (if (D.append d1 (nmK k) [b]).1 ≠ 0 then D.append d1 (nmK k) [b] else D.sync (D.append d1 (nmK k) [b]).2 [nmK k]) = (r, d') ∧ d'.room = d.room ∧ (d.ends = false → r = 0 ∧ d'.ends = false) ∧
      ((r = 0 ∧ d'.fs = fsOf (setK p k (some (b, b.length)))) ∨ (r = 32 ∧ (d'.fs = fsOf (setK p k none) ∨ d'.fs = fsOf (setK p k (some (b, 0)))))) := by
    intro d1 h1 h2 h3
    have hu : D.used (fsOf (setK p k none)) ≤ D.used (fsOf p) := by
      rw [used_fsOf, used_fsOf]
      cases k <;> simp [setK, byt]
    rcases append_slot (k := k) (b := b) h1 (get_set p k none) (by rw [h2]; omega) with ⟨hs, ha⟩ | ⟨hs, d2, ha, a1, a2, a3⟩
    · rw [ha]
      exact ⟨32, d1, by simp, h2, fun he => (by rw [not_stopped (h3.trans he)] at hs; cases hs), .inr ⟨rfl, .inl h1⟩⟩
    · rw [ha, set_set] at *
      simp only [ne_eq, not_true_eq_false, if_false]
      rcases sync_slot (k := k) (b := b) (s := 0) (p := setK p k (some (b, 0))) a1 (get_set p k _) with ⟨hs2, hb⟩ | ⟨hs2, d3, hb, b1, b2, b3⟩
      · rw [hb]
        exact ⟨32, d2, rfl, a2.trans h2, fun he => (by rw [not_stopped (a3.trans (h3.trans he))] at hs2; cases hs2), .inr ⟨rfl, .inr a1⟩⟩
      · rw [hb]
        rw [set_set] at b1
        exact ⟨0, d3, rfl, b2.trans (a2.trans h2), fun he => ⟨rfl, b3.trans (a3.trans (h3.trans he))⟩, .inl ⟨rfl, b1⟩⟩
  unfold saveF
  simp only
  rw [hf, isThere_fsOf]
  cases hk : getK p k with
  | none =>
    simp only [Option.isSome_none, Bool.false_eq_true, if_false, ne_eq, not_true_eq_false]
    have e : setK p k none = p := by
      obtain ⟨x, y⟩ := p
      cases k <;> simp [getK] at hk <;> subst hk <;> rfl
    obtain ⟨r, d', h1, h2, h3, h4⟩ := tail d (by rw [e]; exact hf) rfl rfl
    refine ⟨r, d', h1, h2, h3, ?_⟩
    rcases h4 with h4 | ⟨h4, h5⟩
    · exact .inl h4
    · exact .inr ⟨h4, .inr h5⟩
  | some o =>
    simp only [Option.isSome_some, if_true]
    rcases remove_slot (k := k) hf (by rw [hk]; rfl) with ⟨hs, ha⟩ | ⟨hs, d1, ha, a1, a2, a3⟩
    · rw [ha]
      exact ⟨32, d, by simp, rfl, fun he => (by rw [not_stopped he] at hs; cases hs), .inr ⟨rfl, .inl hf⟩⟩
    · rw [ha]
      obtain ⟨r, d', h1, h2, h3, h4⟩ := tail d1 a1 a2 a3
      refine ⟨r, d', by simpa using h1, h2, h3, ?_⟩
      rcases h4 with h4 | ⟨h4, h5⟩
      · exact .inl h4
      · exact .inr ⟨h4, .inr h5⟩

/-- The newest of two slots. -/
def nw (a b : Nat × (Int × Int)) : Nat × Nat × (Int × Int) :=
  if a.1 = 0 ∧ b.1 = 0 then (2, 0, (0, -1)) else if a.1 < b.1 then (1, b.1, b.2) else (0, a.1, a.2)

theorem newest_fsOf (p : Slt × Slt) : newest (fsOf p) = nw (slot (byt p.1)) (slot (byt p.2)) := by
  have h0 := bytes_fsOf p false
  have h1 := bytes_fsOf p true
  unfold newest nw
  rw [show nmK false = nmH0 from rfl] at h0
  rw [show nmK true = nmH1 from rfl] at h1
  rw [h0, h1]
  rfl

/-- Which slot is written next. -/
def nextK (p : Slt × Slt) : Bool := decide ((newest (fsOf p)).1 = 0)

theorem other_nextK (p : Slt × Slt) : other (newest (fsOf p)).1 = nmK (nextK p) := by
  unfold other nextK nmK
  by_cases h : (newest (fsOf p)).1 = 0 <;> simp [h]

/-- What isn't whole in the other slot changes nothing. -/
theorem newest_cut (p : Slt × Slt) (o : Slt) (ho : (slot (byt o)).1 = 0) : (newest (fsOf (setK p (nextK p) o))).2 = (newest (fsOf p)).2 := by
  unfold nextK
  rw [newest_fsOf, newest_fsOf]
  obtain ⟨a, b⟩ := p
  simp only
  obtain ⟨x, hx⟩ : ∃ x, x = slot (byt a) := ⟨_, rfl⟩
  obtain ⟨y, hy⟩ : ∃ y, y = slot (byt b) := ⟨_, rfl⟩
  obtain ⟨z, hz⟩ : ∃ z, z = slot (byt o) := ⟨_, rfl⟩
  rw [← hx, ← hy]
  rw [← hz] at ho
  unfold nw
  by_cases h1 : x.1 = 0 ∧ y.1 = 0
  · rw [if_pos h1]
    simp [setK, ← hz, ← hy, ho, h1.2]
  · rw [if_neg h1]
    by_cases h2 : x.1 < y.1
    · rw [if_pos h2]
      have h3 : ¬ y.1 = 0 := by omega
      have h4 : 0 < y.1 := by omega
      simp [setK, ← hz, ← hy, ho, h3, h4]
    · rw [if_neg h2]
      have h3 : ¬ x.1 = 0 := by omega
      simp [setK, ← hz, ← hx, ho, h3]

/-- What is whole there, with a count of one more, is the newest then. -/
theorem newest_more (p : Slt × Slt) (o : Slt) (s : Int × Int) (ho : slot (byt o) = ((newest (fsOf p)).2.1 + 1, s)) : (newest (fsOf (setK p (nextK p) o))).2 = ((newest (fsOf p)).2.1 + 1, s) := by
  unfold nextK
  rw [newest_fsOf] at ho ⊢
  rw [newest_fsOf]
  obtain ⟨a, b⟩ := p
  simp only at ho ⊢
  obtain ⟨x, hx⟩ : ∃ x, x = slot (byt a) := ⟨_, rfl⟩
  obtain ⟨y, hy⟩ : ∃ y, y = slot (byt b) := ⟨_, rfl⟩
  rw [← hx, ← hy] at ho ⊢
  unfold nw at ho ⊢
  by_cases h1 : x.1 = 0 ∧ y.1 = 0
  · rw [if_pos h1] at ho ⊢
    simp [setK, ho, ← hy, h1.2]
  · rw [if_neg h1] at ho ⊢
    by_cases h2 : x.1 < y.1
    · rw [if_pos h2] at ho ⊢
      simp only at ho
      have h4 : ¬ y.1 + 1 < y.1 := by omega
      simp [setK, ho, ← hy, h4]
    · rw [if_neg h2] at ho ⊢
      simp only at ho
      simp [setK, ho, ← hx]

theorem slot_nil : (slot []).1 = 0 := by unfold slot; rfl

/-- A disk with slots alone, all of it safe, whose newest slot says this. -/
def Inv (d : Dk) (n : Nat) (st : Int × Int) : Prop :=
  ∃ p : Slt × Slt, d.fs = fsOf p ∧ (∀ k b s, getK p k = some (b, s) → b.length ≤ 31 ∧ s = b.length) ∧ (newest (fsOf p)).2.1 ≤ n ∧ (newest (fsOf p)).2.2 = st ∧ 200 ≤ d.room

theorem Inv.mono {d : Dk} {n m : Nat} {st : Int × Int} (h : Inv d n st) (hm : n ≤ m) : Inv d m st := by
  obtain ⟨p, h1, h2, h3, h4, h5⟩ := h
  exact ⟨p, h1, h2, Nat.le_trans h3 hm, h4, h5⟩

theorem byt_le {p : Slt × Slt} (h : ∀ k b s, getK p k = some (b, s) → b.length ≤ 31 ∧ s = b.length) : (byt p.1).length ≤ 31 ∧ (byt p.2).length ≤ 31 := by
  obtain ⟨a, b⟩ := p
  constructor
  · rcases a with _ | ⟨a, x⟩
    · simp [byt]
    · exact (h false a x rfl).1
  · rcases b with _ | ⟨b, y⟩
    · simp [byt]
    · exact (h true b y rfl).1

theorem Inv.used {d : Dk} {n : Nat} {st : Int × Int} (h : Inv d n st) : D.used d.fs ≤ 62 := by
  obtain ⟨p, h1, h2, -⟩ := h
  have := byt_le h2
  rw [h1, used_fsOf]
  omega

theorem Inv.on {d : Dk} {n : Nat} {st : Int × Int} (h : Inv d n st) : (newest d.fs).2.2 = st := by
  obtain ⟨p, h1, -, -, h4, -⟩ := h
  rw [h1, h4]

theorem Inv.stop {d : Dk} {n : Nat} {st : Int × Int} (h : Inv d n st) (k : Int) : Inv (D.stop d k) n st := h

theorem Inv.fresh {n : Int} (h : 200 ≤ n) : Inv (fresh n) 0 (0, -1) :=
  ⟨(none, none), rfl, (by intro k b s h; cases k <;> cases h), by rw [newest_fsOf]; decide +kernel, by rw [newest_fsOf]; decide +kernel, h⟩

/-- A crash of a slot's file. -/
def Stays (o o2 : Slt) : Prop := match o with
  | none => o2 = none
  | some (b, s) => ∃ m, s ≤ m ∧ m ≤ b.length ∧ o2 = some (b.take m, m)

theorem staysK_le (f : Fl) (k : Option Int) (h : f.safe ≤ f.b.length) : f.safe ≤ D.stays f k ∧ D.stays f k ≤ f.b.length := by
  unfold D.stays
  split
  · exact ⟨Nat.le_refl _, h⟩
  · split
    · omega
    · exact ⟨Nat.le_refl _, h⟩

theorem crash_fsOf (p : Slt × Slt) (ks : List Int) (h : ∀ k b s, getK p k = some (b, s) → s ≤ b.length) : ∃ p2, D.crashFs (fsOf p) ks = fsOf p2 ∧ Stays p.1 p2.1 ∧ Stays p.2 p2.2 := by
  obtain ⟨a, c⟩ := p
  rcases a with _ | ⟨a, x⟩ <;> rcases c with _ | ⟨c, y⟩
  · exact ⟨(none, none), rfl, rfl, rfl⟩
  · have h1 := staysK_le ⟨nmK true, c, y⟩ ks.head? (h true c y rfl)
    exact ⟨(none, some _), rfl, rfl, _, h1.1, h1.2, rfl⟩
  · have h1 := staysK_le ⟨nmK false, a, x⟩ ks.head? (h false a x rfl)
    exact ⟨(some _, none), rfl, ⟨_, h1.1, h1.2, rfl⟩, rfl⟩
  · have h1 := staysK_le ⟨nmK false, a, x⟩ ks.head? (h false a x rfl)
    have h2 := staysK_le ⟨nmK true, c, y⟩ ks.tail.head? (h true c y rfl)
    exact ⟨(some _, some _), rfl, ⟨_, h1.1, h1.2, rfl⟩, _, h2.1, h2.2, rfl⟩

theorem stays_same {o o2 : Slt} (h : Stays o o2) (hs : ∀ b s, o = some (b, s) → s = b.length) : o2 = o := by
  rcases o with _ | ⟨b, s⟩
  · exact h
  · obtain ⟨m, h1, h2, rfl⟩ := h
    have := hs b s rfl
    obtain rfl : m = s := by omega
    rw [this, List.take_length]

/-- What is safe outlives a crash. -/
theorem crash_same {p : Slt × Slt} (h : ∀ k b s, getK p k = some (b, s) → b.length ≤ 31 ∧ s = b.length) (ks : List Int) : D.crashFs (fsOf p) ks = fsOf p := by
  obtain ⟨p2, h1, h2, h3⟩ := crash_fsOf p ks fun k b s hk => by have := (h k b s hk).2; omega
  have e1 := stays_same h2 fun b s e => (h false b s e).2
  have e2 := stays_same h3 fun b s e => (h true b s e).2
  rw [h1]
  obtain ⟨a, b⟩ := p
  obtain ⟨a2, b2⟩ := p2
  simp only at e1 e2
  rw [e1, e2]

theorem Inv.crash {d : Dk} {n : Nat} {st : Int × Int} (h : Inv d n st) (ks : List Int) : Inv (D.crash d ks).2 n st := by
  obtain ⟨p, h1, h2, h3, h4, h5⟩ := h
  refine ⟨p, ?_, h2, h3, h4, h5⟩
  show D.crashFs d.fs ks = _
  rw [h1, crash_same h2]

theorem not_of_ne : ∀ {k b : Bool}, ¬ k = b → k = !b := by decide

/-- What a save leaves. -/
theorem save_inv {d : Dk} {n : Nat} {has s : Int × Int} (h : Inv d n has) (hn : n + 1 < top) :
    ∃ r d', save d has s = (r, d') ∧ ((r = 0 ∧ follows s has = true ∧ Inv d' (n + 1) s) ∨ (r = 2 ∧ d' = d ∧ (follows s has = false ∨ (top : Int) ≤ s.1 ∨ (top : Int) ≤ s.2)) ∨
      (r = 32 ∧ follows s has = true ∧ ∀ ks, Inv (D.crash d' ks).2 (n + 1) has ∨ Inv (D.crash d' ks).2 (n + 1) s)) ∧
      (d.ends = false → (r = 0 ∨ r = 2) ∧ d'.ends = false) := by
  obtain ⟨p, h1, h2, h3, h4, h5⟩ := h
  unfold save
  by_cases hf : follows s has = false ∨ (top : Int) ≤ s.1 ∨ (top : Int) ≤ s.2
  · rw [if_pos hf]
    exact ⟨2, d, rfl, .inr (.inl ⟨rfl, rfl, hf⟩), fun he => ⟨.inr rfl, he⟩⟩
  · rw [if_neg hf]
    have hfo : follows s has = true := by
      cases hx : follows s has with
      | true => rfl
      | false => exact absurd (.inl hx) hf
    by_cases he : s = has
    · rw [if_pos he]
      refine ⟨0, d, rfl, .inl ⟨rfl, hfo, ?_⟩, fun he => ⟨.inl rfl, he⟩⟩
      rw [he]
      exact ⟨p, h1, h2, by omega, h4, h5⟩
    · rw [if_neg he, h1, other_nextK]
      obtain ⟨c, hc⟩ : ∃ c, c = (newest (fsOf p)).2.1 := ⟨_, rfl⟩
      rw [← hc] at h3 ⊢
      have hsl : InSlot (c + 1) s := by
        unfold follows at hfo
        have h6 := of_decide_eq_true hfo
        unfold InSlot
        refine ⟨by omega, h6.1, ?_, h6.2.1, ?_⟩
        · rcases Int.lt_or_le s.1 (top : Int) with h7 | h7
          · exact h7
          · exact absurd (.inr (.inl h7)) hf
        · rcases Int.lt_or_le s.2 (top : Int) with h7 | h7
          · exact h7
          · exact absurd (.inr (.inr h7)) hf
      have hl := slotForm_le (c + 1) s
      have hb := byt_le h2
      have hback := slot_back hsl
      obtain ⟨b, hbe⟩ : ∃ b, b = slotForm (c + 1) s := ⟨_, rfl⟩
      have hcut : ∀ m, m < b.length → (slot (b.take m)).1 = 0 := fun m hm => by rw [hbe] at hm ⊢; exact slot_cut hsl hm
      rw [← hbe] at hl hback ⊢
      obtain ⟨r, d', e1, e2, e3, e4⟩ := saveF_slot (k := nextK p) (b := b) h1 (by rw [used_fsOf]; omega)
      refine ⟨r, d', e1, ?_, fun hx => ⟨.inl (e3 hx).1, (e3 hx).2⟩⟩
      -- what a slot other than the newest may be
      have get2 : ∀ (o : Slt), (∀ b2 s2, o = some (b2, s2) → b2.length ≤ 31 ∧ s2 = b2.length) → ∀ k b2 s2, getK (setK p (nextK p) o) k = some (b2, s2) → b2.length ≤ 31 ∧ s2 = b2.length := by
        intro o ho k b2 s2 hk
        by_cases hkk : k = nextK p
        · rw [hkk, get_set] at hk
          exact ho b2 s2 hk
        · have : k = !(nextK p) := not_of_ne hkk
          rw [this, get_set_ne] at hk
          exact h2 _ b2 s2 hk
      have whole : ∀ d2 : Dk, d2.room = d.room → d2.fs = fsOf (setK p (nextK p) (some (b, b.length))) → Inv d2 (n + 1) s := fun d2 hr hd2 => by
        have hm := newest_more p (some (b, b.length)) s (by rw [← hc]; exact hback)
        refine ⟨_, hd2, get2 _ (fun b2 s2 e => by cases e; exact ⟨hl, rfl⟩), ?_, ?_, by rw [hr]; exact h5⟩
        · rw [hm, ← hc]; simp only; omega
        · rw [hm]
      have cuts : ∀ (d2 : Dk) (o : Slt), d2.room = d.room → d2.fs = fsOf (setK p (nextK p) o) → (slot (byt o)).1 = 0 → (∀ b2 s2, o = some (b2, s2) → b2.length ≤ 31 ∧ s2 = b2.length) → Inv d2 (n + 1) has := fun d2 o hr hd2 hs ho => by
        have hm := newest_cut p o hs
        exact ⟨_, hd2, get2 o ho, by rw [hm, ← hc]; omega, by rw [hm, h4], by rw [hr]; exact h5⟩
      rcases e4 with ⟨rfl, e5⟩ | ⟨rfl, e5⟩
      · exact .inl ⟨rfl, hfo, whole d' e2 e5⟩
      · refine .inr (.inr ⟨rfl, hfo, fun ks => ?_⟩)
        rcases e5 with e5 | e5 | e5
        · refine .inl ⟨p, ?_, h2, by rw [← hc]; omega, h4, by show _ ≤ d'.room; rw [e2]; exact h5⟩
          show D.crashFs d'.fs ks = _
          rw [e5, crash_same h2]
        · refine .inl (cuts _ none e2 ?_ slot_nil fun b2 s2 e => by cases e)
          show D.crashFs d'.fs ks = _
          rw [e5, crash_same (get2 none fun b2 s2 e => by cases e)]
        · obtain ⟨p2, f1, f2, f3⟩ := crash_fsOf (setK p (nextK p) (some (b, 0))) ks fun k b2 s2 hk => by
            by_cases hkk : k = nextK p
            · rw [hkk, get_set] at hk
              cases hk; omega
            · have : k = !(nextK p) := not_of_ne hkk
              rw [this, get_set_ne] at hk
              have := (h2 _ b2 s2 hk).2
              omega
          have hp2 : ∃ m, m ≤ b.length ∧ p2 = setK p (nextK p) (some (b.take m, m)) := by
            obtain ⟨pa, pb⟩ := p
            obtain ⟨qa, qb⟩ := p2
            cases hq : nextK (pa, pb) with
            | false =>
              rw [hq] at f2 f3
              obtain ⟨m, m1, m2, m3⟩ := f2
              have := stays_same f3 fun b s e => (h2 true b s e).2
              simp only at m3 this
              exact ⟨m, m2, by rw [m3, this]; rfl⟩
            | true =>
              rw [hq] at f2 f3
              obtain ⟨m, m1, m2, m3⟩ := f3
              have := stays_same f2 fun b s e => (h2 false b s e).2
              simp only at m3 this
              exact ⟨m, m2, by rw [m3, this]; rfl⟩
          obtain ⟨m, hm, rfl⟩ := hp2
          have hfs : (D.crash d' ks).2.fs = fsOf (setK p (nextK p) (some (b.take m, m))) := by
            show D.crashFs d'.fs ks = _
            rw [e5, f1]
          by_cases hmb : m = b.length
          · subst hmb
            rw [List.take_length] at hfs
            exact .inr (whole _ e2 hfs)
          · refine .inl (cuts _ _ e2 hfs (hcut m (by omega)) fun b2 s2 e => ?_)
            cases e
            rw [List.length_take]
            omega

/-- A save on a disk that doesn't stop. -/
theorem save_free {d : Dk} {n : Nat} {has s : Int × Int} (h : Inv d n has) (hn : n + 1 < top) (he : d.ends = false) (h1 : s.1 < (top : Int)) (h2 : s.2 < (top : Int)) :
    (follows s has = true ∧ ∃ d', save d has s = (0, d') ∧ Inv d' (n + 1) s ∧ d'.ends = false) ∨ (follows s has = false ∧ save d has s = (2, d)) := by
  obtain ⟨r, d', e1, e2, e3⟩ := save_inv (s := s) h hn
  have e3 := e3 he
  rcases e2 with ⟨rfl, e4, e5⟩ | ⟨rfl, rfl, e4⟩ | ⟨rfl, -, -⟩
  · exact .inl ⟨e4, d', e1, e5, e3.2⟩
  · refine .inr ⟨?_, e1⟩
    rcases e4 with e4 | e4 | e4
    · exact e4
    · omega
    · omega
  · rcases e3.1 with h | h <;> cases h

theorem follows_trans {a b c : Int × Int} (h1 : follows a b = true) (h2 : follows b c = true) : follows a c = true := by
  unfold follows at *
  have h1 := of_decide_eq_true h1
  have h2 := of_decide_eq_true h2
  apply decide_eq_true
  omega
end Go.Proofs.YtikcdchmggdmdaaDoor.M

/- Part: HardRow. -/
namespace Go.Proofs.YtikcdchmggdmdaaDoor.M
open Go.RowKit Go.Maps
open D (Fl Dk)

def cells2 (l : List (Int × Int)) : List Value := (l.map fun s => [Value.int .i64 s.1, Value.int .i64 s.2]).flatten

theorem cells2_nil : cells2 [] = [] := rfl
theorem cells2_append (a b : List (Int × Int)) : cells2 (a ++ b) = cells2 a ++ cells2 b := by simp [cells2]
theorem cells2_one (s : Int × Int) : cells2 [s] = [.int .i64 s.1, .int .i64 s.2] := rfl
theorem cells2_length (l : List (Int × Int)) : (cells2 l).length = l.length * 2 := by
  induction l with
  | nil => rfl
  | cons a l ih => simp [cells2] at ih ⊢; omega

theorem cells2_get : ∀ (l : List (Int × Int)) (i : Nat) (hi : i < l.length), (cells2 l)[i * 2]? = some (.int .i64 l[i].1) ∧ (cells2 l)[i * 2 + 1]? = some (.int .i64 l[i].2)
  | a :: l, 0, _ => ⟨rfl, rfl⟩
  | a :: l, i + 1, hi => by
    have h := cells2_get l i (by simpa using hi)
    have e : cells2 (a :: l) = .int .i64 a.1 :: .int .i64 a.2 :: cells2 l := rfl
    rw [e, show (i + 1) * 2 = i * 2 + 1 + 1 by omega]
    simpa using h

/-- A row of states of a call's own. -/
def OwnSt (base : Nat) (l : List (Int × Int)) (v : Value) (w : World) : Prop := w.ownsRow base 23 2 v l.length (cells2 l)

theorem OwnSt.rep {base : Nat} {l : List (Int × Int)} {v : Value} {w : World} (h : OwnSt base l v w) : RepSts w (fun b => base ≤ b ∧ b < w.heap.size) l v := by
  obtain ⟨hx, h | ⟨g, cap, cur, hv, hg, hcur, hn, hm, hs, ht⟩⟩ := h
  · obtain ⟨rfl, h2⟩ := h
    rw [List.length_eq_zero_iff] at h2
    exact .inl ⟨h2, Bare.nil⟩
  · refine .inr ⟨g, 0, cap, hv, ⟨hg, lt_of_heap hcur⟩, hn, by unfold maxLen at hm; omega, fun i hi => ?_⟩
    have hc := fun j => cell_of_row w g j _ _ _ hcur
    have hget := cells2_get l i hi
    rw [← ht] at hget
    rw [List.getElem?_take, List.getElem?_take] at hget
    rw [if_pos (by omega), if_pos (by omega)] at hget
    simp only [Array.getElem?_toList] at hget
    exact ⟨(hc _).trans (by simpa using hget.1), (hc _).trans (by simpa using hget.2)⟩

theorem OwnSt.lt {base : Nat} {l : List (Int × Int)} {v : Value} {w : World} (h : OwnSt base l v w) {g : Nat} (hg : v.ownBlock = some g) : base ≤ g ∧ g < w.heap.size := by
  obtain ⟨hx, h | ⟨g', cap, cur, hv, hgb, hcur, -⟩⟩ := h
  · rw [h.1] at hg; cases hg
  · rw [hv] at hg; cases hg; exact ⟨hgb, lt_of_heap hcur⟩

theorem OwnSt.same {base : Nat} {l : List (Int × Int)} {v : Value} {w w' : World} (h : OwnSt base l v w) (hb : ∀ g, v.ownBlock = some g → w'.heap[g]? = w.heap[g]?) : OwnSt base l v w' := by
  obtain ⟨hx, h | ⟨g, cap, cur, hv, hg, hcur, hr⟩⟩ := h
  · exact ⟨hx, .inl h⟩
  · exact ⟨hx, .inr ⟨g, cap, cur, hv, hg, (hb g (by rw [hv]; rfl)).trans hcur, hr⟩⟩

theorem OwnSt.slice {base : Nat} {l : List (Int × Int)} {v : Value} {w : World} (h : OwnSt base l v w) : ∃ a c, v = .slice a l.length c := owned_slice h

/-- What keeps a disk's state, beside a row of states. -/
structure CS (w : World) (gd gh : Nat) (d : Dk) (has : Int × Int) (l : List (Int × Int)) (v : Value) (wr : World) : Prop where
  ex : ∃ X, HS w X gd gh d has wr ∧ (∀ g, v.ownBlock = some g → ¬ X g ∧ g ≠ gh)
  row : OwnSt w.heap.size l v wr

theorem CS.next {w wr w' : World} {gd gh : Nat} {d : Dk} {has : Int × Int} {l : List (Int × Int)} {v : Value} (h : CS w gd gh d has l v wr) (hb : Below wr.heap.size wr w') : CS w gd gh d has l v w' := by
  obtain ⟨⟨X, h1, h2⟩, h3⟩ := h
  exact ⟨⟨X, h1.next hb, h2⟩, h3.same fun g hg => hb.block g (h3.lt hg).2⟩

theorem CS.below {w wr : World} {gd gh : Nat} {d : Dk} {has : Int × Int} {l : List (Int × Int)} {v : Value} (h : CS w gd gh d has l v wr) : Below w.heap.size w wr := by
  obtain ⟨⟨X, h1, -⟩, -⟩ := h
  exact h1.ds.below

/-- Behind a call that turns the disk alone, and what keeps it. -/
theorem CS.call {w wr w' : World} {X X' : Nat → Prop} {gd gh : Nat} {d d' : Dk} {has has' : Int × Int} {l : List (Int × Int)} {v : Value} (h : HS w X gd gh d has wr) (hv : ∀ g, v.ownBlock = some g → ¬ X g ∧ g ≠ gh) (h3 : OwnSt w.heap.size l v wr)
    (ho : Only (fun k => X k ∨ k = gh) wr w') (hX : ∀ k, X' k → X k ∨ wr.heap.size ≤ k) (h' : HS w X' gd gh d' has' w') : CS w gd gh d' has' l v w' := by
  refine ⟨⟨X', h', fun g hg => ⟨fun hx => ?_, (hv g hg).2⟩⟩, h3.same fun g hg => ho.block g (h3.lt hg).2 fun hx => ?_⟩
  · rcases hX g hx with h | h
    · exact (hv g hg).1 h
    · have := (h3.lt hg).2; omega
  · rcases hx with hx | hx
    · exact (hv g hg).1 hx
    · exact (hv g hg).2 hx

theorem CS.append {w wr w' : World} {gd gh : Nat} {d : Dk} {has s : Int × Int} {l : List (Int × Int)} {v v' : Value} (h : CS w gd gh d has l v wr) (ha : AppLeft wr w.heap.size 23 2 v l.length 1 (cells2 l) [.int .i64 s.1, .int .i64 s.2] v' w') : CS w gd gh d has (l ++ [s]) v' w' := by
  obtain ⟨⟨X, h1, h2⟩, h3⟩ := h
  obtain ⟨ho, hg, hb⟩ := ha
  have hz := h1.ds.below.size
  have hgz := lt_of_heap h1.blk
  have hds : DS w X gd d w' := by
    refine ⟨⟨hg.os.trans h1.ds.below.os, hg.tape.trans h1.ds.below.tape, hg.output.trans h1.ds.below.output, Nat.le_trans hz hg.size, fun k hk => ?_⟩, h1.ds.own, ⟨h1.ds.dsk.1.same (fun _ h => h) fun k hk => hg.block k (h1.ds.lt k hk) fun e => (h2 k e.symm).1 hk, fun k hk => Nat.lt_of_lt_of_le (h1.ds.lt k hk) hg.size⟩, h1.ds.well⟩
    rw [hg.block k (Nat.lt_of_lt_of_le hk hz) fun e => by have := (h3.lt e.symm).1; omega]
    exact h1.ds.below.block k hk
  refine ⟨⟨X, ⟨hds, (hg.block gh hgz fun e => (h2 gh e.symm).2 rfl).trans h1.blk, h1.out, h1.new⟩, fun g hgg => ?_⟩, ?_⟩
  · rcases hb with hb | hb
    · exact h2 g (hb ▸ hgg)
    · rw [hgg] at hb
      cases hb
      exact ⟨fun hx => by have := h1.ds.lt _ hx; omega, by omega⟩
  · show w'.ownsRow _ _ 2 v' (l ++ [s]).length (cells2 (l ++ [s]))
    rw [List.length_append, cells2_append, cells2_one]
    exact ho

/-- Opened anew. -/
theorem CS.open {w wr w' : World} {gd gh g2 : Nat} {d : Dk} {has has' : Int × Int} {l : List (Int × Int)} {v : Value} (h : CS w gd gh d has l v wr) (hb : Below wr.heap.size wr w') (hg : wr.heap.size ≤ g2)
    (hk : w'.heap[g2]? = some (.cells #[.int .i64 has'.1, .int .i64 has'.2, .pointer (some ⟨gd, 0, none⟩)] 43)) : CS w gd g2 d has' l v w' := by
  obtain ⟨⟨X, h1, h2⟩, h3⟩ := h
  have hz := h1.ds.below.size
  exact ⟨⟨X, ⟨h1.ds.next hb, hk, fun hx => by have := h1.ds.lt _ hx; omega, by omega⟩, fun g hgg => ⟨(h2 g hgg).1, by have := (h3.lt hgg).2; omega⟩⟩, h3.same fun g hgg => hb.block g (h3.lt hgg).2⟩

/-- One state in a block of its own, yielded. -/
theorem yields_one {w : World} {s : Int × Int} {t : TypeId} {g : Nat} (hg : g = w.heap.size) : Yields (w.alloc (.cells #[.int .i64 s.1, .int .i64 s.2] t)) (.slice (some ⟨g, 0, none⟩) 1 1) 1 2 [.int .i64 s.1, .int .i64 s.2] := by
  subst hg
  refine ⟨rfl, fun u hu => ?_, .inr ⟨_, _, rfl, fun j u hj => ?_⟩⟩
  · simp at hu
    rcases hu with rfl | rfl <;> rfl
  · have h := cell_of_row _ w.heap.size j _ t _ (heap_alloc_new w (.cells #[.int .i64 s.1, .int .i64 s.2] t))
    rw [addr_add, Nat.zero_add, h]
    simpa using hj

theorem eqState_any (a b c d : Int) (w : World) : (Op.equalIn 10000 23 (.agg #[.int .i64 a, .int .i64 b]) (.agg #[.int .i64 c, .int .i64 d])).run Tryd.prog w = .ok (decide ((a, b) = (c, d))) w := by
  go_simp
  by_cases h1 : a = c <;> by_cases h2 : b = d <;> simp [h1, h2]

theorem infoState : (Tryd.prog.info? 23).map (fun i => (i.zero, i.size, i.bytes)) = some (some (.agg #[.int .i64 0, .int .i64 0]), 2, 16) := by kernel_rfl
end Go.Proofs.YtikcdchmggdmdaaDoor.M
