/- Package segment: names. A log on its disk, in a law's own memory. -/
import Derived.Test.YtamgjlegcegmeaaGreatDoorSD29
import Derived.Test.YtamgjlegcegmeaaGreatDoorSD30
import Derived.Test.YtamgjlegcegmeaaGreatDoorSD25
/- Part: SegName. -/
namespace Go.Proofs.YtamgjlegcegmeaaGreatDoor.M
open Go.RowKit
open D (Fl Dk)

set_option maxRecDepth 20000 in
theorem nameOf_any (i : Int) (w : World) (h0 : 0 ≤ i) (h1 : i < 10000000000) (hT : Hid (Pow10 w)) :
    Calls Tryz.prog 55 #[.int .i64 i] w fun e w' => e = .returned (.string (sgName i)) ∧ Below w.heap.size w w' := by
  obtain ⟨hl, hp⟩ := dg_pad 9 i.toNat (by omega)
  have HP := Lib.hid hp
  have HL := Lib.hid hl
  have hpos := decDigits_pos i.toNat
  have HI := Lib.hid (itoa_any i w h0 h1 hT)
  obtain ⟨L, hL⟩ : ∃ L, L = Lib.decDigits i.toNat := ⟨_, rfl⟩
  rw [← hL] at HI hl hpos
  obtain ⟨n, hn⟩ : ∃ n, n = L.length := ⟨_, rfl⟩
  have HLE := Lib.hid hL
  have HNE := Lib.hid hn
  rw [← hn] at hl hpos
  have hsz : (⟨L.toArray⟩ : ByteArray).size = n := by rw [hn]; rfl
  clear hp hL hn
  go_enter Tryz.func55, Tryz.ntmps55
  go_wp2_with fail
  refine HI.out.mono ?_
  rintro e w1 ⟨rfl, hb1⟩
  go_wp2_with fail
  refine (repeat_any (max (10 - (n : Int)) 0) w1 (by omega) (by omega)).mono ?_
  rintro e w2 ⟨rfl, hb2⟩
  have HB : Hid (Below w.heap.size w w2) := Lib.hid (hb1.trans (hb2.mono hb1.size))
  obtain ⟨m, hm⟩ : ∃ m, m = (max (10 - (n : Int)) 0).toNat := ⟨_, rfl⟩
  have HM : Hid (m = 10 - n) := Lib.hid (by omega)
  rw [← hm]
  have hmn : ¬ 9223372036854775807 < 4 + m + n := by omega
  clear hb1 hb2 hm
  go_wp2_with fail
  go_ret
  refine ⟨?_, HB.out⟩
  have hc : sgName i = (⟨#[115, 101, 103, 45]⟩ : ByteArray) ++ ⟨Array.replicate m 48⟩ ++ ⟨L.toArray⟩ := by
    unfold sgName
    rw [show dg 10 i.toNat = List.replicate m 48 ++ L by rw [HLE.out, HM.out, HNE.out, HLE.out]; exact HP.out]
    apply ByteArray.ext
    simp
  rw [hc]
  rfl
end Go.Proofs.YtamgjlegcegmeaaGreatDoor.M

/- Part: SegLog. -/
namespace Go.Proofs.YtamgjlegcegmeaaGreatDoor.M
open Go.RowKit Go.Maps
open D (Fl Dk)

/-- A log and its disk; K: what stays as it is. -/
structure LS (K : Nat → Obj → Prop) (w : World) (X Xd : Nat → Prop) (g gd : Nat) (least : Int) (h : Hd) (d : Dk) (wr : World) : Prop where
  ds : DS w Xd gd d wr
  lg : Lg wr X g gd least h
  own : ∀ k, X k → w.heap.size ≤ k
  dis : ∀ k, X k → ¬ Xd k
  kp : ∀ k o, K k o → wr.heap[k]? = some o ∧ ¬ X k ∧ ¬ Xd k

section
variable {K : Nat → Obj → Prop} {w wr : World} {X Xd : Nat → Prop} {g gd : Nat} {least : Int} {h : Hd} {d : Dk}

theorem LS.below (l : LS K w X Xd g gd least h d wr) : Below w.heap.size w wr := l.ds.below

theorem LS.lt (l : LS K w X Xd g gd least h d wr) {k : Nat} (hk : X k) : k < wr.heap.size := l.lg.2 k hk

theorem LS.next {w' : World} (l : LS K w X Xd g gd least h d wr) (hb : Below wr.heap.size wr w') : LS K w X Xd g gd least h d w' :=
  ⟨l.ds.next hb, l.lg.next hb, l.own, l.dis, fun k o hk => ⟨old_below (l.kp k o hk).1 hb, (l.kp k o hk).2⟩⟩

/-- Behind a call on the disk. -/
theorem LS.disk {w' : World} {r : Int × Dk} {x : Ending} (l : LS K w X Xd g gd least h d wr) (hp : DPost w Xd gd wr r x w') : x = .returned (.int .i64 r.1) ∧ ∃ Xd', LS K w X Xd' g gd least h r.2 w' := by
  obtain ⟨h1, ho, Xd', hx, hd⟩ := hp
  refine ⟨h1, Xd', hd, l.lg.only ho l.dis, l.own, fun k hk hk2 => ?_, fun k o hk => ?_⟩
  · rcases hx k hk2 with h | h
    · exact l.dis k hk h
    · have := l.lt hk; omega
  · obtain ⟨k1, k2, k3⟩ := l.kp k o hk
    exact ⟨(ho.block k (lt_of_heap k1) k3).trans k1, k2, fun h => (hx k h).elim k3 fun h => by have := lt_of_heap k1; omega⟩

/-- Behind what turns the log's own memory alone. -/
theorem LS.self {w' : World} {X' : Nat → Prop} {h' : Hd} (l : LS K w X Xd g gd least h d wr) (ho : Only X wr w') (hx : ∀ k, X' k → X k ∨ wr.heap.size ≤ k) (hl : Lg w' X' g gd least h') : LS K w X' Xd g gd least h' d w' := by
  refine ⟨⟨⟨ho.os.trans l.below.os, ho.tape.trans l.below.tape, ho.output.trans l.below.output, Nat.le_trans l.below.size ho.size, fun k hk => ?_⟩, l.ds.own, ⟨l.ds.dsk.1.same (fun _ h => h) fun k hk => ho.block k (l.ds.lt k hk) fun hx2 => l.dis k hx2 hk, fun k hk => Nat.lt_of_lt_of_le (l.ds.lt k hk) ho.size⟩, l.ds.well⟩,
    hl, fun k hk => ?_, fun k hk hk2 => ?_, fun k o hk => ?_⟩
  · rw [ho.block k (Nat.lt_of_lt_of_le hk l.below.size) fun hx2 => by have := l.own k hx2; omega]
    exact l.below.block k hk
  · rcases hx k hk with h | h
    · exact l.own k h
    · exact Nat.le_trans l.below.size h
  · rcases hx k hk with h | h
    · exact l.dis k h hk2
    · have := l.ds.lt k hk2; omega
  · obtain ⟨k1, k2, k3⟩ := l.kp k o hk
    exact ⟨(ho.block k (lt_of_heap k1) k2).trans k1, fun h => (hx k h).elim k2 fun h => by have := lt_of_heap k1; omega, k3⟩

/-- All else stays as it is now. -/
theorem LS.keep (l : LS K w X Xd g gd least h d wr) : LS (fun k o => wr.heap[k]? = some o ∧ ¬ X k ∧ ¬ Xd k) w X Xd g gd least h d wr := ⟨l.ds, l.lg, l.own, l.dis, fun _ _ h => h⟩

/-- What stayed stays. -/
theorem LS.stay {w' : World} {X' Xd' : Nat → Prop} {h' : Hd} {d' : Dk} (l : LS K w X Xd g gd least h d wr) (l' : LS (fun k o => wr.heap[k]? = some o ∧ ¬ X k ∧ ¬ Xd k) w X' Xd' g gd least h' d' w') : LS K w X' Xd' g gd least h' d' w' :=
  ⟨l'.ds, l'.lg, l'.own, l'.dis, fun k o hk => l'.kp k o (l.kp k o hk)⟩
end

/-- Bounds of what is held. -/
structure HdOk (h : Hd) : Prop where
  rl : h.rows.length ≤ 1000000
  fl : h.files.length ≤ 1000000
  fb : ∀ f ∈ h.files, (0 ≤ f.first ∧ f.first < 10000000000) ∧ (0 ≤ f.size ∧ f.size ≤ 1099511627776)
  m : (0 ≤ h.mi ∧ h.mi < 10000000000) ∧ (0 ≤ h.mt ∧ h.mt < 10000000000)
  rb : ∀ r ∈ h.rows, (0 ≤ r.e.idx ∧ r.e.idx < 10000000000) ∧ (0 ≤ r.e.term ∧ r.e.term < 10000000000) ∧ (0 ≤ r.e.kind ∧ r.e.kind ≤ 255) ∧ r.e.b.length ≤ 1048576

theorem lastOf_eq {h : Hd} {rv : List (Rw × Value)} (hr : rv.map (·.1) = h.rows) : lastOf h.mi h.mt rv = h.last := by
  unfold lastOf Hd.last
  rw [← hr, List.getLast?_map]
  cases rv.getLast? <;> rfl

theorem last_in {h : Hd} (ho : HdOk h) : (0 ≤ h.last.1 ∧ h.last.1 < 10000000000) ∧ (0 ≤ h.last.2 ∧ h.last.2 < 10000000000) := by
  unfold Hd.last
  cases hl : h.rows.getLast? with
  | none => exact ho.m
  | some r => have := ho.rb r (List.mem_of_getLast? hl); exact ⟨this.1, this.2.1⟩

theorem LgAt.slices {w : World} {X : Nat → Prop} {g gd : Nat} {least : Int} {h : Hd} {vr vf : Value} {rv : List (Rw × Value)} (l : LgAt w X g gd least h vr vf rv) : ∀ p ∈ rv, ∃ a n c, p.2 = .slice a n c := fun p hp => by
  obtain ⟨B, h1, -⟩ := l.bod p hp
  obtain ⟨a, c, h2, -⟩ := h1.slice
  exact ⟨a, _, c, h2⟩

theorem Lg.last_any {w : World} {X : Nat → Prop} {g gd : Nat} {least : Int} {h : Hd} (l : Lg w X g gd least h) :
    Calls Tryz.prog 24 #[.pointer (some ⟨g, 0, none⟩)] w fun e w' => e = .returned (.agg #[.int .i64 h.last.1, .int .i64 h.last.2]) ∧ Below w.heap.size w w' := by
  obtain ⟨⟨vr, vf, rv, l⟩, -⟩ := l
  have := SgLast_any g h.mi h.mt h.synced vr vf rv w l.hc l.rrow l.slices
  rw [lastOf_eq l.rows] at this
  exact this

theorem Lg.place_any {w : World} {X : Nat → Prop} {g gd : Nat} {least : Int} {h : Hd} (l : Lg w X g gd least h) (ho : HdOk h) (ix : Int) :
    Calls Tryz.prog 34 #[.pointer (some ⟨g, 0, none⟩), .int .i64 ix] w fun e w' => e = .returned (.tuple (if ix ≤ h.mi ∨ h.last.1 < ix then #[.int .i64 0, .bool false] else #[.int .i64 (ix - h.mi - 1), .bool true])) ∧ Below w.heap.size w w' := by
  obtain ⟨⟨vr, vf, rv, l⟩, -⟩ := l
  have hl := last_in ho
  have hm := ho.m
  have := Place_any g h.mi h.mt h.synced vr vf rv ix w l.hc l.rrow l.slices (by omega) (by rw [lastOf_eq l.rows]; omega)
  rw [lastOf_eq l.rows] at this
  exact this
end Go.Proofs.YtamgjlegcegmeaaGreatDoor.M
