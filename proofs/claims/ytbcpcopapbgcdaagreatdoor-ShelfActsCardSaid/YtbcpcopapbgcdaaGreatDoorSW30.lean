/- Package shelf: the newest snapshot on a disk. Package shelf: the newest snapshot on a disk: the loop over the names. Package shelf: what is aside is dropped; a file is written. Package shelf: a shelf in a law's own memory; Open, Newest, Put. Package shelf: Put. Package shelf: Clean. The document's Same, and a law's snap. -/
import Derived.RangeFuncNested
import Derived.RangeFuncBound
import Derived.RangeFuncCalls
import Derived.RangeFuncLeaves
import Derived.RangeFuncBox
import Derived.Shelf.Abstract
import Derived.Shelf.RegionOpen
import Derived.WalkKit
import Derived.OwnWalkIn
import Derived.TacticsInMore
import Derived.LoopNIn
import Derived.LoopIn
import Derived.Test.YtbcpcopapbgcdaaGreatDoorSW29
/- Part: ShH. -/
namespace Go.Proofs.YtbcpcopapbgcdaaGreatDoor.M
open Go.RowKit Go.Shelf Go.Maps
open D (Fl Dk)

attribute [local go_sem] Oper.semAt_some

/-- What has come when k rounds are over. -/
def upto {α : Type} (f : Nat → α) (k : Nat) : List α := (List.range k).map f
theorem upto_succ {α : Type} (f : Nat → α) (k : Nat) : upto f (k + 1) = upto f k ++ [f k] := by simp [upto, List.range_succ]
theorem upto_length {α : Type} (f : Nat → α) (k : Nat) : (upto f k).length = k := by simp [upto]

/-- A name of a size that a machine may have. -/
abbrev Nm := { s : ByteArray // s.size ≤ 9223372036854775807 }

def noNm : Nm := ⟨ByteArray.empty, by decide⟩

/-- The k-th of a list's names, from its end, and its place. -/
def bkAt (ls : List Nm) (k : Nat) : Nat × Nm := (ls.length - 1 - k, ls[ls.length - 1 - k]?.getD noNm)

theorem bkAt_of (ls : List Nm) (m : Nat) (h : m < ls.length) : bkAt ls (((ls.length : Int) - 1 - (m : Int)).toNat) = (m, ls[m]) := by
  unfold bkAt
  have e : ls.length - 1 - (((ls.length : Int) - 1 - (m : Int)).toNat) = m := by omega
  rw [e, List.getElem?_eq_getElem h]
  rfl

set_option maxRecDepth 100000 in
set_option maxHeartbeats 2000000 in
theorem back1_in (F : Fence) (n : Nat) (h8 : F.fn 167) (hro : F.round = none) (hn : 1 ≤ n) (l Bs n₀ b off len cap : Nat) (ls : List Nm) (hlen : len = ls.length) (hreach : len ≤ 140737488351232) (hb : b < n₀) (J Jx : List (Nat × Nm) → World → Prop)
    (hY : ∀ pre x W, J pre W → pre.length < len → YieldAt F (n - 1) Tryz.prog l #[.int .i64 (x.1 : Int), .string x.2.1] W fun e W' =>
      (e = .returned (.bool true) ∧ J (pre ++ [x]) W' ∧ Below n₀ W W') ∨ (e = .returned (.bool false) ∧ Jx (pre ++ [x]) W'))
    (W : World) (hBs : W.cell? ⟨Bs, 0, none⟩ = some (.slice (some ⟨b, off, none⟩) len cap)) (hBz : Bs < n₀) (hc : ∀ j (hj : j < ls.length), W.cell? ⟨b, off + j, none⟩ = some (.string ls[j].1)) (h0 : J [] W) :
    CallsIn F n Tryz.prog 167 #[.func (.yield l) #[] #[], .pointer (some ⟨Bs, 0, none⟩)] W fun e W' => (∃ v, e = .returned v) ∧
      ((∃ ys, ys = upto (bkAt ls) len ∧ J ys W') ∨ (∃ pre, (∃ k, k ≤ len ∧ pre = upto (bkAt ls) k) ∧ Jx pre W')) := by
  have HLEN := Lib.hid hlen
  clear hlen
  refine callsIn_of_wp Tryz.func167 rfl h8 ?_ hro
  simp only [Tryz.ntmps167, List.size_toArray, List.length_cons, List.length_nil, Nat.reduceAdd, Nat.reduceSub, Array.replicate_succ, Array.replicate_zero, List.push_toArray, List.append_toArray, List.nil_append, List.cons_append]
  gi_wp2
  gi_loopw [3] (fun i wr => ∃ x : Int, -1 ≤ x ∧ x < (len : Int) ∧ i = .int .i64 x ∧ J (upto (bkAt ls) (((len : Int) - 1 - x).toNat)) wr ∧ Below n₀ W wr)
    (fun i _ => (intOf i + 1).toNat)
  case atStart => exact ⟨(len : Int) - 1, by omega, by omega, rfl, by rw [show ((len : Int) - 1 - ((len : Int) - 1)).toNat = 0 by omega]; exact h0, Below.refl _ _⟩
  case round =>
    obtain ⟨x, hx1, hx2, rfl, hJs, hnx⟩ := hrel
    by_cases hlt : 0 ≤ x
    · obtain ⟨m, rfl⟩ := Int.eq_ofNat_of_zero_le hlt
      have hm : m < ls.length := by have := HLEN.out; omega
      have hcx : wr.cell? ⟨b, off + m, none⟩ = some (.string ls[m].1) := (hnx.cell (p := ⟨b, off + m, none⟩) hb).trans (hc m hm)
      have hbx : wr.cell? ⟨Bs, 0, none⟩ = some (.slice (some ⟨b, off, none⟩) len cap) := (hnx.cell (p := ⟨Bs, 0, none⟩) hBz).trans hBs
      have hbk : bkAt ls (((len : Int) - 1 - (m : Int)).toNat) = (m, ls[m]) := by rw [HLEN.out]; exact bkAt_of ls m hm
      have hus : upto (bkAt ls) (((len : Int) - 1 - ((m : Int) - 1)).toNat) = upto (bkAt ls) (((len : Int) - 1 - (m : Int)).toNat) ++ [(m, ls[m])] := by
        rw [show ((len : Int) - 1 - ((m : Int) - 1)).toNat = ((len : Int) - 1 - (m : Int)).toNat + 1 by omega, upto_succ, hbk]
      obtain ⟨nm, hnm⟩ : ∃ nm, nm = ls[m] := ⟨_, rfl⟩
      rw [← hnm] at hcx hus
      clear hnm hbk
      obtain ⟨fn, tmps, assign, body, hy, hR⟩ := hY _ (m, nm) wr hJs (by rw [upto_length]; omega)
      dsimp only at hy
      have hml : (m : Int) < (len : Int) := hx2
      gi_wp2
      refine hR.mono ?_
      rintro e W3 (⟨rfl, hJ3, hk3⟩ | ⟨rfl, hJx3⟩)
      · gi_wp2
        go_roundw
        case rel => exact ⟨(m : Int) - 1, by omega, by omega, rfl, by rw [hus]; exact hJ3, hnx.trans hk3⟩
        case measure => simp [intOf] <;> omega
      · gi_wp2
        refine bodyPost_ret (results_none rfl _ _ _) rfl ?_
        exact ⟨⟨_, rfl⟩, .inr ⟨_, ⟨((len : Int) - 1 - ((m : Int) - 1)).toNat, by omega, hus.symm⟩, hJx3⟩⟩
    · have hx : x = -1 := by omega
      subst hx
      gi_wp2
      go_end0
      rw [show ((len : Int) - 1 - (-1)).toNat = len by omega] at hJs
      first
        | exact ⟨⟨_, rfl⟩, .inl ⟨_, rfl, hJs⟩⟩
        | exact ⟨⟨_, rfl⟩, .inl hJs⟩

theorem upto_take {α : Type} (f : Nat → α) {k n : Nat} (h : k ≤ n) : upto f k = (upto f n).take k := by
  unfold upto
  rw [← List.map_take, List.take_range, Nat.min_eq_left h]

set_option maxRecDepth 100000 in
set_option maxHeartbeats 1000000 in
/-- .. at a slice without elements: no round. -/
theorem back1_nil_in (F : Fence) (n : Nat) (h8 : F.fn 167) (hro : F.round = none) (l Bs : Nat) (a : Option Addr) (c : Nat) (J : List (Nat × Nm) → World → Prop) (W : World) (hBs : W.cell? ⟨Bs, 0, none⟩ = some (.slice a 0 c)) (h0 : J [] W) :
    CallsIn F n Tryz.prog 167 #[.func (.yield l) #[] #[], .pointer (some ⟨Bs, 0, none⟩)] W fun e W' => (∃ v, e = .returned v) ∧ J [] W' := by
  refine callsIn_of_wp Tryz.func167 rfl h8 ?_ hro
  simp only [Tryz.ntmps167, List.size_toArray, List.length_cons, List.length_nil, Nat.reduceAdd, Nat.reduceSub, Array.replicate_succ, Array.replicate_zero, List.push_toArray, List.append_toArray, List.nil_append, List.cons_append]
  gi_wp2
  gi_loopw [3] (fun i wr => i = .int .i64 (-1) ∧ J [] wr) (fun _ _ => 0)
  case atStart => exact ⟨rfl, h0⟩
  case round =>
    obtain ⟨rfl, hJs⟩ := hrel
    gi_wp2
    go_end0
    exact ⟨⟨_, rfl⟩, hJs⟩

/-- Names in memory: the slice's cells, in a block below n₀; or there are none. -/
def NamesAt (n₀ : Nat) (W : World) (sv : Value) (ls : List Nm) : Prop :=
  (∃ a c, sv = .slice a 0 c ∧ ls = []) ∨ ∃ b off cap, sv = .slice (some ⟨b, off, none⟩) ls.length cap ∧ b < n₀ ∧ ∀ j (hj : j < ls.length), W.cell? ⟨b, off + j, none⟩ = some (.string ls[j].1)

theorem NamesAt.below {n₀ : Nat} {A B : World} (h : Below n₀ A B) {sv : Value} {ls : List Nm} : NamesAt n₀ A sv ls → NamesAt n₀ B sv ls
  | .inl e => .inl e
  | .inr ⟨b, off, cap, e, hb, hc⟩ => .inr ⟨b, off, cap, e, hb, fun j hj => (h.cell (p := ⟨b, off + j, none⟩) hb).trans (hc j hj)⟩

theorem back_stops (F : Fence) (n : Nat) (h8 : F.fn 167) (hro : F.round = none) (hn : 1 ≤ n) (Bs n₀ : Nat) (sv : Value) (ls : List Nm) (hreach : ls.length ≤ 140737488351232) (w : World) (hBs : Bs < w.heap.size) (hBz : Bs < n₀) (hn₀ : n₀ ≤ w.heap.size)
    (hc : w.cell? ⟨Bs, 0, none⟩ = some sv) (hI : NamesAt n₀ w sv ls) :
    SeqStopsK F n Tryz.prog 167 #[.pointer (some ⟨Bs, 0, none⟩)] (fun x : Nat × Nm => #[Value.int .i64 (x.1 : Int), Value.string x.2.1]) (Below n₀) (fun ys => ys = upto (bkAt ls) ls.length)
      (fun pre => ∃ k, k ≤ ls.length ∧ pre = upto (bkAt ls) k) ls.length w := fun l J Jx W hW _ _ hY h0 => by
  have hc' := (hW.cell (p := ⟨Bs, 0, none⟩) hBs).trans hc
  rcases hI.below (hW.mono hn₀) with ⟨a, c, rfl, rfl⟩ | ⟨b, off, cap, rfl, hb, hcs⟩
  · exact (back1_nil_in F n h8 hro l Bs a c J W hc' h0).mono fun e W' ⟨he, hj⟩ => ⟨he, .inl ⟨_, rfl, hj⟩⟩
  · exact back1_in F n h8 hro hn l Bs n₀ b off ls.length cap ls rfl hreach hb J Jx hY W hc' hBz hcs h0

/-- The call of the library: the slice is boxed, the function has the box. -/
theorem back_any (a : Option Addr) (len cap : Nat) (w : World) :
    Calls Tryz.prog 133 #[.slice a len cap] w fun e w' => e = .returned (.func (.func 167) #[] #[.pointer (some ⟨w.heap.size, 0, none⟩)]) ∧ w' = w.alloc (.cells #[.slice a len cap] 43) := by
  have hmf : ∀ (fn : Fn) (first cap : Array Value) (w : World), (Instr.makeFunc fn first cap).run Tryz.prog w = .ok (.func fn first cap) w := fun _ _ _ _ => rfl
  go_enter Tryz.func133, Tryz.ntmps133
  go_wp2_with fail
  go_ret
  exact ⟨rfl, rfl⟩

theorem RepB.kept {w w' : World} {F G : Nat → Prop} {L : List UInt8} {v : Value} {row : Option Nat} (h : RepB w F L v) (hg : w.grownBy w' row) (hr : ∀ r, row = some r → ∃ o : Obj, w.heap[r]? = some o ∧ o.isCells = false) (hF : ∀ k, F k → G k) : RepB w' G L v := by
  rcases h with h | ⟨b, off, c, hv, hb, hl, hm, hc⟩
  · exact .inl h
  · exact .inr ⟨b, off, c, hv, hF b hb, hl, hm, fun i hi => cell_kept (hc i hi) hg hr⟩
end Go.Proofs.YtbcpcopapbgcdaaGreatDoor.M

/- Part: ShI. -/
namespace Go.Proofs.YtbcpcopapbgcdaaGreatDoor.M
open Go.RowKit Go.Shelf Go.Maps
open D (Fl Dk)

attribute [local go_sem] Oper.semAt_some

/-- What a snapshot that is handed out looks like. -/
def NwPost (w : World) (x : Sn) (e : Ending) (w' : World) : Prop :=
  Below w.heap.size w w' ∧ ∃ u1 u2, e = .returned (snAgg x u1 u2) ∧ RepB w' (fun k => w.heap.size ≤ k ∧ k < w'.heap.size) x.conf u1 ∧ RepB w' (fun k => w.heap.size ≤ k ∧ k < w'.heap.size) x.body u2

theorem newest_at {fs : List Fl} (h : D.Rising fs) {m : Nat} (hm : m < fs.length) {x : Sn} (h1 : readN fs fs[m].nm = some x) (h2 : ∀ j (hj : j < fs.length), m < j → readN fs fs[j].nm = none) : newestS fs = x := by
  have e1 : readF fs[m] = some x := by rw [← readN_mem h (List.getElem_mem hm)]; exact h1
  have e2 : (fs.drop (m + 1)).filterMap readF = [] := by
    rw [List.filterMap_eq_nil_iff]
    intro g hg
    obtain ⟨i, hi, rfl⟩ := List.mem_iff_getElem.1 hg
    rw [List.length_drop] at hi
    rw [List.getElem_drop, ← readN_mem h (List.getElem_mem _)]
    exact h2 _ (by omega) (by omega)
  unfold newestS newestF
  have e3 : fs = fs.take m ++ fs[m] :: fs.drop (m + 1) := by
    rw [← List.drop_eq_getElem_cons hm, List.take_append_drop]
  have e4 : fs.filterMap readF = (fs.take m).filterMap readF ++ [x] := by
    conv => lhs; rw [e3]
    rw [List.filterMap_append, List.filterMap_cons, e1, e2]
  rw [e4]
  simp

theorem newest_no {fs : List Fl} (h : D.Rising fs) (h2 : ∀ j (hj : j < fs.length), readN fs fs[j].nm = none) : newestS fs = Sn.zero := by
  unfold newestS
  rw [newest_none.2 fun f hf => ?_]
  · rfl
  · obtain ⟨i, hi, rfl⟩ := List.mem_iff_getElem.1 hf
    rw [← readN_mem h hf]
    exact h2 i hi

theorem RdPost.form {w : World} {r : Option Sn} {e : Ending} {w' : World} (h : RdPost w r e w') : (r = none ∧ e = .returned (.tuple #[.agg #[.int .i64 0, .int .i64 0, .slice none 0 0, .slice none 0 0], .bool false])) ∨
    ∃ (x : Sn) (a1 : Option Addr) (c1 : Nat) (a2 : Option Addr) (c2 : Nat), r = some x ∧ e = .returned (.tuple #[.agg #[.int .i64 x.idx, .int .i64 x.term, .slice a1 x.conf.length c1, .slice a2 x.body.length c2], .bool true]) ∧
      RepB w' (fun k => w.heap.size ≤ k ∧ k < w'.heap.size) x.conf (.slice a1 x.conf.length c1) ∧ RepB w' (fun k => w.heap.size ≤ k ∧ k < w'.heap.size) x.body (.slice a2 x.body.length c2) := by
  cases r with
  | none => exact .inl ⟨rfl, h.2⟩
  | some x =>
    obtain ⟨-, u1, u2, he, r1, r2⟩ := h
    obtain ⟨a1, c1, rfl, -⟩ := r1.slice
    obtain ⟨a2, c2, rfl, -⟩ := r2.slice
    exact .inr ⟨x, a1, c1, a2, c2, rfl, he, r1, r2⟩

theorem keeps_below {B : Nat} {W W' : World} (h : Below W.heap.size W W') : KeepsFrom B W W' := KeepsFrom.of_grownBy (grown_of_below h) fun j e => by cases e

theorem upto_mem {α : Type} (f : Nat → α) {k n : Nat} (h : k < n) : f k ∈ upto f n := by
  unfold upto
  exact List.mem_map.2 ⟨k, List.mem_range.2 h, rfl⟩

theorem bkAt_back (ls : List Nm) (j : Nat) (h : j < ls.length) : bkAt ls (ls.length - 1 - j) = (j, ls[j]) := by
  unfold bkAt
  have e : ls.length - 1 - (ls.length - 1 - j) = j := by omega
  rw [e, List.getElem?_eq_getElem h]
  rfl

/-- A cell behind the function's own book-keeping. -/
theorem cell_put {W : World} {D : Nat} {a : Addr} {v : Value} (h : W.cell? a = some v) (hK : W.heap[D]? = some (.deferred (some []))) : (W.putObj D (.deferred none)).cell? a = some v :=
  cell_kept h (grownBy_putObj' _ D (.deferred none)) fun r e => (by cases e; exact ⟨_, hK, rfl⟩)

set_option maxRecDepth 100000 in
set_option maxHeartbeats 4000000 in
theorem ShNewest_any (d : Dk) (X : Nat → Prop) (gd : Nat) (w : World) (hd : PDskIn w X gd d) (hr : D.Rising d.fs) (hs : ∀ f ∈ d.fs, f.nm.size ≤ 9223372036854775807) (hu : D.used d.fs ≤ 1099511627776) (hn : d.fs.length ≤ 4096) (hT : Hid (Tab w)) :
    Calls Tryz.prog 78 #[.pointer (some ⟨gd, 0, none⟩)] w (NwPost w (newestS d.fs)) := by
  obtain ⟨W2, hW2⟩ : ∃ W2, W2 = (w.alloc (.cells #[.pointer (some ⟨gd, 0, none⟩)] 24)).alloc (.cells #[.int .i64 0, .int .i64 0, .slice none 0 0, .slice none 0 0] 53) := ⟨_, rfl⟩
  have HW2 := Lib.hid hW2
  have hb2 : Below w.heap.size w W2 := by rw [hW2]; exact ((Below.refl _ w).alloc (Nat.le_refl _) _).alloc (by simp) _
  have hx0 : W2.heap[w.heap.size]? = some (.cells #[.pointer (some ⟨gd, 0, none⟩)] 24) := by rw [hW2]; exact old_alloc (heap_new _ _ _ rfl)
  have hx1 : W2.heap[w.heap.size + 1]? = some (.cells #[.int .i64 0, .int .i64 0, .slice none 0 0, .slice none 0 0] 53) := by rw [hW2]; exact heap_new _ _ _ (by simp)
  have HB2 := Lib.hid hb2
  have HX0 := Lib.hid hx0
  have HX1 := Lib.hid hx1
  have HD := Lib.hid hd
  have HNC := Lib.hid (Names_any d X gd W2 (hd.next hb2) hr (by omega))
  have HS := Lib.hid hs
  have HU := Lib.hid hu
  have HR := Lib.hid hr
  have HN := Lib.hid hn
  clear hW2 hb2 hx0 hx1 hd hs hu hr hn
  refine (callsIn_wide (n := 3)).1 ?_
  refine callsIn_of_wp_marks Tryz.func78 rfl trivial ?_ rfl
  simp only [Tryz.ntmps78, List.size_toArray, List.length_cons, List.length_nil, Nat.reduceAdd, Nat.reduceSub, Array.replicate_succ, Array.replicate_zero, List.push_toArray, List.append_toArray, List.nil_append, List.cons_append]
  gi_wp2_with (first | (refine ⟨trivial, ?_⟩; gi_at_call 18; rw [← HW2.out]; refine (callsIn_wide.2 HNC.out).mono ?_; rintro e w3 ⟨v3, rfl, hb3, hown3⟩; obtain ⟨sa, sc, rfl⟩ := owned_slice hown3; have HB3 := Lib.hid (HB2.out.trans (hb3.mono HB2.out.size)); have HX03 := Lib.hid (old_below HX0.out hb3); have HX13 := Lib.hid (old_below HX1.out hb3); have HOWN := Lib.hid hown3; clear hb3 hown3) | (refine ⟨trivial, ?_⟩; gi_at_call 133; refine (callsIn_wide.2 (back_any _ _ _ _)).mono ?_; rintro e w4 ⟨rfl, rfl⟩))
  obtain ⟨W4, hW4⟩ : ∃ W4, W4 = w3.alloc (.cells #[.slice sa d.fs.length sc] 43) := ⟨_, rfl⟩
  rw [← hW4]
  have hb4 : Below w3.heap.size w3 W4 := by rw [hW4]; exact below_alloc _ _
  have hz4 : W4.heap.size = w3.heap.size + 1 := by rw [hW4]; simp
  have hcS : W4.cell? ⟨w3.heap.size, 0, none⟩ = some (.slice sa d.fs.length sc) := cell_of_row W4 w3.heap.size 0 _ _ _ (by rw [hW4]; exact heap_new _ _ _ rfl)
  have hz2 : w.heap.size + 2 ≤ w3.heap.size := by
    have h1 := (lt_of_heap HX13.out)
    omega
  obtain ⟨ls, hls⟩ : ∃ ls : List Nm, ls = d.fs.pmap (fun f h => (⟨f.nm, h⟩ : Nm)) HS.out := ⟨_, rfl⟩
  have hll : ls.length = d.fs.length := by rw [hls, List.length_pmap]
  have hlg : ∀ j (h1 : j < ls.length) (h2 : j < d.fs.length), ls[j].1 = d.fs[j].nm := fun j h1 h2 => by subst hls; rw [List.getElem_pmap]
  have hI : NamesAt W4.heap.size W4 (.slice sa d.fs.length sc) ls := by
    by_cases h0 : d.fs.length = 0
    · exact .inl ⟨sa, sc, by rw [h0], List.eq_nil_of_length_eq_zero (by omega)⟩
    · obtain ⟨g, rfl, hg1, hg2, -⟩ := row_cell HOWN.out 0 (by omega)
      refine .inr ⟨g, 0, sc, by rw [hll], by rw [hz4]; omega, fun j hj => ?_⟩
      obtain ⟨g', he, -, -, h3⟩ := row_cell HOWN.out j (by omega)
      cases he
      rw [hb4.cell (p := ⟨g, 0 + j, none⟩) hg2, Nat.zero_add, h3, List.getElem?_map, List.getElem?_eq_getElem (by omega), hlg j hj (by omega)]
      rfl
  obtain ⟨nn, hnn⟩ : ∃ nn, nn = d.fs.length := ⟨_, rfl⟩
  rw [← hnn] at hcS hI ⊢
  have HNN := Lib.hid hnn
  have HLL := Lib.hid hll
  have HLG := Lib.hid hlg
  clear hnn hll hlg hls
  have hB4 : Below w.heap.size w W4 := HB3.out.trans (hb4.mono HB3.out.size)
  obtain ⟨p0, -, -⟩ := block1 (old_below HX03.out hb4)
  obtain ⟨r0, r1, r2, r3, q0, q1, q2, q3, -⟩ := sh_four (old_below HX13.out hb4)
  refine wpIn_rangeFunc_ownG rfl (by omega) (gf := 167) (lb := #[.pointer (some ⟨w3.heap.size, 0, none⟩)]) rfl trivial (enters_of Tryz.func167 (by kernel_rfl) rfl)
    (back_stops Fence.wide _ trivial rfl (by omega) w3.heap.size W4.heap.size _ ls (by have := HN.out; have := HLL.out; omega) W4 (by omega) (by omega) (Nat.le_refl _) hcS hI) belowK_t (belowK_b (Nat.le_refl _)) (Below.refl _ _) (fun _ => rfl)
    (fun pre W => (((∀ p ∈ pre, readN d.fs p.2.1 = none) ∧ W4.heap.size ≤ W.heap.size) ∧ W.cell? ⟨w.heap.size, 0, none⟩ = some (.pointer (some ⟨gd, 0, none⟩)) ∧
      (W.cell? ⟨w.heap.size + 1, 0, none⟩ = some (.int .i64 0) ∧ W.cell? ⟨w.heap.size + 1, 1, none⟩ = some (.int .i64 0) ∧ W.cell? ⟨w.heap.size + 1, 2, none⟩ = some (.slice none 0 0) ∧ W.cell? ⟨w.heap.size + 1, 3, none⟩ = some (.slice none 0 0)) ∧
      W.frozen? ⟨w.heap.size + 1, 0, none⟩ = false ∧ W.frozen? ⟨w.heap.size + 1, 1, none⟩ = false ∧ W.frozen? ⟨w.heap.size + 1, 2, none⟩ = false ∧ W.frozen? ⟨w.heap.size + 1, 3, none⟩ = false) ∧ Below w.heap.size w W)
    (fun c pre W => (c = .ret ∧ ∃ (ini : List (Nat × Nm)) (last : Nat × Nm) (x : Sn) (a1 : Option Addr) (c1 : Nat) (a2 : Option Addr) (c2 : Nat), pre = ini ++ [last] ∧ (∀ p ∈ ini, readN d.fs p.2.1 = none) ∧ readN d.fs last.2.1 = some x ∧
      (W.cell? ⟨w.heap.size + 1, 0, none⟩ = some (.int .i64 x.idx) ∧ W.cell? ⟨w.heap.size + 1, 1, none⟩ = some (.int .i64 x.term) ∧ W.cell? ⟨w.heap.size + 1, 2, none⟩ = some (.slice a1 x.conf.length c1) ∧ W.cell? ⟨w.heap.size + 1, 3, none⟩ = some (.slice a2 x.body.length c2)) ∧
      RepB W (fun k => w.heap.size ≤ k ∧ k < W.heap.size) x.conf (.slice a1 x.conf.length c1) ∧ RepB W (fun k => w.heap.size ≤ k ∧ k < W.heap.size) x.body (.slice a2 x.body.length c2)) ∧ Below w.heap.size w W)
    (OwnFrom.and (Go.Own.from (fun s A B row hs hg hr => ⟨⟨hs.1.1, Nat.le_trans hs.1.2 hg.size⟩, cell_kept hs.2.1 hg hr, ⟨cell_kept hs.2.2.1.1 hg hr, cell_kept hs.2.2.1.2.1 hg hr, cell_kept hs.2.2.1.2.2.1 hg hr, cell_kept hs.2.2.1.2.2.2 hg hr⟩,
      (frozen_kept hs.2.2.1.1 hg hr).trans hs.2.2.2.1, (frozen_kept hs.2.2.1.2.1 hg hr).trans hs.2.2.2.2.1, (frozen_kept hs.2.2.1.2.2.1 hg hr).trans hs.2.2.2.2.2.1, (frozen_kept hs.2.2.1.2.2.2 hg hr).trans hs.2.2.2.2.2.2⟩) _) (ownFrom_below (Nat.le_refl _) (by omega)))
    (fun c => OwnFrom.and (Go.Own.from (fun s A B row hs hg hr => by
      obtain ⟨hc, ini, last, x, a1, c1, a2, c2, e1, e2, e3, ⟨e4, e5, e6, e7⟩, e8, e9⟩ := hs
      exact ⟨hc, ini, last, x, a1, c1, a2, c2, e1, e2, e3, ⟨cell_kept e4 hg hr, cell_kept e5 hg hr, cell_kept e6 hg hr, cell_kept e7 hg hr⟩, e8.kept hg hr fun k hk => ⟨hk.1, Nat.lt_of_lt_of_le hk.2 hg.size⟩, e9.kept hg hr fun k hk => ⟨hk.1, Nat.lt_of_lt_of_le hk.2 hg.size⟩⟩) _) (ownFrom_below (Nat.le_refl _) (by omega)))
    ⟨⟨⟨fun _ h => (by cases h), Nat.le_refl _⟩, p0, ⟨r0, r1, r2, r3⟩, q0, q1, q2, q3⟩, hB4⟩
    (fun x => { tmps := #[.pointer (some ⟨gd, 0, none⟩), .pointer (some ⟨w.heap.size, 0, none⟩), .pointer (some ⟨w.heap.size + 1, 0, none⟩), undef, .string x.2.1, undef, undef, .pointer (some ⟨gd, 0, none⟩), .slice sa nn sc, .func (.func 167) #[] #[.pointer (some ⟨w3.heap.size, 0, none⟩)], .int .i64 (x.1 : Int), .string x.2.1, undef, undef, undef, undef, undef, undef, undef, undef, undef], defers := [] }) ?assign ?body ?done ?stop
  case assign =>
    intro l x W K hK
    gi_wp2
    exact hK
  case body =>
    rintro l pre x W ⟨⟨⟨hp, hwz⟩, hc, ⟨c0, c1, c2, c3⟩, f0, f1, f2, f3⟩, hB⟩ hlen
    cases hrd : readN d.fs x.2.1 with
    | none =>
      have HRC := Lib.hid (ShRead_any d X gd x.2.1 W (HD.out.next hB) HR.out x.2.2 HU.out (Lib.hid (hT.out.next hB)))
      rw [hrd] at HRC
      have HCC := Lib.hid (And.intro hc (And.intro (And.intro c0 (And.intro c1 (And.intro c2 c3))) (And.intro f0 (And.intro f1 (And.intro f2 f3)))))
      have HBB := Lib.hid hB
      clear c0 c1 c2 c3 f0 f1 f2 f3 hB
      gi_wp2_with (refine ⟨trivial, ?_⟩; gi_at_call 134; refine (CallsIn.inRound l (callsIn_wide.2 HRC.out)).mono ?_; rintro e w5 ⟨hb5, he5⟩; have HB5 := Lib.hid hb5; simp only at he5; subst he5; unfold snAgg Sn.zero; simp only; clear hb5)
      have hbf := HB5.out.alloc HB5.out.size (.cells #[.int .i64 0, .int .i64 0, .slice none 0 0, .slice none 0 0] 53)
      have hg := grown_of_below hbf
      have hno : ∀ r, (none : Option Nat) = some r → ∃ o : Obj, W.heap[r]? = some o ∧ o.isCells = false := fun r e => by cases e
      obtain ⟨hc, ⟨c0, c1, c2, c3⟩, f0, f1, f2, f3⟩ := HCC.out
      refine ⟨keeps_below hbf, hbf.mono hwz, ⟨⟨fun p hp' => ?_, Nat.le_trans hwz hbf.size⟩, cell_kept hc hg hno, ⟨cell_kept c0 hg hno, cell_kept c1 hg hno, cell_kept c2 hg hno, cell_kept c3 hg hno⟩,
        (frozen_kept c0 hg hno).trans f0, (frozen_kept c1 hg hno).trans f1, (frozen_kept c2 hg hno).trans f2, (frozen_kept c3 hg hno).trans f3⟩, HBB.out.trans (hbf.mono HBB.out.size)⟩
      rcases List.mem_append.1 hp' with h | h
      · exact hp p h
      · have : p = x := by simpa using h
        rw [this]; exact hrd
    | some y =>
      have HRC := Lib.hid (ShRead_any d X gd x.2.1 W (HD.out.next hB) HR.out x.2.2 HU.out (Lib.hid (hT.out.next hB)))
      rw [hrd] at HRC
      have HBB := Lib.hid hB
      have hzz : w.heap.size + 1 < W.heap.size := by omega
      have HX := Lib.hid (And.intro c0 (And.intro c1 (And.intro c2 (And.intro c3 (And.intro f0 (And.intro f1 (And.intro f2 f3)))))))
      clear c0 c1 c2 c3 f0 f1 f2 f3 hB
      obtain ⟨yi, yt, yc, yb⟩ := y
      gi_wp2_with (refine ⟨trivial, ?_⟩; gi_at_call 134; refine (CallsIn.inRound l (callsIn_wide.2 HRC.out)).mono ?_; rintro e w5 ⟨hb5, u1, u2, he5, hr1, hr2⟩; obtain ⟨a1, c1', rfl, -⟩ := hr1.slice; obtain ⟨a2, c2', rfl, -⟩ := hr2.slice; have HB5 := Lib.hid hb5; have HR1 := Lib.hid hr1; have HR2 := Lib.hid hr2; subst he5; unfold snAgg; simp only at HR1 HR2 ⊢; have hg5 := grown_of_below hb5; have hno5 : ∀ r, (none : Option Nat) = some r → ∃ o : Obj, W.heap[r]? = some o ∧ o.isCells = false := fun r e => (by cases e); have c0 := cell_kept HX.out.1 hg5 hno5; have c1 := cell_kept HX.out.2.1 hg5 hno5; have c2 := cell_kept HX.out.2.2.1 hg5 hno5; have c3 := cell_kept HX.out.2.2.2.1 hg5 hno5; have f0 := (frozen_kept HX.out.1 hg5 hno5).trans HX.out.2.2.2.2.1; have f1 := (frozen_kept HX.out.2.1 hg5 hno5).trans HX.out.2.2.2.2.2.1; have f2 := (frozen_kept HX.out.2.2.1 hg5 hno5).trans HX.out.2.2.2.2.2.2.1; have f3 := (frozen_kept HX.out.2.2.2.1 hg5 hno5).trans HX.out.2.2.2.2.2.2.2; have hz5 : w.heap.size + 1 < w5.heap.size := Nat.lt_of_lt_of_le hzz hb5.size; clear hb5 hr1 hr2 hg5 hno5)
      have hg5 := grown_of_below HB5.out
      have hgf : W.grownBy (((((w5.setCell ⟨w.heap.size + 1, 0, none⟩ (.int .i64 yi)).setCell ⟨w.heap.size + 1, 1, none⟩ (.int .i64 yt)).setCell ⟨w.heap.size + 1, 2, none⟩ (.slice a1 yc.length c1')).setCell ⟨w.heap.size + 1, 3, none⟩ (.slice a2 yb.length c2')).alloc (.cells #[.int .i64 yi, .int .i64 yt, .slice a1 yc.length c1', .slice a2 yb.length c2'] 53)) (some (w.heap.size + 1)) :=
        gb_alloc _ (gb_set 3 _ (gb_set 2 _ (gb_set 1 _ (gb_set 0 _ (gb_other _ hg5)))))
      have hof : Only (fun k => k = w.heap.size + 1) w5 (((((w5.setCell ⟨w.heap.size + 1, 0, none⟩ (.int .i64 yi)).setCell ⟨w.heap.size + 1, 1, none⟩ (.int .i64 yt)).setCell ⟨w.heap.size + 1, 2, none⟩ (.slice a1 yc.length c1')).setCell ⟨w.heap.size + 1, 3, none⟩ (.slice a2 yb.length c2')).alloc (.cells #[.int .i64 yi, .int .i64 yt, .slice a1 yc.length c1', .slice a2 yb.length c2'] 53)) :=
        (((((Only.refl (fun k => k = w.heap.size + 1) w5).set (.inl rfl) _).set (.inl rfl) _).set (.inl rfl) _).set (.inl rfl) _).alloc _
      have hgs := hgf.size
      refine ⟨KeepsFrom.of_grownBy hgf fun j e => (by cases e; omega), ⟨rfl, pre, x, ⟨yi, yt, yc, yb⟩, a1, c1', a2, c2', rfl, hp, hrd, ⟨?_, ?_, ?_, ?_⟩, ?_, ?_⟩, HBB.out.grown hgf HBB.out.size fun k e => (by cases e; omega)⟩
      · simp [go_sem, c0, c1, c2, c3, hz5]
      · simp [go_sem, c0, c1, c2, c3, hz5]
      · simp [go_sem, c0, c1, c2, c3, hz5]
      · simp [go_sem, c0, c1, c2, c3, hz5]
      · exact HR1.out.same (fun k hk => ⟨by omega, by have := hof.size; omega⟩) fun k hk => hof.block k hk.2 (by omega)
      · exact HR2.out.same (fun k hk => ⟨by omega, by have := hof.size; omega⟩) fun k hk => hof.block k hk.2 (by omega)
  case done =>
    rintro D ys W hD rfl ⟨⟨⟨hne, -⟩, hc, ⟨c0, c1, c2, c3⟩, f0, f1, f2, f3⟩, hB⟩ hK
    have HB := Lib.hid hB
    have HNE := Lib.hid hne
    have HK := Lib.hid hK
    clear hB hne
    gi_wp2
    obtain ⟨Wf, hWf⟩ : ∃ Wf, Wf = (((W.setCell ⟨w.heap.size + 1, 0, none⟩ (.int .i64 0)).setCell ⟨w.heap.size + 1, 1, none⟩ (.int .i64 0)).setCell ⟨w.heap.size + 1, 2, none⟩ (.slice none 0 0)).setCell ⟨w.heap.size + 1, 3, none⟩ (.slice none 0 0) := ⟨_, rfl⟩
    rw [← hWf]
    have hK' : Wf.heap[D]? = some (.deferred (some [])) := by
      rw [hWf]
      exact ((((KeepsOthers.setCell W _ _).trans (KeepsOthers.setCell _ _ _)).trans (KeepsOthers.setCell _ _ _)).trans (KeepsOthers.setCell _ _ _)).same D _ HK.out rfl
    have hzw : w.heap.size + 1 < W.heap.size := by
      have h1 := lt_of_cell c0
      exact h1.1
    have k0 := cell_put (a := ⟨w.heap.size + 1, 0, none⟩) (v := .int .i64 0) (by rw [hWf]; simp [go_sem, c0, c1, c2, c3, hzw]) hK'
    have k1 := cell_put (a := ⟨w.heap.size + 1, 1, none⟩) (v := .int .i64 0) (by rw [hWf]; simp [go_sem, c0, c1, c2, c3, hzw]) hK'
    have k2 := cell_put (a := ⟨w.heap.size + 1, 2, none⟩) (v := .slice none 0 0) (by rw [hWf]; simp [go_sem, c0, c1, c2, c3, hzw]) hK'
    have k3 := cell_put (a := ⟨w.heap.size + 1, 3, none⟩) (v := .slice none 0 0) (by rw [hWf]; simp [go_sem, c0, c1, c2, c3, hzw]) hK'
    have hbf : Below w.heap.size w (Wf.putObj D (.deferred none)) := by
      have h1 : Below w.heap.size w Wf := by
        rw [hWf]
        exact (((HB.out.setCell (p := ⟨w.heap.size + 1, 0, none⟩) (Nat.le_succ _) _).setCell (p := ⟨w.heap.size + 1, 1, none⟩) (Nat.le_succ _) _).setCell (p := ⟨w.heap.size + 1, 2, none⟩) (Nat.le_succ _) _).setCell (p := ⟨w.heap.size + 1, 3, none⟩) (Nat.le_succ _) _
      exact h1.trans (belowK_b (w := w) (Nat.le_refl _) _ D _ _ (by omega) hK' rfl rfl)
    refine ⟨by simp, .inl ⟨_, _, rfl, run_takeDeferred hK', ?_⟩⟩
    refine ⟨.agg #[.int .i64 0, .int .i64 0, .slice none 0 0, .slice none 0 0], by simp [results, Tryz.f78, go_sem, k0, k1, k2, k3], hbf, .slice none 0 0, .slice none 0 0, ?_, ?_⟩
    · rw [newest_no HR.out fun j hj => ?_]
      · rfl
      · have hj2 : j < ls.length := by rw [HLL.out]; exact hj
        have h1 := HNE.out _ (upto_mem (bkAt ls) (k := ls.length - 1 - j) (by omega))
        rw [bkAt_back ls j hj2] at h1
        simp only at h1
        rw [HLG.out j hj2 hj] at h1
        exact h1
    · rw [newest_no HR.out fun j hj => ?_]
      · exact ⟨.inl ⟨rfl, Bare.nil⟩, .inl ⟨rfl, Bare.nil⟩⟩
      · have hj2 : j < ls.length := by rw [HLL.out]; exact hj
        have h1 := HNE.out _ (upto_mem (bkAt ls) (k := ls.length - 1 - j) (by omega))
        rw [bkAt_back ls j hj2] at h1
        simp only at h1
        rw [HLG.out j hj2 hj] at h1
        exact h1
  case stop =>
    rintro D c pre W hD ⟨k, hk, rfl⟩ ⟨⟨rfl, ini, last, x, a1, c1', a2, c2', e1, e2, e3, ⟨c0, c1, c2, c3⟩, e8, e9⟩, hB⟩ hK
    have HB := Lib.hid hB
    have HK := Lib.hid hK
    have HE1 := Lib.hid e1
    have HE2 := Lib.hid e2
    have HE3 := Lib.hid e3
    have HR8 := Lib.hid e8
    have HR9 := Lib.hid e9
    clear hB e1 e2 e3 e8 e9
    gi_wp2
    have k0 := cell_put c0 HK.out
    have k1 := cell_put c1 HK.out
    have k2 := cell_put c2 HK.out
    have k3 := cell_put c3 HK.out
    have hnew : newestS d.fs = x := by
      have e1 := HE1.out
      obtain ⟨k', rfl⟩ : ∃ k', k = k' + 1 := by
        cases k with
        | zero => simp [upto] at e1
        | succ k' => exact ⟨k', rfl⟩
      rw [upto_succ] at e1
      obtain ⟨h1, h2⟩ := List.append_inj' e1 rfl
      have h2 : bkAt ls k' = last := by simpa using h2
      have hm : ls.length - 1 - k' < ls.length := by omega
      have hm2 : ls.length - 1 - k' < d.fs.length := by rw [← HLL.out]; exact hm
      have hl2 : last.2.1 = d.fs[ls.length - 1 - k'].nm := by
        rw [← h2, ← HLG.out _ hm hm2]
        unfold bkAt
        rw [List.getElem?_eq_getElem hm]
        rfl
      refine newest_at HR.out hm2 (by rw [← hl2]; exact HE3.out) fun j hj hjm => ?_
      have hj2 : j < ls.length := by rw [HLL.out]; exact hj
      have h3 := HE2.out _ (by rw [← h1]; exact upto_mem (bkAt ls) (k := ls.length - 1 - j) (by omega))
      rw [bkAt_back ls j hj2] at h3
      simp only at h3
      rw [HLG.out j hj2 hj] at h3
      exact h3
    have hgp := grownBy_putObj' W D (.deferred none)
    have hno : ∀ r, (some D : Option Nat) = some r → ∃ o : Obj, W.heap[r]? = some o ∧ o.isCells = false := fun r e => by cases e; exact ⟨_, HK.out, rfl⟩
    refine ⟨by simp, .inl ⟨_, _, rfl, run_takeDeferred HK.out, ?_⟩⟩
    refine ⟨.agg #[.int .i64 x.idx, .int .i64 x.term, .slice a1 x.conf.length c1', .slice a2 x.body.length c2'], by simp [results, Tryz.f78, go_sem, k0, k1, k2, k3], HB.out.trans (belowK_b (w := w) (Nat.le_refl _) _ D _ _ (by omega) HK.out rfl rfl), .slice a1 x.conf.length c1', .slice a2 x.body.length c2', ?_, ?_⟩
    · rw [hnew]; rfl
    · rw [hnew]
      exact ⟨HR8.out.kept hgp hno fun k hk => ⟨hk.1, Nat.lt_of_lt_of_le hk.2 hgp.size⟩, HR9.out.kept hgp hno fun k hk => ⟨hk.1, Nat.lt_of_lt_of_le hk.2 hgp.size⟩⟩
end Go.Proofs.YtbcpcopapbgcdaaGreatDoor.M

/- Part: ShJ. -/
namespace Go.Proofs.YtbcpcopapbgcdaaGreatDoor.M
open Go.RowKit Go.Maps
open D (Fl Dk)

theorem dropNew_well {d : Dk} (h : Well d) : Well (dropNew d).2 ∧ D.used (dropNew d).2.fs ≤ D.used d.fs := by
  unfold dropNew
  split
  · exact remove_well h [nmNew]
  · exact ⟨h, Nat.le_refl _⟩

set_option maxRecDepth 20000 in
set_option maxHeartbeats 1600000 in
theorem ShDrop_any (d : Dk) (X : Nat → Prop) (gd : Nat) (w wr : World) (hds : DS w X gd d wr) (hu : D.used d.fs ≤ 1000000000) :
    Calls Tryz.prog 89 #[.pointer (some ⟨gd, 0, none⟩)] wr (DPost w X gd wr (dropNew d)) := by
  have HD := Lib.hid hds
  have HRD := Lib.hid (PRead_any d X gd nmNew wr hds.dsk hds.well.1.2.1 (by decide) (by omega))
  clear hds
  go_enter Tryz.func89, Tryz.ntmps89
  go_wp2_with fail
  refine HRD.out.mono ?_
  rintro e w1 ⟨u, rfl, hown⟩
  have HD1 := Lib.hid (HD.out.next hown.1)
  have HO1 : Hid (Only X wr w1) := Lib.hid (Only.of_below hown.1)
  obtain ⟨ua, uc, rfl⟩ := hown.slice
  clear hown
  cases hth : D.isThere d.fs nmNew with
  | false =>
    have HE : Hid (dropNew d = (0, d)) := Lib.hid (by unfold dropNew; rw [hth]; rfl)
    clear hth
    go_wp2_with fail
    go_ret
    rw [HE.out]
    exact ⟨rfl, HO1.out, X, fun k hk => .inl hk, HD1.out⟩
  | true =>
    have HE : Hid (dropNew d = D.remove d [nmNew]) := Lib.hid (by unfold dropNew; rw [hth]; rfl)
    clear hth
    go_wp2_with fail
    obtain ⟨a1, a2, a3⟩ := HD1.out.names [nmNew] 1 rfl (by simp) 9 rfl
    refine (DRemove a1 [nmNew] _ _ (by simp; decide) a2 a3).mono ?_
    intro e w2 hp2
    rw [← HE.out] at hp2
    have HP2 := Lib.hid (DPost.after (HO1.out.next (below_alloc _ _)) (fun k hk => .inl hk) hp2)
    have he := HP2.out.1
    subst he
    clear hp2 a1 a2 a3
    go_wp2_with fail
    go_ret
    exact HP2.out

theorem rename_used {d : Dk} (h : Well d) (a b : ByteArray) : Well (D.rename d a b).2 ∧ D.used (D.rename d a b).2.fs ≤ D.used d.fs := rename_well h a b

theorem writeF_well {d : Dk} (h : Well d) (nm : ByteArray) (b : List UInt8) : Well (writeF d nm b).2 ∧ D.used (writeF d nm b).2.fs ≤ D.used d.fs + b.length := by
  have h1 := saveF_well h nmNew b
  unfold writeF
  simp only
  split
  · exact h1
  · have h2 := rename_well h1.1 nmNew nm
    exact ⟨h2.1, by omega⟩

set_option maxRecDepth 20000 in
set_option maxHeartbeats 3200000 in
theorem ShWrite_any (d : Dk) (X : Nat → Prop) (gd : Nat) (nm : ByteArray) (S : List UInt8) (v : Value) (w wr : World) (hds : DS w X gd d wr) (hnm : nm.size ≤ 9223372036854775807) (hv : RepB wr (fun k => k < wr.heap.size ∧ ¬ X k) S v) (hu : D.used d.fs ≤ 1000000000) (hl : S.length ≤ 2000000000) :
    Calls Tryz.prog 84 #[.pointer (some ⟨gd, 0, none⟩), .string nm, v] wr (DPost w X gd wr (writeF d nm S)) := by
  have HD := Lib.hid hds
  have HV := Lib.hid hv
  obtain ⟨va, vc, rfl, -⟩ := hv.slice
  have HDW := Lib.hid (dropNew_well hds.well)
  have HDC := Lib.hid (ShDrop_any d X gd w wr hds hu)
  obtain ⟨r, hr⟩ : ∃ r, r = dropNew d := ⟨_, rfl⟩
  have HSF : Hid (saveF d nmNew S = if r.1 ≠ 0 then r else if (D.append r.2 nmNew [S]).1 ≠ 0 then D.append r.2 nmNew [S] else D.sync (D.append r.2 nmNew [S]).2 [nmNew]) := Lib.hid (by
    rw [hr]
    rfl)
  rw [← hr] at HDC HDW
  clear hds hv hr
  obtain ⟨r1, d1⟩ := r
  simp only at HSF
  have HU : Hid (D.used d1.fs ≤ 1000000000) := Lib.hid (Nat.le_trans HDW.out.2 hu)
  obtain ⟨ln, hln⟩ : ∃ n, n = S.length := ⟨_, rfl⟩
  have HLN := Lib.hid hln
  have HL := Lib.hid hl
  rw [← hln] at HV ⊢
  clear hln hl hu
  go_enter Tryz.func84, Tryz.ntmps84
  go_wp2_with fail
  refine HDC.out.mono ?_
  rintro e w1 ⟨rfl, ho1, X1, hx1, h1⟩
  have HO1 := Lib.hid ho1
  have HXS1 : Hid (∀ k, X1 k → X k ∨ wr.heap.size ≤ k) := Lib.hid hx1
  have HD1 := Lib.hid h1
  have HV1 : Hid (RepB w1 (fun k => k < w1.heap.size ∧ ¬ X1 k) S (.slice va ln vc)) := Lib.hid (HV.out.same (fun k hk => ⟨Nat.lt_of_lt_of_le hk.1 ho1.size, fun hx => by
    rcases hx1 k hx with h | h
    · exact hk.2 h
    · omega⟩) fun k hk => ho1.block k hk.1 hk.2)
  clear ho1 hx1 h1
  simp only
  by_cases hr0 : r1 = 0
  · subst hr0
    have HSF1 : Hid (saveF d nmNew S = if (D.append d1 nmNew [S]).1 ≠ 0 then D.append d1 nmNew [S] else D.sync (D.append d1 nmNew [S]).2 [nmNew]) := Lib.hid (by rw [HSF.out, if_neg (by simp)])
    clear HSF
    go_wp2_with fail
    obtain ⟨a1, a2, a3⟩ := HD1.out.told HV1.out 34 rfl
    refine (DAppend a1 nmNew [S] _ _ (by decide) a2 a3 (by have h1 := HU.out; have h2 := HL.out; have h3 := HLN.out; simp; omega)).mono ?_
    rintro e w4 ⟨rfl, ho4, X4, hx4, h4⟩
    have HXS4 : Hid (∀ k, X4 k → X k ∨ wr.heap.size ≤ k) := Lib.hid fun k hk => by
      rcases hx4 k hk with h | h
      · exact HXS1.out k h
      · have h5 := HO1.out.size
        simp only [World.size_alloc] at h
        exact .inr (by omega)
    have HO4 : Hid (Only X wr w4) := Lib.hid ((HO1.out.next (below_alloc _ _)).thn HXS1.out ho4)
    obtain ⟨r, hr⟩ : ∃ r, r = D.append d1 nmNew [S] := ⟨_, rfl⟩
    rw [← hr] at HSF1 h4 ⊢
    clear a1 a2 a3 ho4 hx4 hr
    obtain ⟨r1, d2⟩ := r
    have HD4 := Lib.hid h4
    simp only at HSF1 ⊢
    clear h4
    by_cases hr0 : r1 = 0
    · subst hr0
      have HSF2 : Hid (saveF d nmNew S = D.sync d2 [nmNew]) := Lib.hid (by rw [HSF1.out, if_neg (by simp)])
      clear HSF1
      go_wp2_with fail
      obtain ⟨a1, a2, a3⟩ := HD4.out.names [nmNew] 1 rfl (by simp) 9 rfl
      refine (DSync a1 [nmNew] _ _ (by simp; decide) a2 a3).mono ?_
      rintro e w5 ⟨rfl, ho5, X5, hx5, h5⟩
      have HXS5 : Hid (∀ k, X5 k → X k ∨ wr.heap.size ≤ k) := Lib.hid fun k hk => by
        rcases hx5 k hk with h | h
        · exact HXS4.out k h
        · have h5 := HO4.out.size
          simp only [World.size_alloc] at h
          exact .inr (by omega)
      have HO5 : Hid (Only X wr w5) := Lib.hid ((HO4.out.next (below_alloc _ _)).thn HXS4.out ho5)
      obtain ⟨r, hr⟩ : ∃ r, r = D.sync d2 [nmNew] := ⟨_, rfl⟩
      rw [← hr] at HSF2 h5 ⊢
      clear a1 a2 a3 ho5 hx5 hr
      obtain ⟨r1, d3⟩ := r
      have HD5 := Lib.hid h5
      simp only
      clear h5
      by_cases hr0 : r1 = 0
      · subst hr0
        have HWR : Hid (writeF d nm S = D.rename d3 nmNew nm) := Lib.hid (by unfold writeF; rw [HSF2.out]; rfl)
        go_wp2_with fail
        refine (DRename HD5.out nmNew nm (by decide) hnm).mono ?_
        intro e w6 hp6
        rw [← HWR.out] at hp6
        have HP6 := Lib.hid (DPost.after HO5.out HXS5.out hp6)
        have he := HP6.out.1
        subst he
        clear hp6
        go_wp2_with fail
        go_ret
        exact HP6.out
      · have q1 : (r1 != 0) = true := by simpa using hr0
        have HWR : Hid (writeF d nm S = (r1, d3)) := Lib.hid (by unfold writeF; rw [HSF2.out]; exact if_pos hr0)
        clear hr0
        go_wp2_with fail
        go_ret
        rw [HWR.out]
        exact ⟨rfl, HO5.out, X5, HXS5.out, HD5.out⟩
    · have q1 : (r1 != 0) = true := by simpa using hr0
      have HWR : Hid (writeF d nm S = (r1, d2)) := Lib.hid (by unfold writeF; rw [HSF1.out, if_pos hr0]; exact if_pos hr0)
      clear hr0 HSF1
      go_wp2_with fail
      go_ret
      rw [HWR.out]
      exact ⟨rfl, HO4.out, X4, HXS4.out, HD4.out⟩
  · have q1 : (r1 != 0) = true := by simpa using hr0
    have HWR : Hid (writeF d nm S = (r1, d1)) := Lib.hid (by unfold writeF; rw [HSF.out, if_pos hr0]; exact if_pos hr0)
    clear hr0 HSF
    go_wp2_with fail
    go_ret
    rw [HWR.out]
    exact ⟨rfl, HO1.out, X1, HXS1.out, HD1.out⟩
end Go.Proofs.YtbcpcopapbgcdaaGreatDoor.M

/- Part: ShK. -/
namespace Go.Proofs.YtbcpcopapbgcdaaGreatDoor.M
open Go.RowKit Go.Maps
open D (Fl Dk)

/-- A shelf in a law's own memory. -/
structure SS (w : World) (X : Nat → Prop) (gd gs : Nat) (d : Dk) (top : Sn) (wr : World) : Prop where
  ds : DS w X gd d wr
  blk : ∃ cv bv, wr.heap[gs]? = some (.cells #[.pointer (some ⟨gd, 0, none⟩), .int .i64 top.idx, .int .i64 top.term, cv, bv] 137) ∧
    RepB wr (fun k => k < wr.heap.size ∧ ¬ X k ∧ k ≠ gs) top.conf cv ∧ RepB wr (fun k => k < wr.heap.size ∧ ¬ X k ∧ k ≠ gs) top.body bv
  out : ¬ X gs
  new : w.heap.size ≤ gs
  len : top.conf.length + top.body.length ≤ 1000000000

theorem SS.lt {w wr : World} {X : Nat → Prop} {gd gs : Nat} {d : Dk} {top : Sn} (h : SS w X gd gs d top wr) : gs < wr.heap.size := by
  obtain ⟨cv, bv, h1, -⟩ := h.blk
  exact lt_of_heap h1

/-- What else turns, turns the disk alone, or what is new. -/
theorem SS.only {w wr w' : World} {X X' : Nat → Prop} {gd gs : Nat} {d d' : Dk} {top : Sn} (h : SS w X gd gs d top wr) (ho : Only X wr w') (hX : ∀ k, X' k → X k ∨ wr.heap.size ≤ k) (hd : DS w X' gd d' w') : SS w X' gd gs d' top w' := by
  obtain ⟨cv, bv, h1, h2, h3⟩ := h.blk
  have hl := h.lt
  have hz := ho.size
  have hF : ∀ k, (k < wr.heap.size ∧ ¬ X k ∧ k ≠ gs) → (k < w'.heap.size ∧ ¬ X' k ∧ k ≠ gs) := fun k hk => ⟨by omega, fun hx => by
    rcases hX k hx with h | h
    · exact hk.2.1 h
    · omega, hk.2.2⟩
  refine ⟨hd, ⟨cv, bv, (ho.block _ hl h.out).trans h1, h2.same hF fun k hk => ho.block k hk.1 hk.2.1, h3.same hF fun k hk => ho.block k hk.1 hk.2.1⟩, fun hx => ?_, h.new, h.len⟩
  rcases hX _ hx with h4 | h4
  · exact h.out h4
  · omega

theorem SS.next {w wr w' : World} {X : Nat → Prop} {gd gs : Nat} {d : Dk} {top : Sn} (h : SS w X gd gs d top wr) (hb : Below wr.heap.size wr w') : SS w X gd gs d top w' :=
  h.only (Only.of_below hb) (fun _ h => .inl h) (h.ds.next hb)

theorem newestS_len (fs : List Fl) : (newestS fs).conf.length + (newestS fs).body.length ≤ D.used fs := by
  unfold newestS
  cases h : newestF fs with
  | none => simp [Sn.zero]
  | some x =>
    unfold newestF at h
    obtain ⟨t, h1⟩ := List.getLast?_eq_some_iff.1 h
    obtain ⟨f, hf, h2⟩ := List.mem_filterMap.1 (show x ∈ fs.filterMap readF by rw [h1]; simp)
    obtain ⟨n, -, -, h3⟩ := readF_some h2
    have h4 := (snParse_inv h3).1
    have h5 := D.used_mem hf
    rw [h4] at h5
    unfold snBytes snForm at h5
    simp only [List.length_append] at h5
    simp only [Option.getD_some]
    omega

theorem DS.fine {w wr : World} {X : Nat → Prop} {gd : Nat} {d : Dk} (h : DS w X gd d wr) : D.Rising d.fs ∧ (∀ f ∈ d.fs, f.nm.size ≤ 9223372036854775807) ∧ d.fs.length ≤ 4096 := ⟨h.well.1.2.1, h.well.names, h.well.1.1.1⟩

/-- Where a shelf's bytes lie. -/
def SAt (Z : Nat → Prop) (gd gs : Nat) (top : Sn) (wr : World) : Prop :=
  ∃ cv bv, wr.heap[gs]? = some (.cells #[.pointer (some ⟨gd, 0, none⟩), .int .i64 top.idx, .int .i64 top.term, cv, bv] 137) ∧ RepB wr Z top.conf cv ∧ RepB wr Z top.body bv

set_option maxRecDepth 20000 in
set_option maxHeartbeats 1600000 in
theorem ShOpen2_any (d : Dk) (X : Nat → Prop) (gd : Nat) (w wr : World) (h : DS w X gd d wr) (hu : D.used d.fs ≤ 1000000000) (hT : Hid (Tab w)) :
    Calls Tryz.prog 29 #[.pointer (some ⟨gd, 0, none⟩)] wr fun e w' => ∃ gs, e = .returned (.tuple #[.pointer (some ⟨gs, 0, none⟩), .int .i64 0]) ∧ SS w X gd gs d (newestS d.fs) w' ∧ Below wr.heap.size wr w' ∧ wr.heap.size ≤ gs ∧ SAt (fun k => wr.heap.size ≤ k) gd gs (newestS d.fs) w' := by
  have HD := Lib.hid h
  have HC := Lib.hid (ShNewest_any d X gd wr h.dsk h.fine.1 h.fine.2.1 (by omega) h.fine.2.2 (h.tab hT))
  have HLN := Lib.hid (Nat.le_trans (newestS_len d.fs) hu)
  clear h hu
  obtain ⟨x, hx⟩ : ∃ x, x = newestS d.fs := ⟨_, rfl⟩
  rw [← hx] at HC HLN ⊢
  clear hx
  obtain ⟨xi, xt, xc, xb⟩ := x
  go_enter Tryz.func29, Tryz.ntmps29
  go_wp2_with fail
  refine HC.out.mono ?_
  rintro e w1 ⟨hb1, u1, u2, rfl, hr1, hr2⟩
  simp only at hr1 hr2
  obtain ⟨a1, c1, rfl, -⟩ := hr1.slice
  obtain ⟨a2, c2, rfl, -⟩ := hr2.slice
  have HB1 := Lib.hid hb1
  have HR1 := Lib.hid hr1
  have HR2 := Lib.hid hr2
  unfold snAgg
  simp only
  clear hb1 hr1 hr2
  go_wp2_with fail
  go_ret2
  have hb1 := HB1.out
  have hbf := hb1.trans ((below_alloc w1 (.cells #[.pointer (some ⟨gd, 0, none⟩), .int .i64 xi, .int .i64 xt, .slice a1 xc.length c1, .slice a2 xb.length c2] 137)).mono hb1.size)
  have hXl := HD.out.lt
  have hz := hb1.size
  refine ⟨w1.heap.size, rfl, ⟨HD.out.next hbf, ⟨_, _, heap_new _ _ _ rfl, ?_, ?_⟩, fun hx => ?_, ?_, HLN.out⟩, hbf, hz, ⟨_, _, heap_new _ _ _ rfl, ?_, ?_⟩⟩
  · exact HR1.out.same (fun k hk => ⟨by simp; omega, fun hx => by have := hXl k hx; omega, by omega⟩) fun k hk => Below.heap_alloc _ _ _ hk.2
  · exact HR2.out.same (fun k hk => ⟨by simp; omega, fun hx => by have := hXl k hx; omega, by omega⟩) fun k hk => Below.heap_alloc _ _ _ hk.2
  · have := hXl _ hx; omega
  · have := HD.out.below.size; omega
  · exact HR1.out.same (fun k hk => hk.1) fun k hk => Below.heap_alloc _ _ _ hk.2
  · exact HR2.out.same (fun k hk => hk.1) fun k hk => Below.heap_alloc _ _ _ hk.2

theorem ShOpen_any (d : Dk) (X : Nat → Prop) (gd : Nat) (w wr : World) (h : DS w X gd d wr) (hu : D.used d.fs ≤ 1000000000) (hT : Hid (Tab w)) :
    Calls Tryz.prog 29 #[.pointer (some ⟨gd, 0, none⟩)] wr fun e w' => ∃ gs, e = .returned (.tuple #[.pointer (some ⟨gs, 0, none⟩), .int .i64 0]) ∧ SS w X gd gs d (newestS d.fs) w' ∧ Below wr.heap.size wr w' ∧ wr.heap.size ≤ gs :=
  (ShOpen2_any d X gd w wr h hu hT).mono fun _ _ ⟨gs, h1, h2, h3, h4, _⟩ => ⟨gs, h1, h2, h3, h4⟩

set_option maxRecDepth 20000 in
set_option maxHeartbeats 1600000 in
theorem ShTop_any (d : Dk) (X : Nat → Prop) (gd gs : Nat) (top : Sn) (w wr : World) (h : SS w X gd gs d top wr) (htop : top.idx = 0 → top = Sn.zero) :
    Calls Tryz.prog 40 #[.pointer (some ⟨gs, 0, none⟩)] wr fun e w' => ∃ u1 u2, e = .returned (.tuple #[snAgg top u1 u2, .bool (top.idx != 0)]) ∧ Below wr.heap.size wr w' ∧ RepB w' (fun k => wr.heap.size ≤ k ∧ k < w'.heap.size) top.conf u1 ∧ RepB w' (fun k => wr.heap.size ≤ k ∧ k < w'.heap.size) top.body u2 := by
  obtain ⟨cv, bv, hb0, hc, hb⟩ := h.blk
  obtain ⟨W, hW⟩ : ∃ W, W = wr.alloc (.cells #[.int .i64 0, .int .i64 0, .slice none 0 0, .slice none 0 0] 53) := ⟨_, rfl⟩
  have hbw : Below wr.heap.size wr W := by rw [hW]; exact below_alloc _ _
  have HBW := Lib.hid hbw
  have HX0 : Hid (W.heap[wr.heap.size]? = some (.cells #[.int .i64 0, .int .i64 0, .slice none 0 0, .slice none 0 0] 53)) := Lib.hid (by rw [hW]; exact heap_new _ _ _ rfl)
  have hbk := old_below hb0 hbw
  have HEM := Lib.hid (ShEmpty_any gs _ top.idx top.term cv bv W hbk)
  have HCP := Lib.hid (ShCopied_any top cv bv (fun k => k < W.heap.size) W (hc.same (fun k hk => Nat.lt_of_lt_of_le hk.1 hbw.size) fun k hk => hbw.block k hk.1) (hb.same (fun k hk => Nat.lt_of_lt_of_le hk.1 hbw.size) fun k hk => hbw.block k hk.1) (fun _ h => h) (by have := h.len; omega) (by have := h.len; omega))
  obtain ⟨ca, cc, rfl, -⟩ := hc.slice
  obtain ⟨ba, bc, rfl, -⟩ := hb.slice
  obtain ⟨xi, xt, xc, xb⟩ := top
  simp only at hbk HEM HCP htop
  unfold snAgg at HCP
  simp only at HCP
  unfold snAgg
  simp only
  obtain ⟨cn, hcn⟩ : ∃ n, n = xc.length := ⟨_, rfl⟩
  obtain ⟨bn, hbn⟩ : ∃ n, n = xb.length := ⟨_, rfl⟩
  rw [← hcn, ← hbn] at hbk HCP
  obtain ⟨-, b1, b2, b3, b4, bz⟩ := sh_five hbk
  have HW := Lib.hid hW
  have HT := Lib.hid htop
  have HCN := Lib.hid hcn
  have HBN := Lib.hid hbn
  clear h hb0 hc hb hW hbw hbk htop hcn hbn
  obtain ⟨c0, c1, c2, c3, f0, f1, f2, f3, cz⟩ := sh_four HX0.out
  by_cases h0 : xi = 0
  · have q : (xi == 0) = true := by simp [h0]
    have HZ := Lib.hid (HT.out h0)
    clear h0
    rw [q] at HEM
    go_enter Tryz.func40, Tryz.ntmps40
    go_wp2_with fail
    rw [← HW.out]
    refine HEM.out.mono ?_
    rintro e w1 ⟨rfl, rfl⟩
    go_wp2_with fail
    refine bodyPost_ret (v := .tuple #[.agg #[.int .i64 0, .int .i64 0, .slice none 0 0, .slice none 0 0], .bool false]) (by simp [results, Tryz.results40, go_sem, c0, c1, c2, c3, cz]) rfl ?_
    have hz := HZ.out
    unfold Sn.zero at hz
    cases hz
    refine ⟨.slice none 0 0, .slice none 0 0, rfl, ?_, .inl ⟨rfl, Bare.nil⟩, .inl ⟨rfl, Bare.nil⟩⟩
    first
      | exact HBW.out
      | exact (((HBW.out.setCell (p := ⟨wr.heap.size, 0, none⟩) (Nat.le_refl _) _).setCell (p := ⟨wr.heap.size, 1, none⟩) (Nat.le_refl _) _).setCell (p := ⟨wr.heap.size, 2, none⟩) (Nat.le_refl _) _).setCell (p := ⟨wr.heap.size, 3, none⟩) (Nat.le_refl _) _
  · have q : (xi == 0) = false := by simp [h0]
    have HQ : Hid ((xi != 0) = true) := Lib.hid (by simp [h0])
    clear h0 c0 c1 c2 c3 f0 f1 f2 f3 cz
    rw [q] at HEM
    go_enter Tryz.func40, Tryz.ntmps40
    go_wp2_with fail
    rw [← HW.out]
    refine HEM.out.mono ?_
    rintro e w1 ⟨rfl, rfl⟩
    go_wp2_with fail
    refine HCP.out.mono ?_
    rintro e w2 ⟨u1, u2, rfl, ho1, ho2⟩
    obtain ⟨a1, k1, rfl⟩ := ho1.slice
    obtain ⟨a2, k2, rfl⟩ := ho2.slice
    have HO1 := Lib.hid ho1
    have HO2 := Lib.hid ho2
    obtain ⟨c0, c1, c2, c3, f0, f1, f2, f3, cz⟩ := sh_four (old_below HX0.out ho1.1)
    clear ho1 ho2
    go_wp2_with fail
    refine bodyPost_ret (v := .tuple #[.agg #[.int .i64 xi, .int .i64 xt, .slice a1 xc.length k1, .slice a2 xb.length k2], .bool true]) (by simp [results, Tryz.results40, go_sem, c0, c1, c2, c3, cz]) rfl ?_
    have hz0 := lt_of_heap HX0.out
    have hzz := HBW.out.size
    have hbel : Below wr.heap.size wr w1 → True := fun _ => trivial
    have ho : Only (fun k => k = wr.heap.size) w2 ((((w2.setCell ⟨wr.heap.size, 0, none⟩ (.int .i64 xi)).setCell ⟨wr.heap.size, 1, none⟩ (.int .i64 xt)).setCell ⟨wr.heap.size, 2, none⟩ (.slice a1 xc.length k1)).setCell ⟨wr.heap.size, 3, none⟩ (.slice a2 xb.length k2)) :=
      ((((Only.refl (fun k => k = wr.heap.size) w2).set (.inl rfl) _).set (.inl rfl) _).set (.inl rfl) _).set (.inl rfl) _
    have h43 := ho.size
    have hbw2 := HBW.out.trans (HO1.out.1.mono hzz)
    refine ⟨.slice a1 xc.length k1, .slice a2 xb.length k2, by rw [HQ.out], ?_, ?_, ?_⟩
    · exact (((hbw2.setCell (p := ⟨wr.heap.size, 0, none⟩) (Nat.le_refl _) _).setCell (p := ⟨wr.heap.size, 1, none⟩) (Nat.le_refl _) _).setCell (p := ⟨wr.heap.size, 2, none⟩) (Nat.le_refl _) _).setCell (p := ⟨wr.heap.size, 3, none⟩) (Nat.le_refl _) _
    · exact HO1.out.rep.same (fun k hk => ⟨by omega, by omega⟩) fun k hk => ho.block k hk.2 (by omega)
    · exact HO2.out.rep.same (fun k hk => ⟨by omega, by omega⟩) fun k hk => ho.block k hk.2 (by omega)
end Go.Proofs.YtbcpcopapbgcdaaGreatDoor.M

/- Part: ShL. -/
namespace Go.Proofs.YtbcpcopapbgcdaaGreatDoor.M
open Go.RowKit Go.Maps
open D (Fl Dk)

/-- What a call on a shelf leaves. -/
def ShPost (w : World) (X : Nat → Prop) (gd gs : Nat) (wr : World) (r : Int × Dk) (top : Sn) (e : Ending) (w' : World) : Prop :=
  e = .returned (.int .i64 r.1) ∧ ∃ X', (∀ k, X' k → X k ∨ wr.heap.size ≤ k) ∧ SS w X' gd gs r.2 top w' ∧ Only (fun k => X k ∨ k = gs) wr w'

/-- .. and where its bytes lie then. -/
def ShPost2 (w : World) (X : Nat → Prop) (gd gs : Nat) (wr : World) (r : Int × Dk) (top : Sn) (e : Ending) (w' : World) : Prop :=
  e = .returned (.int .i64 r.1) ∧ ∃ X', (∀ k, X' k → X k ∨ wr.heap.size ≤ k) ∧ SS w X' gd gs r.2 top w' ∧ Only (fun k => X k ∨ k = gs) wr w' ∧ (Only X wr w' ∨ SAt (fun k => wr.heap.size ≤ k) gd gs top w')

theorem ShPost2.post {w : World} {X : Nat → Prop} {gd gs : Nat} {wr : World} {r : Int × Dk} {top : Sn} {e : Ending} {w' : World} (h : ShPost2 w X gd gs wr r top e w') : ShPost w X gd gs wr r top e w' := by
  obtain ⟨h1, X', h2, h3, h4, -⟩ := h
  exact ⟨h1, X', h2, h3, h4⟩

theorem heap_fiveS {w : World} {g : Nat} {x0 x1 x2 x3 x4 y1 y2 y3 y4 : Value} {t : TypeId} (h : w.heap[g]? = some (.cells #[x0, x1, x2, x3, x4] t)) :
    ((((w.setCell ⟨g, 1, none⟩ y1).setCell ⟨g, 2, none⟩ y2).setCell ⟨g, 3, none⟩ y3).setCell ⟨g, 4, none⟩ y4).heap[g]? = some (.cells #[x0, y1, y2, y3, y4] t) := by
  simp [World.setCell, Array.getElem?_modify, h]

theorem putS_no {d : Dk} {top x : Sn} (h : okSn (x.idx, x.term) = false ∨ hasS top x.idx = true) : putS d top x = (2, d) := by unfold putS; rw [if_pos h]
theorem putS_yes {d : Dk} {top x : Sn} (h1 : okSn (x.idx, x.term) = true) (h2 : hasS top x.idx = false) : putS d top x = writeF d (snName x.idx) (snBytes x) := by
  unfold putS
  rw [if_neg]
  rintro (h | h)
  · rw [h1] at h; cases h
  · rw [h2] at h; cases h

set_option maxRecDepth 20000 in
set_option maxHeartbeats 6400000 in
theorem ShPut2_any (d : Dk) (X : Nat → Prop) (gd gs : Nat) (top x : Sn) (cv bv : Value) (F : Nat → Prop) (w wr : World) (h : SS w X gd gs d top wr) (hc : RepB wr F x.conf cv) (hb : RepB wr F x.body bv) (hF : ∀ k, F k → k < wr.heap.size ∧ ¬ X k) (hl : x.conf.length + x.body.length ≤ 100000000) (hu : D.used d.fs ≤ 1000000000) (hT : Hid (Tab w)) (hP : Hid (Pow10 w)) :
    Calls Tryz.prog 31 #[.pointer (some ⟨gs, 0, none⟩), snAgg x cv bv] wr (ShPost2 w X gd gs wr (putS d top x) (if (putS d top x).1 = 0 then x else top)) := by
  obtain ⟨xi, xt, xc, xb⟩ := x
  simp only at hc hb hl
  obtain ⟨ca, cc, rfl, -⟩ := hc.slice
  obtain ⟨ba, bc, rfl, -⟩ := hb.slice
  have HNO : Hid (okSn (xi, xt) = false ∨ hasS top xi = true → putS d top ⟨xi, xt, xc, xb⟩ = (2, d)) := Lib.hid fun h => putS_no h
  have HYE : Hid (okSn (xi, xt) = true → hasS top xi = false → putS d top ⟨xi, xt, xc, xb⟩ = writeF d (snName xi) (snBytes ⟨xi, xt, xc, xb⟩)) := Lib.hid fun h1 h2 => putS_yes h1 h2
  obtain ⟨R, hR⟩ : ∃ R, R = putS d top ⟨xi, xt, xc, xb⟩ := ⟨_, rfl⟩
  rw [← hR] at HNO HYE ⊢
  obtain ⟨T, hT2⟩ : ∃ T, T = (if R.1 = 0 then (⟨xi, xt, xc, xb⟩ : Sn) else top) := ⟨_, rfl⟩
  rw [← hT2]
  have HTT := Lib.hid hT2
  clear hR hT2
  obtain ⟨B, hB⟩ : ∃ B, B = snBytes ⟨xi, xt, xc, xb⟩ := ⟨_, rfl⟩
  rw [← hB] at HYE
  have HBL : Hid (B.length ≤ 2000000000) := Lib.hid (by
    have h1 := snBytes_le ⟨xi, xt, xc, xb⟩
    rw [hB]
    simp only at h1
    omega)
  have HBB := Lib.hid hB
  clear hB
  unfold snAgg
  simp only
  obtain ⟨W, hW⟩ : ∃ W, W = wr.alloc (.cells #[.int .i64 xi, .int .i64 xt, .slice ca xc.length cc, .slice ba xb.length bc] 53) := ⟨_, rfl⟩
  have hbw : Below wr.heap.size wr W := by rw [hW]; exact below_alloc _ _
  have HBW := Lib.hid hbw
  obtain ⟨gb, hgb⟩ : ∃ gb, gb = wr.heap.size := ⟨_, rfl⟩
  have hxb : W.heap[gb]? = some (.cells #[.int .i64 xi, .int .i64 xt, .slice ca xc.length cc, .slice ba xb.length bc] 53) := by rw [hW, hgb]; exact heap_new _ _ _ rfl
  have hs := h.next hbw
  have HS := Lib.hid hs
  have HC : Hid (RepB wr (fun k => k < wr.heap.size ∧ ¬ X k) xc (.slice ca xc.length cc)) := Lib.hid (hc.weak hF)
  have HB : Hid (RepB wr (fun k => k < wr.heap.size ∧ ¬ X k) xb (.slice ba xb.length bc)) := Lib.hid (hb.weak hF)
  have HXG : Hid (¬ X gb) := Lib.hid fun hx => by have := h.ds.lt _ hx; omega
  have HGG : Hid (gb ≠ gs ∧ gb < W.heap.size ∧ wr.heap.size = gb) := Lib.hid ⟨by have := h.lt; omega, lt_of_heap hxb, hgb.symm⟩
  have HL := Lib.hid hl
  have HU := Lib.hid hu
  obtain ⟨cn, hcn⟩ : ∃ n, n = xc.length := ⟨_, rfl⟩
  obtain ⟨bn, hbn⟩ : ∃ n, n = xb.length := ⟨_, rfl⟩
  have HCN := Lib.hid hcn
  have HBN := Lib.hid hbn
  rw [← hcn, ← hbn] at hxb hW
  rw [← hcn] at HC
  rw [← hbn] at HB
  rw [← hcn, ← hbn]
  have HXB := Lib.hid hxb
  have HW := Lib.hid hW
  have HGB := Lib.hid hgb
  clear h hc hb hF hl hu hW hbw hgb hxb hs hcn hbn
  have HE2 : Hid (∀ w5 : World, Below W.heap.size W w5 → R = (2, d) → ShPost2 w X gd gs wr R T (.returned (.int .i64 2)) w5) := Lib.hid fun w5 hb5 hr => by
    rw [HTT.out, hr]
    refine ⟨rfl, X, fun k hk => .inl hk, ?_, Only.of_below (HBW.out.trans (hb5.mono HBW.out.size)), .inl (Only.of_below (HBW.out.trans (hb5.mono HBW.out.size)))⟩
    rw [if_neg (by simp)]
    exact HS.out.next hb5
  cases hok : okSn (xi, xt) with
  | false =>
    have HR2 := Lib.hid (HNO.out (.inl hok))
    obtain ⟨c0, c1, c2, c3, -, -, -, -, cz⟩ := sh_four HXB.out
    have HMK := Lib.hid (ShMark_any xi xt W)
    rw [hok] at HMK
    clear hok
    go_enter Tryz.func31, Tryz.ntmps31
    go_wp2_with fail
    rw [← HW.out, ← HGB.out]
    go_wp2_with fail
    refine HMK.out.mono ?_
    rintro e w1 ⟨rfl, hb1⟩
    have HB1 := Lib.hid hb1
    clear hb1 c0 c1 c2 c3 cz
    go_wp2_with fail
    go_ret
    exact HE2.out _ HB1.out HR2.out
  | true =>
    have hok1 := okSn_iff.1 hok
    simp only at hok1
    obtain ⟨cv0, bv0, hblk, -, -⟩ := HS.out.blk
    have HBLK := Lib.hid hblk
    clear hblk
    cases hha : hasS top xi with
    | true =>
      have HR2 := Lib.hid (HNO.out (.inr hha))
      obtain ⟨c0, c1, c2, c3, -, -, -, -, cz⟩ := sh_four HXB.out
      have HMK := Lib.hid (ShMark_any xi xt W)
      rw [hok] at HMK
      clear hok
      go_enter Tryz.func31, Tryz.ntmps31
      go_wp2_with fail
      rw [← HW.out, ← HGB.out]
      go_wp2_with fail
      refine HMK.out.mono ?_
      rintro e w1 ⟨rfl, hb1⟩
      have HB1 := Lib.hid hb1
      have HHA := Lib.hid (ShHas_any gs _ top xi cv0 bv0 w1 (old_below HBLK.out hb1))
      rw [hha] at HHA
      clear c0 c1 c2 c3 cz
      obtain ⟨c0, c1, c2, c3, -, -, -, -, cz⟩ := sh_four (old_below HXB.out hb1)
      clear hb1 hha
      go_wp2_with fail
      refine HHA.out.mono ?_
      rintro e w2 ⟨rfl, rfl⟩
      go_wp2_with fail
      go_ret
      exact HE2.out _ HB1.out HR2.out
    | false =>
      have HR2 := Lib.hid (HYE.out hok hha)
      obtain ⟨c0, c1, c2, c3, -, -, -, -, cz⟩ := sh_four HXB.out
      have HMK := Lib.hid (ShMark_any xi xt W)
      have HOK := Lib.hid hok
      rw [hok] at HMK
      clear hok
      go_enter Tryz.func31, Tryz.ntmps31
      go_wp2_with fail
      rw [← HW.out, ← HGB.out]
      go_wp2_with fail
      refine HMK.out.mono ?_
      rintro e w1 ⟨rfl, hb1⟩
      have HB1 := Lib.hid hb1
      have HHA := Lib.hid (ShHas_any gs _ top xi cv0 bv0 w1 (old_below HBLK.out hb1))
      rw [hha] at HHA
      clear c0 c1 c2 c3 cz
      have hx1 := old_below HXB.out hb1
      obtain ⟨c0, c1, c2, c3, -, -, -, -, cz⟩ := sh_four hx1
      obtain ⟨s0, -, -, -, -, sz⟩ := sh_five (old_below HBLK.out hb1)
      have HX1 := Lib.hid hx1
      have HS1 := Lib.hid (HS.out.next hb1)
      have HWB1 : Hid (Below wr.heap.size wr w1) := Lib.hid (HBW.out.trans (hb1.mono HBW.out.size))
      clear hb1 hha hx1
      go_wp2_with fail
      refine HHA.out.mono ?_
      rintro e w2 ⟨rfl, rfl⟩
      have hXg := HS1.out.out
      have hXb := HXG.out
      have oc : ∀ (w' : World) (g j : Nat) (v : Value), Only X w2 w' → g < w2.heap.size → ¬ X g → w2.cell? ⟨g, j, none⟩ = some v → w'.cell? ⟨g, j, none⟩ = some v := fun w' g j v ho hg hn hx => (World.cell?_of_block (a := ⟨g, j, none⟩) (ho.block g hg hn)).trans hx
      have q0 : ∀ w', Only X w2 w' → w'.cell? ⟨gs, 0, none⟩ = some (.pointer (some ⟨gd, 0, none⟩)) := fun w' hw' => oc w' _ _ _ hw' sz hXg s0
      have r0 : ∀ w', Only X w2 w' → w'.cell? ⟨gb, 0, none⟩ = some (.int .i64 xi) := fun w' hw' => oc w' _ _ _ hw' cz hXb c0
      have r1 : ∀ w', Only X w2 w' → w'.cell? ⟨gb, 1, none⟩ = some (.int .i64 xt) := fun w' hw' => oc w' _ _ _ hw' cz hXb c1
      have r2 : ∀ w', Only X w2 w' → w'.cell? ⟨gb, 2, none⟩ = some (.slice ca cn cc) := fun w' hw' => oc w' _ _ _ hw' cz hXb c2
      have r3 : ∀ w', Only X w2 w' → w'.cell? ⟨gb, 3, none⟩ = some (.slice ba bn bc) := fun w' hw' => oc w' _ _ _ hw' cz hXb c3
      have hS : Only X w2 w2.drew := Only.of_below (Below.refl _ _).drew
      clear oc c0 c1 c2 c3 cz s0 sz hXg hXb
      go_wp2_with fail
      refine wp_region_held (S := fun w' => Only X w2 w') (by kernel_rfl) ?_
      refine H_take (i := 0) (v := ?_) rfl (by as_aux_lemma => kernel_rfl) (by as_aux_lemma => kernel_rfl) (by as_aux_lemma => kernel_rfl) (fun _ _ _ h => h) (by rfl) hS ?_ ?_
      rotate_left
      · intro w' hw'; go_simp; with_reducible rfl
      go_simp
      refine H_take (i := 1) (v := ?_) rfl (by as_aux_lemma => kernel_rfl) (by as_aux_lemma => kernel_rfl) (by as_aux_lemma => kernel_rfl) (fun _ _ _ h => h) (by rfl) hS ?_ ?_
      rotate_left
      · intro w' hw'; go_simp; with_reducible rfl
      go_simp
      refine H_take (i := 2) (v := ?_) rfl (by as_aux_lemma => kernel_rfl) (by as_aux_lemma => kernel_rfl) (by as_aux_lemma => kernel_rfl) (fun _ _ _ h => h) (by rfl) hS ?_ ?_
      rotate_left
      · intro w' hw'; go_simp; with_reducible rfl
      go_simp
      refine H_take (i := 3) (v := ?_) rfl (by as_aux_lemma => kernel_rfl) (by as_aux_lemma => kernel_rfl) (by as_aux_lemma => kernel_rfl) (fun _ _ _ h => h) (by rfl) hS ?_ ?_
      rotate_left
      · intro w' hw'; go_simp; with_reducible rfl
      go_simp
      refine H_take (i := 4) (v := ?_) rfl (by as_aux_lemma => kernel_rfl) (by as_aux_lemma => kernel_rfl) (by as_aux_lemma => kernel_rfl) (fun _ _ _ h => h) (by rfl) hS ?_ ?_
      rotate_left
      · intro w' hw'; go_simp; with_reducible rfl
      go_simp
      refine H_take (i := 5) (v := ?_) rfl (by as_aux_lemma => kernel_rfl) (by as_aux_lemma => kernel_rfl) (by as_aux_lemma => kernel_rfl) (fun _ _ _ h => h) (by rfl) hS ?_ ?_
      rotate_left
      · intro w' hw'; go_simp; with_reducible rfl
      go_simp
      refine H_take (i := 6) (v := ?_) rfl (by as_aux_lemma => kernel_rfl) (by as_aux_lemma => kernel_rfl) (by as_aux_lemma => kernel_rfl) (fun _ _ _ h => h) (by rfl) hS ?_ ?_
      rotate_left
      · intro w' hw'; go_simp; with_reducible rfl
      go_simp
      refine H_take (i := 8) (v := ?_) rfl (by as_aux_lemma => kernel_rfl) (by as_aux_lemma => kernel_rfl) (by as_aux_lemma => kernel_rfl) (fun _ _ _ h => h) (by rfl) hS ?_ ?_
      rotate_left
      · intro w' hw'; go_simp; with_reducible rfl
      go_simp
      refine H_one (i := 7) (by as_aux_lemma => kernel_rfl) rfl (by rfl) ?_
      go_simp
      have hbd : Below w2.heap.size w2 w2.drew := (Below.refl _ _).drew
      refine (ShName_any xi w2.drew (by omega) (by omega) (Lib.hid (hP.out.next (HS1.out.ds.below.trans (hbd.mono HS1.out.ds.below.size))))).mono ?_
      rintro e w5 ⟨rfl, hb5⟩
      have hb25 : Below w2.heap.size w2 w5 := hbd.trans hb5
      have hS5 : Only X w2 w5 := Only.of_below hb25
      refine ⟨hS5, ?_⟩
      refine H_one (i := 9) (by as_aux_lemma => kernel_rfl) rfl (by rfl) ?_
      go_simp
      have HS5 := Lib.hid (HS1.out.next hb25)
      have HWB5 : Hid (Below wr.heap.size wr w5) := Lib.hid (HWB1.out.trans (hb25.mono HWB1.out.size))
      have hbc := ShBytes_any ⟨xi, xt, xc, xb⟩ (.slice ca cn cc) (.slice ba bn bc) (fun k => k < wr.heap.size ∧ ¬ X k) w5 HOK.out (HC.out.same (fun _ h => h) fun k hk => HWB5.out.block k hk.1) (HB.out.same (fun _ h => h) fun k hk => HWB5.out.block k hk.1) (fun k hk => Nat.lt_of_lt_of_le hk.1 HWB5.out.size) (by have := HL.out; show xc.length + xb.length ≤ _; omega) (HS5.out.ds.tab hT)
      rw [← HBB.out] at hbc
      refine hbc.mono ?_
      clear hbc
      rintro e w6 ⟨u, rfl, hown⟩
      have hS6 : Only X w2 w6 := hS5.next hown.1
      refine ⟨hS6, ?_⟩
      obtain ⟨ua, uc, rfl⟩ := hown.slice
      have HS6 := Lib.hid (HS5.out.next hown.1)
      have HU6 : Hid (RepB w6 (fun k => k < w6.heap.size ∧ ¬ X k) B (.slice ua B.length uc)) := Lib.hid (hown.rep.weak fun k hk => ⟨hk.2, fun hx => by
        have := HS5.out.ds.lt k hx
        omega⟩)
      have HWB6 : Hid (Below wr.heap.size wr w6) := Lib.hid (HWB5.out.trans (hown.1.mono HWB5.out.size))
      have HX6 := Lib.hid (old_below (old_below HX1.out hb25) hown.1)
      clear hb5 hb25 hown
      refine H_one (i := 10) (by as_aux_lemma => kernel_rfl) rfl (by rfl) ?_
      go_simp
      have hwc := ShWrite_any d X gd (snName xi) B (.slice ua B.length uc) w w6 HS6.out.ds (by rw [snName_size]; omega) HU6.out HU.out HBL.out
      rw [← HR2.out] at hwc
      refine hwc.mono ?_
      clear hwc
      rintro e w7 ⟨rfl, ho7, X7, hx7, h7⟩
      have hS7 : Only X w2 w7 := hS6.thn (fun _ h => .inl h) ho7
      refine ⟨hS7, ?_⟩
      have HS7 := Lib.hid (HS6.out.only ho7 hx7 h7)
      have HXX : Hid (∀ k, X7 k → X k ∨ wr.heap.size ≤ k) := Lib.hid fun k hk => by
        rcases hx7 k hk with h | h
        · exact .inl h
        · exact .inr (Nat.le_trans HWB6.out.size h)
      have HO7 : Hid (Only X wr w7) := Lib.hid ((Only.of_below HWB6.out).thn (fun k hk => .inl hk) ho7)
      have HX7 := Lib.hid ((ho7.block gb (lt_of_heap HX6.out) HXG.out).trans HX6.out)
      have HOL : Hid (∀ k, k < wr.heap.size → ¬ X k → w7.heap[k]? = wr.heap[k]?) := Lib.hid fun k h1 h2 => HO7.out.block k h1 h2
      obtain ⟨R1, R2⟩ := R
      clear ho7 hx7 h7
      simp only
      refine H_take (i := 11) (v := ?_) rfl (by as_aux_lemma => kernel_rfl) (by as_aux_lemma => kernel_rfl) (by as_aux_lemma => kernel_rfl) (fun _ _ _ h => h) (by rfl) hS7 ?_ ?_
      rotate_left
      · intro w' hw'; go_simp; with_reducible rfl
      go_simp
      refine wpAnyH_done (by as_aux_lemma => kernel_rfl) ?_ _
      clear q0 r0 r1 r2 r3 hS hS5 hS6 hS7 hbd
      simp only at HTT
      by_cases hr0 : R1 = 0
      · subst hr0
        have HT3 : Hid (T = ⟨xi, xt, xc, xb⟩) := Lib.hid (by rw [HTT.out, if_pos rfl])
        have HCP := Lib.hid (ShCopied_any ⟨xi, xt, xc, xb⟩ (.slice ca cn cc) (.slice ba bn bc) (fun k => k < wr.heap.size ∧ ¬ X k) w7 (HC.out.same (fun _ h => h) fun k hk => HO7.out.block k hk.1 hk.2) (HB.out.same (fun _ h => h) fun k hk => HO7.out.block k hk.1 hk.2) (fun k hk => Nat.lt_of_lt_of_le hk.1 HO7.out.size) (by have := HL.out; show xc.length ≤ _; omega) (by have := HL.out; show xb.length ≤ _; omega))
        unfold snAgg at HCP
        simp only at HCP
        obtain ⟨c0, c1, c2, c3, -, -, -, -, cz⟩ := sh_four HX7.out
        go_wp2_with fail
        refine HCP.out.mono ?_
        rintro e w8 ⟨u1, u2, rfl, ho1, ho2⟩
        obtain ⟨a1, k1, rfl⟩ := ho1.slice
        obtain ⟨a2, k2, rfl⟩ := ho2.slice
        rw [← HCN.out] at ho1 ⊢
        rw [← HBN.out] at ho2 ⊢
        have HO1 := Lib.hid ho1
        have HO2 := Lib.hid ho2
        have HS8 := Lib.hid (HS7.out.next ho1.1)
        have HO8 : Hid (Only X wr w8) := Lib.hid (HO7.out.next ho1.1)
        obtain ⟨cv8, bv8, hblk8, -, -⟩ := HS8.out.blk
        have HBLK8 := Lib.hid hblk8
        obtain ⟨s0, s1, s2, s3, s4, sz⟩ := sh_five hblk8
        have f1 : w8.frozen? ⟨gs, 1, none⟩ = false := frozen_of_row _ _ 1 _ _ hblk8
        have f2 : w8.frozen? ⟨gs, 2, none⟩ = false := frozen_of_row _ _ 2 _ _ hblk8
        have f3 : w8.frozen? ⟨gs, 3, none⟩ = false := frozen_of_row _ _ 3 _ _ hblk8
        have f4 : w8.frozen? ⟨gs, 4, none⟩ = false := frozen_of_row _ _ 4 _ _ hblk8
        clear ho1 ho2 c0 c1 c2 c3 cz hblk8
        go_wp2_with fail
        go_ret
        rw [HT3.out]
        have hl7 := HS7.out.ds.lt
        have hg7 := HS7.out.lt
        have hnw := HS8.out.new
        have hX7 := HS8.out.out
        refine ⟨rfl, X7, HXX.out, ⟨(((HS8.out.ds.set hnw hX7).set hnw hX7).set hnw hX7).set hnw hX7, ⟨_, _, heap_fiveS HBLK8.out, ?_, ?_⟩, hX7, hnw, by have := HL.out; show xc.length + xb.length ≤ _; omega⟩, ((((HO8.out.mono fun k hk => .inl hk).set (.inl (.inr rfl)) _).set (.inl (.inr rfl)) _).set (.inl (.inr rfl)) _).set (.inl (.inr rfl)) _, .inr ⟨_, _, heap_fiveS HBLK8.out, ?_, ?_⟩⟩
        · have ho : Only (fun k => k = gs) w8 ((((w8.setCell ⟨gs, 1, none⟩ (.int .i64 xi)).setCell ⟨gs, 2, none⟩ (.int .i64 xt)).setCell ⟨gs, 3, none⟩ (.slice a1 cn k1)).setCell ⟨gs, 4, none⟩ (.slice a2 bn k2)) :=
            ((((Only.refl (fun k => k = gs) w8).set (.inl rfl) _).set (.inl rfl) _).set (.inl rfl) _).set (.inl rfl) _
          have hz := ho.size
          exact HO1.out.rep.same (fun k hk => ⟨by omega, fun hx => by have := hl7 k hx; omega, by omega⟩) fun k hk => ho.block k hk.2 (by omega)
        · have ho : Only (fun k => k = gs) w8 ((((w8.setCell ⟨gs, 1, none⟩ (.int .i64 xi)).setCell ⟨gs, 2, none⟩ (.int .i64 xt)).setCell ⟨gs, 3, none⟩ (.slice a1 cn k1)).setCell ⟨gs, 4, none⟩ (.slice a2 bn k2)) :=
            ((((Only.refl (fun k => k = gs) w8).set (.inl rfl) _).set (.inl rfl) _).set (.inl rfl) _).set (.inl rfl) _
          have hz := ho.size
          exact HO2.out.rep.same (fun k hk => ⟨by omega, fun hx => by have := hl7 k hx; omega, by omega⟩) fun k hk => ho.block k hk.2 (by omega)
        · have ho : Only (fun k => k = gs) w8 ((((w8.setCell ⟨gs, 1, none⟩ (.int .i64 xi)).setCell ⟨gs, 2, none⟩ (.int .i64 xt)).setCell ⟨gs, 3, none⟩ (.slice a1 cn k1)).setCell ⟨gs, 4, none⟩ (.slice a2 bn k2)) :=
            ((((Only.refl (fun k => k = gs) w8).set (.inl rfl) _).set (.inl rfl) _).set (.inl rfl) _).set (.inl rfl) _
          have hz := HO7.out.size
          exact HO1.out.rep.same (fun k hk => by omega) fun k hk => ho.block k hk.2 (by omega)
        · have ho : Only (fun k => k = gs) w8 ((((w8.setCell ⟨gs, 1, none⟩ (.int .i64 xi)).setCell ⟨gs, 2, none⟩ (.int .i64 xt)).setCell ⟨gs, 3, none⟩ (.slice a1 cn k1)).setCell ⟨gs, 4, none⟩ (.slice a2 bn k2)) :=
            ((((Only.refl (fun k => k = gs) w8).set (.inl rfl) _).set (.inl rfl) _).set (.inl rfl) _).set (.inl rfl) _
          have hz := HO7.out.size
          exact HO2.out.rep.same (fun k hk => by omega) fun k hk => ho.block k hk.2 (by omega)
      · have q1 : (R1 != 0) = true := by simpa using hr0
        have HT3 : Hid (T = top) := Lib.hid (by rw [HTT.out, if_neg hr0])
        clear hr0
        go_wp2_with fail
        go_ret
        rw [HT3.out]
        exact ⟨rfl, X7, HXX.out, HS7.out, HO7.out.mono fun k hk => .inl hk, .inl HO7.out⟩

theorem ShPut_any (d : Dk) (X : Nat → Prop) (gd gs : Nat) (top x : Sn) (cv bv : Value) (F : Nat → Prop) (w wr : World) (h : SS w X gd gs d top wr) (hc : RepB wr F x.conf cv) (hb : RepB wr F x.body bv) (hF : ∀ k, F k → k < wr.heap.size ∧ ¬ X k) (hl : x.conf.length + x.body.length ≤ 100000000) (hu : D.used d.fs ≤ 1000000000) (hT : Hid (Tab w)) (hP : Hid (Pow10 w)) :
    Calls Tryz.prog 31 #[.pointer (some ⟨gs, 0, none⟩), snAgg x cv bv] wr (ShPost w X gd gs wr (putS d top x) (if (putS d top x).1 = 0 then x else top)) :=
  (ShPut2_any d X gd gs top x cv bv F w wr h hc hb hF hl hu hT hP).mono fun _ _ h => h.post
end Go.Proofs.YtbcpcopapbgcdaaGreatDoor.M

/- Part: ShM. -/
namespace Go.Proofs.YtbcpcopapbgcdaaGreatDoor.M
open Go.RowKit Go.Maps
open D (Fl Dk)

/-- .. and then what is aside. -/
def thenDrop (r : Int × Dk) : Int × Dk := if r.1 ≠ 0 then r else dropNew r.2

/-- What is left to do of a cleaning. -/
def cleanT (top : Int) (d : Dk) (l : List ByteArray) : Int × Dk := thenDrop (removeEach d (l.filter (elder top)))

theorem cleanS_eq (d : Dk) (top : Int) : cleanS d top = cleanT top d (d.fs.map (·.nm)) := rfl

theorem cleanT_nil (top : Int) (d : Dk) : cleanT top d [] = dropNew d := by
  unfold cleanT
  rw [List.filter_nil]
  show thenDrop (0, d) = _
  unfold thenDrop
  rw [if_neg (by simp)]

theorem cleanT_skip {top : Int} {d : Dk} {nm : ByteArray} {l : List ByteArray} (h : elder top nm = false) : cleanT top d (nm :: l) = cleanT top d l := by
  unfold cleanT
  rw [List.filter_cons_of_neg (by rw [h]; simp)]

theorem cleanT_take {top : Int} {d : Dk} {nm : ByteArray} {l : List ByteArray} (h : elder top nm = true) : cleanT top d (nm :: l) = if (D.remove d [nm]).1 ≠ 0 then D.remove d [nm] else cleanT top (D.remove d [nm]).2 l := by
  unfold cleanT
  rw [List.filter_cons_of_pos h]
  show thenDrop (if (D.remove d [nm]).1 ≠ 0 then D.remove d [nm] else removeEach (D.remove d [nm]).2 (l.filter (elder top))) = _
  by_cases h0 : (D.remove d [nm]).1 ≠ 0
  · rw [if_pos h0, if_pos h0]
    unfold thenDrop
    rw [if_pos h0]
  · rw [if_neg h0, if_neg h0]

theorem RepSl.of_row {w : World} {base n : Nat} {v : Value} {ls : List ByteArray} {F : Nat → Prop} (h : w.ownsRow base 9 1 v n (ls.map Value.string)) (hn : n = ls.length) (hF : ∀ k, base ≤ k → k < w.heap.size → F k) : RepSl w F ls v := by
  obtain ⟨a, c, rfl⟩ := owned_slice h
  by_cases h0 : ls.length = 0
  · have hl : ls = [] := List.eq_nil_of_length_eq_zero h0
    obtain ⟨h1, h2⟩ := h
    rcases h2 with ⟨h3, -⟩ | ⟨g, cap, cur, h3, -, -, -, h4, -⟩
    · cases h3
      exact .inl ⟨hl, Bare.nil⟩
    · cases h3
      rw [hn, h0]
      exact .inl ⟨hl, Bare.at (by unfold maxLen at h4; omega)⟩
  · have h' := h
    obtain ⟨h1, h2⟩ := h
    rcases h2 with ⟨h3, h4⟩ | ⟨g, cap, cur, h3, hg, hcur, h5, h4, -⟩
    · omega
    · cases h3
      refine .inr ⟨g, 0, c, by rw [hn], hF g hg (lt_of_heap hcur), by omega, by unfold maxLen at h4; omega, fun i hi => ?_⟩
      obtain ⟨g', he, -, -, h6⟩ := row_cell h' i (by omega)
      cases he
      rw [Nat.zero_add, h6, List.getElem?_map, List.getElem?_eq_getElem hi]
      rfl

set_option maxRecDepth 20000 in
set_option maxHeartbeats 6400000 in
theorem ShClean2_any (d : Dk) (X : Nat → Prop) (gd gs : Nat) (top : Sn) (w wr0 : World) (h : SS w X gd gs d top wr0) (hu : D.used d.fs ≤ 1000000000) :
    Calls Tryz.prog 32 #[.pointer (some ⟨gs, 0, none⟩)] wr0 (ShPost2 w X gd gs wr0 (cleanS d top.idx) top) := by
  obtain ⟨R, hR⟩ : ∃ R, R = cleanS d top.idx := ⟨_, rfl⟩
  have HH := Lib.hid h
  have HNC := Lib.hid (Names_any d X gd wr0 h.ds.dsk h.ds.fine.1 (by have := h.ds.fine.2.2; omega))
  have HNS : Hid (∀ nm ∈ d.fs.map (·.nm), nm.size ≤ 9223372036854775807) := Lib.hid fun nm hm => by
    obtain ⟨f, hf, rfl⟩ := List.mem_map.1 hm
    exact h.ds.fine.2.1 f hf
  rw [cleanS_eq] at hR
  have hml : (d.fs.map fun f => Value.string f.nm) = (d.fs.map (·.nm)).map Value.string := by simp
  have hll : d.fs.length = (d.fs.map (·.nm)).length := by simp
  rw [← cleanS_eq] at hR
  rw [← hR]
  rw [cleanS_eq] at hR
  rw [hml, hll] at HNC
  obtain ⟨ls, hls⟩ : ∃ ls, ls = d.fs.map (·.nm) := ⟨_, rfl⟩
  rw [← hls] at hR HNC HNS
  have HR := Lib.hid hR
  have HU := Lib.hid hu
  obtain ⟨n, hn⟩ : ∃ n, n = ls.length := ⟨_, rfl⟩
  rw [← hn] at HNC
  have HN := Lib.hid hn
  have hn4 : n ≤ 4096 := by
    have := h.ds.fine.2.2
    rw [hn, hls, List.length_map]
    exact this
  obtain ⟨cv, bv, hblk, -, -⟩ := h.blk
  obtain ⟨s0, s1, s2, s3, s4, sz⟩ := sh_five hblk
  clear h hu hR hml hll hls hn hblk
  go_enter Tryz.func32, Tryz.ntmps32
  go_wp2_with fail
  refine HNC.out.mono ?_
  rintro e w1 ⟨v, rfl, hb1, hown⟩
  obtain ⟨va, vc, rfl⟩ := owned_slice hown
  have HS1 := Lib.hid (HH.out.next hb1)
  have HB1 := Lib.hid hb1
  have HRS : Hid (RepSl w1 (fun q => q < w1.heap.size ∧ ¬ X q) ls (.slice va n vc)) := Lib.hid (RepSl.of_row hown HN.out fun k h1 h2 => ⟨h2, fun hx => by have := HH.out.ds.lt k hx; omega⟩)
  clear hb1 hown s0 s1 s2 s3 s4 sz
  go_wp2_with fail
  go_loopw [4, 5, 6, 7, 14] (fun _ _ _ _ i wr => ∃ (k : Nat) (dk : Dk) (Xk : Nat → Prop), i = .int .i64 (k : Int) ∧ k ≤ n ∧ Hid (R = cleanT top.idx dk (ls.drop k)) ∧ Hid (∀ q, Xk q → X q ∨ wr0.heap.size ≤ q) ∧ Hid (SS w Xk gd gs dk top wr) ∧ Hid (Only X wr0 wr) ∧ Hid (D.used dk.fs ≤ 1000000000) ∧ Hid (RepSl wr (fun q => q < wr.heap.size ∧ ¬ Xk q) ls (.slice va n vc))) (fun _ _ _ _ i _ => n - (intOf i).toNat)
  case atStart => exact ⟨0, d, X, rfl, Nat.zero_le _, HR, Lib.hid fun q hq => .inl hq, HS1, Lib.hid (Only.of_below HB1.out), HU, HRS⟩
  case round =>
    obtain ⟨k, dk, Xk, rfl, hk, HRK, HXK, HSK, HOK, HUK, HRSK⟩ := hrel
    obtain ⟨cv, bv, hblk, -, -⟩ := HSK.out.blk
    have HBLK := Lib.hid hblk
    obtain ⟨s0, s1, s2, s3, s4, sz⟩ := sh_five hblk
    clear hblk
    by_cases hlt : k < n
    · have hkk : (k : Int) < (n : Int) := by omega
      have hlt2 : k < ls.length := by rw [← HN.out]; exact hlt
      obtain ⟨gb, off, rfl, ⟨hgz, hgX⟩, hcell⟩ := HRSK.out.elem k hlt2
      have HDK : Hid ((elder top.idx ls[k] = false → R = cleanT top.idx dk (ls.drop (k + 1))) ∧ (elder top.idx ls[k] = true → R = if (D.remove dk [ls[k]]).1 ≠ 0 then D.remove dk [ls[k]] else cleanT top.idx (D.remove dk [ls[k]]).2 (ls.drop (k + 1)))) := Lib.hid (by
        have hd : ls.drop k = ls[k] :: ls.drop (k + 1) := List.drop_eq_getElem_cons hlt2
        have h := HRK.out
        rw [hd] at h
        exact ⟨fun q => h.trans (cleanT_skip q), fun q => h.trans (cleanT_take q)⟩)
      have HSZ : Hid (ls[k].size ≤ 9223372036854775807) := Lib.hid (HNS.out _ (List.getElem_mem hlt2))
      obtain ⟨nm, hnm⟩ : ∃ nm, nm = ls[k] := ⟨_, rfl⟩
      rw [← hnm] at hcell HDK HSZ
      have HGB := Lib.hid hgX
      clear hnm hlt2 hgX HRK
      have HIC := Lib.hid (ShIdx_any nm wr HSZ.out)
      cases hi : snIdx nm with
      | none =>
        have HE : Hid (elder top.idx nm = false) := Lib.hid (by unfold elder; rw [hi])
        rw [idxV_none hi] at HIC
        clear hi
        go_wp2_with fail
        refine HIC.out.mono ?_
        rintro e w2 ⟨rfl, hb2⟩
        have HB2 := Lib.hid hb2
        clear hb2 hcell s0 s1 s2 s3 s4 sz
        go_wp2_with fail
        go_roundw
        case rel => exact ⟨k + 1, dk, Xk, by go_num, by omega, Lib.hid (HDK.out.1 HE.out), HXK, Lib.hid (HSK.out.next HB2.out), Lib.hid (HOK.out.next HB2.out), HUK, Lib.hid (HRSK.out.same (fun q hq => ⟨Nat.lt_of_lt_of_le hq.1 HB2.out.size, hq.2⟩) fun q hq => HB2.out.block q hq.1)⟩
        case measure => simp [intOf]; omega
      | some i =>
        rw [idxV_some hi] at HIC
        by_cases hle : (i : Int) < top.idx
        · have HE : Hid (elder top.idx nm = true) := Lib.hid (by unfold elder; rw [hi]; exact decide_eq_true hle)
          have q1 : decide (top.idx ≤ (i : Int)) = false := decide_eq_false (by omega)
          have HRW := Lib.hid (remove_well HSK.out.ds.well [nm])
          clear hi
          go_wp2_with fail
          refine HIC.out.mono ?_
          rintro e w2 ⟨rfl, hb2⟩
          have HB2 := Lib.hid hb2
          have HS2 := Lib.hid (HSK.out.next hb2)
          have HO2 := Lib.hid (HOK.out.next hb2)
          have HRS2 : Hid (RepSl w2 (fun q => q < w2.heap.size ∧ ¬ Xk q) ls (.slice (some ⟨gb, off, none⟩) n vc)) := Lib.hid (HRSK.out.same (fun q hq => ⟨Nat.lt_of_lt_of_le hq.1 hb2.size, hq.2⟩) fun q hq => hb2.block q hq.1)
          clear hcell s0 s1 s2 s3 s4 sz
          obtain ⟨s0, s1, s2, s3, s4, sz⟩ := sh_five (old_below HBLK.out hb2)
          clear hb2
          go_wp2_with fail
          obtain ⟨a1, a2, a3⟩ := HS2.out.ds.names [nm] 1 rfl (by simp) 9 rfl
          refine (DRemove a1 [nm] _ _ (by have := HSZ.out; simpa using this) a2 a3).mono ?_
          rintro e w3 ⟨rfl, ho3, X3, hx3, h3⟩
          obtain ⟨r, hr⟩ : ∃ r, r = D.remove dk [nm] := ⟨_, rfl⟩
          rw [← hr] at h3 HDK HRW ⊢
          have hs2a := HS2.out.next (below_alloc w2 (.cells #[.string nm] 9))
          have HS3 := Lib.hid (hs2a.only ho3 hx3 h3)
          have HX3 : Hid (∀ q, X3 q → X q ∨ wr0.heap.size ≤ q) := Lib.hid fun q hq => by
            rcases hx3 q hq with h | h
            · exact HXK.out q h
            · have h5 := HO2.out.size
              simp only [World.size_alloc] at h
              exact .inr (by omega)
          have HO3 : Hid (Only X wr0 w3) := Lib.hid ((HO2.out.next (below_alloc _ _)).thn HXK.out ho3)
          have HRS3 : Hid (RepSl w3 (fun q => q < w3.heap.size ∧ ¬ X3 q) ls (.slice (some ⟨gb, off, none⟩) n vc)) := Lib.hid (HRS2.out.same (fun q hq => by
            have h5 := ho3.size
            simp only [World.size_alloc] at h5
            refine ⟨by omega, fun hx => ?_⟩
            rcases hx3 q hx with h | h
            · exact hq.2 h
            · simp only [World.size_alloc] at h
              omega) fun q hq => (ho3.block q (by simp; omega) hq.2).trans (Below.heap_alloc _ _ _ hq.1))
          clear a1 a2 a3 ho3 hx3 h3 hr hs2a s0 s1 s2 s3 s4 sz
          obtain ⟨r1, d3⟩ := r
          simp only at HDK HRW ⊢
          by_cases hr0 : r1 = 0
          · subst hr0
            have HR3 : Hid (R = cleanT top.idx d3 (ls.drop (k + 1))) := Lib.hid (by have h := HDK.out.2 HE.out; rw [if_neg (by simp)] at h; exact h)
            go_wp2_with fail
            go_roundw
            case rel => exact ⟨k + 1, d3, X3, by go_num, by omega, HR3, HX3, HS3, HO3, Lib.hid (Nat.le_trans HRW.out.2 HUK.out), HRS3⟩
            case measure => simp [intOf]; omega
          · have q2 : (r1 != 0) = true := by simpa using hr0
            have HR3 : Hid (R = (r1, d3)) := Lib.hid (by have h := HDK.out.2 HE.out; rw [if_pos hr0] at h; exact h)
            clear hr0
            go_wp2_with fail
            go_ret
            rw [HR3.out]
            exact ⟨rfl, X3, HX3.out, HS3.out, HO3.out.mono fun q hq => .inl hq, .inl HO3.out⟩
        · have HE : Hid (elder top.idx nm = false) := Lib.hid (by unfold elder; rw [hi]; exact decide_eq_false hle)
          have q1 : top.idx ≤ (i : Int) := by omega
          clear hi
          go_wp2_with fail
          refine HIC.out.mono ?_
          rintro e w2 ⟨rfl, hb2⟩
          have HB2 := Lib.hid hb2
          clear hcell s0 s1 s2 s3 s4 sz
          obtain ⟨s0, s1, s2, s3, s4, sz⟩ := sh_five (old_below HBLK.out hb2)
          clear hb2
          go_wp2_with fail
          go_roundw
          case rel => exact ⟨k + 1, dk, Xk, by go_num, by omega, Lib.hid (HDK.out.1 HE.out), HXK, Lib.hid (HSK.out.next HB2.out), Lib.hid (HOK.out.next HB2.out), HUK, Lib.hid (HRSK.out.same (fun q hq => ⟨Nat.lt_of_lt_of_le hq.1 HB2.out.size, hq.2⟩) fun q hq => HB2.out.block q hq.1)⟩
          case measure => simp [intOf]; omega
    · have hkk : ¬ (k : Int) < (n : Int) := by omega
      have HR3 : Hid (R = dropNew dk) := Lib.hid (by
        have h := HRK.out
        rw [List.drop_of_length_le (by have := HN.out; omega), cleanT_nil] at h
        exact h)
      have HDC := Lib.hid (ShDrop_any dk Xk gd w wr HSK.out.ds HUK.out)
      rw [← HR3.out] at HDC
      go_wp2_with fail
      refine HDC.out.mono ?_
      rintro e w3 ⟨rfl, ho3, X3, hx3, h3⟩
      have HS3 := Lib.hid (HSK.out.only ho3 hx3 h3)
      have HX3 : Hid (∀ q, X3 q → X q ∨ wr0.heap.size ≤ q) := Lib.hid fun q hq => by
        rcases hx3 q hq with h | h
        · exact HXK.out q h
        · have h5 := HOK.out.size
          exact .inr (by omega)
      have HO3 : Hid (Only X wr0 w3) := Lib.hid (HOK.out.thn HXK.out ho3)
      clear ho3 hx3 h3 s0 s1 s2 s3 s4 sz
      go_wp2_with fail
      go_ret
      exact ⟨rfl, X3, HX3.out, HS3.out, HO3.out.mono fun q hq => .inl hq, .inl HO3.out⟩

theorem ShClean_any (d : Dk) (X : Nat → Prop) (gd gs : Nat) (top : Sn) (w wr0 : World) (h : SS w X gd gs d top wr0) (hu : D.used d.fs ≤ 1000000000) :
    Calls Tryz.prog 32 #[.pointer (some ⟨gs, 0, none⟩)] wr0 (ShPost w X gd gs wr0 (cleanS d top.idx) top) :=
  (ShClean2_any d X gd gs top w wr0 h hu).mono fun _ _ h => h.post
end Go.Proofs.YtbcpcopapbgcdaaGreatDoor.M

/- Part: ShN. -/
namespace Go.Proofs.YtbcpcopapbgcdaaGreatDoor.M
open Go.RowKit Go.Maps
open D (Fl Dk)

/-- A text's bytes in a new block. -/
theorem RepB.text {w : World} (s : ByteArray) (hs : s.size ≤ 9223372036854775807) {t : TypeId} {fr : Nat × Nat} {g n : Nat} (hg : g = w.heap.size) (hn : n = s.size) :
    RepB (w.drew.alloc (.cells (bytesRow s (grownCap w s.size 0 5)) t fr)) (fun k => k = g) s.data.toList (.slice (some ⟨g, 0, none⟩) n (grownCap w s.size 0 5)) := by
  subst hg hn
  have hl : s.data.toList.length = s.size := by simp
  refine .inr ⟨w.heap.size, 0, _, by rw [hl], rfl, by rw [hl]; exact grownCap_ge w s.size 0 5, by have := grownCap_le_maxLen w s.size 0 5 (by unfold maxLen; omega); unfold maxLen at this; omega, fun i hi => ?_⟩
  have hi2 : i < s.size := by omega
  have h2 := World.cell?_alloc_mark w.drew (bytesRow s (grownCap w s.size 0 5)) t fr i
  have e : w.drew.heap.size = w.heap.size := rfl
  rw [e] at h2
  rw [Nat.zero_add, h2, bytesRow_at s _ i hi2]
  rfl

set_option maxRecDepth 20000 in
theorem Snap_any (i t : Int) (s : ByteArray) (w : World) (hs : s.size ≤ 9223372036854775807) :
    Calls Tryz.prog 43 #[.int .i64 i, .int .i64 t, .string s] w fun e w' => ∃ u, e = .returned (snAgg ⟨i, t, [], s.data.toList⟩ (.slice none 0 0) u) ∧ Below w.heap.size w w' ∧ RepB w' (fun k => w.heap.size ≤ k ∧ k < w'.heap.size) s.data.toList u := by
  obtain ⟨W, hW⟩ : ∃ W, W = w.alloc (.cells #[.int .i64 0, .int .i64 0, .slice none 0 0, .slice none 0 0] 53) := ⟨_, rfl⟩
  have hb0 : Below w.heap.size w W := by rw [hW]; exact below_alloc _ _
  have hx0 : W.heap[w.heap.size]? = some (.cells #[.int .i64 0, .int .i64 0, .slice none 0 0, .slice none 0 0] 53) := by rw [hW]; exact heap_new _ _ _ rfl
  have hcv := run_bytes_of_string W 9 34 5 s Tryz.underlying9 Tryz.underlying34 Tryz.underlying5
  have hrep := RepB.text (w := W) s hs (t := 5) (fr := ((bytesRow s (grownCap W s.size 0 5)).size, (bytesRow s (grownCap W s.size 0 5)).size + 1)) (g := W.heap.size) (n := s.size) rfl rfl
  obtain ⟨cp, hcp⟩ : ∃ cp, cp = grownCap W s.size 0 5 := ⟨_, rfl⟩
  rw [← hcp] at hcv hrep
  obtain ⟨W2, hW2⟩ : ∃ W2, W2 = W.drew.alloc (.cells (bytesRow s cp) 5 ((bytesRow s cp).size, (bytesRow s cp).size + 1)) := ⟨_, rfl⟩
  have hb2 : Below W.heap.size W W2 := by rw [hW2]; exact Below.mkBytes _ _ _ _
  rw [← hW2] at hcv hrep
  have hgz : W.heap.size < W2.heap.size := by rw [hW2]; simp
  have hx2 := old_below hx0 hb2
  have HB2 : Hid (Below w.heap.size w W2) := Lib.hid (hb0.trans (hb2.mono hb0.size))
  have HREP := Lib.hid hrep
  obtain ⟨n, hn⟩ : ∃ n, n = s.size := ⟨_, rfl⟩
  rw [← hn] at hcv HREP
  have HN := Lib.hid hn
  have HZ : Hid (w.heap.size < W.heap.size) := Lib.hid (by rw [hW]; simp)
  obtain ⟨c0, c1, c2, c3, f0, f1, f2, f3, cz⟩ := sh_four hx2
  have hgs : W.heap.size = w.heap.size + 1 := by rw [hW]; simp
  rw [hgs] at hcv HREP hgz
  rw [hW] at hcv
  clear hb0 hx0 hcp hW2 hb2 hx2 hrep hn hW hs hgs
  go_enter Tryz.func43, Tryz.ntmps43
  go_wp2_with fail
  refine bodyPost_ret (v := .agg #[.int .i64 i, .int .i64 t, .slice none 0 0, .slice (some ⟨w.heap.size + 1, 0, none⟩) n cp]) (by simp [results, Tryz.results43, go_sem, c0, c1, c2, c3, cz]) rfl ?_
  have ho : Only (fun k => k = w.heap.size) W2 ((((W2.setCell ⟨w.heap.size, 0, none⟩ (.int .i64 i)).setCell ⟨w.heap.size, 1, none⟩ (.int .i64 t)).setCell ⟨w.heap.size, 2, none⟩ (.slice none 0 0)).setCell ⟨w.heap.size, 3, none⟩ (.slice (some ⟨w.heap.size + 1, 0, none⟩) n cp)) :=
    ((((Only.refl (fun k => k = w.heap.size) W2).set (.inl rfl) _).set (.inl rfl) _).set (.inl rfl) _).set (.inl rfl) _
  have hz := ho.size
  have hwz := HZ.out
  refine ⟨_, rfl, (((HB2.out.setCell (p := ⟨w.heap.size, 0, none⟩) (Nat.le_refl _) _).setCell (p := ⟨w.heap.size, 1, none⟩) (Nat.le_refl _) _).setCell (p := ⟨w.heap.size, 2, none⟩) (Nat.le_refl _) _).setCell (p := ⟨w.heap.size, 3, none⟩) (Nat.le_refl _) _, ?_⟩
  exact HREP.out.same (fun k hk => ⟨by omega, by omega⟩) fun k hk => ho.block k (by omega) (by omega)

/-- Are two snapshots the same? -/
def sameSn (a b : Sn) : Bool := decide (a.idx = b.idx ∧ a.term = b.term ∧ a.conf = b.conf ∧ a.body = b.body)

theorem sameSn_iff (a b : Sn) : sameSn a b = true ↔ a = b := by
  unfold sameSn
  rw [decide_eq_true_iff]
  constructor
  · rintro ⟨h1, h2, h3, h4⟩
    exact Sn.ext h1 h2 h3 h4
  · rintro rfl
    exact ⟨rfl, rfl, rfl, rfl⟩

set_option maxRecDepth 20000 in
set_option maxHeartbeats 1600000 in
theorem Same6_any (a b : Sn) (ca ba cb bb : Value) (F : Nat → Prop) (w : World) (h1 : RepB w F a.conf ca) (h2 : RepB w F a.body ba) (h3 : RepB w F b.conf cb) (h4 : RepB w F b.body bb) (hF : ∀ k, F k → k < w.heap.size) :
    Calls Tryz.prog 25 #[snAgg a ca ba, snAgg b cb bb] w fun e w' => e = .returned (.bool (sameSn a b)) ∧ Below w.heap.size w w' := by
  obtain ⟨ai, at', ac, ab⟩ := a
  obtain ⟨bi, bt, bc, bb'⟩ := b
  simp only at h1 h2 h3 h4
  obtain ⟨R, hR⟩ : ∃ R, R = sameSn ⟨ai, at', ac, ab⟩ ⟨bi, bt, bc, bb'⟩ := ⟨_, rfl⟩
  rw [← hR]
  have HR : Hid (R = decide (ai = bi ∧ at' = bt ∧ ac = bc ∧ ab = bb')) := Lib.hid hR
  unfold snAgg
  simp only
  obtain ⟨p1, q1, rfl, -⟩ := h1.slice
  obtain ⟨p2, q2, rfl, -⟩ := h2.slice
  obtain ⟨p3, q3, rfl, -⟩ := h3.slice
  obtain ⟨p4, q4, rfl, -⟩ := h4.slice
  obtain ⟨W, hW⟩ : ∃ W, W = (w.alloc (.cells #[.int .i64 ai, .int .i64 at', .slice p1 ac.length q1, .slice p2 ab.length q2] 53)).alloc (.cells #[.int .i64 bi, .int .i64 bt, .slice p3 bc.length q3, .slice p4 bb'.length q4] 53) := ⟨_, rfl⟩
  have hbw : Below w.heap.size w W := by rw [hW]; exact ((Below.refl _ w).alloc (Nat.le_refl _) _).alloc (by simp) _
  have HB := Lib.hid hbw
  have up : ∀ {L : List UInt8} {v : Value}, RepB w F L v → RepB W F L v := fun h => h.same (fun _ h => h) fun k hk => hbw.block k (hF k hk)
  have s1 := run_string (P := Tryz.prog) (up h1) 34 5 9 Tryz.underlying34 Tryz.underlying5 Tryz.underlying9
  have s2 := run_string (P := Tryz.prog) (up h2) 34 5 9 Tryz.underlying34 Tryz.underlying5 Tryz.underlying9
  have s3 := run_string (P := Tryz.prog) (up h3) 34 5 9 Tryz.underlying34 Tryz.underlying5 Tryz.underlying9
  have s4 := run_string (P := Tryz.prog) (up h4) 34 5 9 Tryz.underlying34 Tryz.underlying5 Tryz.underlying9
  have HEC : Hid (((strOf ac).toList == (strOf bc).toList) = (ac == bc) ∧ ((strOf ab).toList == (strOf bb').toList) = (ab == bb')) := Lib.hid ⟨str_beq _ _, str_beq _ _⟩
  obtain ⟨S1, hS1⟩ : ∃ S, S = strOf ac := ⟨_, rfl⟩
  obtain ⟨S2, hS2⟩ : ∃ S, S = strOf ab := ⟨_, rfl⟩
  obtain ⟨S3, hS3⟩ : ∃ S, S = strOf bc := ⟨_, rfl⟩
  obtain ⟨S4, hS4⟩ : ∃ S, S = strOf bb' := ⟨_, rfl⟩
  rw [← hS1] at s1 HEC
  rw [← hS2] at s2 HEC
  rw [← hS3] at s3 HEC
  rw [← hS4] at s4 HEC
  obtain ⟨n1, hn1⟩ : ∃ n, n = ac.length := ⟨_, rfl⟩
  obtain ⟨n2, hn2⟩ : ∃ n, n = ab.length := ⟨_, rfl⟩
  obtain ⟨n3, hn3⟩ : ∃ n, n = bc.length := ⟨_, rfl⟩
  obtain ⟨n4, hn4⟩ : ∃ n, n = bb'.length := ⟨_, rfl⟩
  rw [← hn1, ← hn2, ← hn3, ← hn4] at hW ⊢
  rw [← hn1] at s1
  rw [← hn2] at s2
  rw [← hn3] at s3
  rw [← hn4] at s4
  rw [hW] at s1 s2 s3 s4
  have HW := Lib.hid hW
  clear up h1 h2 h3 h4 hF hbw hW hS1 hS2 hS3 hS4 hn1 hn2 hn3 hn4 hR
  by_cases e1 : ai = bi ∧ at' = bt
  · obtain ⟨rfl, rfl⟩ := e1
    cases e2 : (ac == bc) with
    | false =>
      have t1 : (S1.toList == S3.toList) = false := HEC.out.1.trans e2
      have HF : Hid (R = false) := Lib.hid (by rw [HR.out]; apply decide_eq_false; rintro ⟨-, -, h, -⟩; rw [h] at e2; simp at e2)
      clear e2
      go_enter Tryz.func25, Tryz.ntmps25
      go_wp2_with fail
      go_ret
      exact ⟨by rw [HF.out]; rfl, by rw [← HW.out]; exact HB.out⟩
    | true =>
      have t1 : (S1.toList == S3.toList) = true := HEC.out.1.trans e2
      cases e3 : (ab == bb') with
      | false =>
        have t2 : (S2.toList == S4.toList) = false := HEC.out.2.trans e3
        have HF : Hid (R = false) := Lib.hid (by rw [HR.out]; apply decide_eq_false; rintro ⟨-, -, -, h⟩; rw [h] at e3; simp at e3)
        clear e2 e3
        go_enter Tryz.func25, Tryz.ntmps25
        go_wp2_with fail
        go_ret
        exact ⟨by rw [HF.out]; rfl, by rw [← HW.out]; exact HB.out⟩
      | true =>
        have t2 : (S2.toList == S4.toList) = true := HEC.out.2.trans e3
        have HF : Hid (R = true) := Lib.hid (by rw [HR.out]; exact decide_eq_true ⟨rfl, rfl, by simpa using e2, by simpa using e3⟩)
        clear e2 e3
        go_enter Tryz.func25, Tryz.ntmps25
        go_wp2_with fail
        go_ret
        exact ⟨by rw [HF.out]; rfl, by rw [← HW.out]; exact HB.out⟩
  · have HF : Hid (R = false) := Lib.hid (by rw [HR.out]; apply decide_eq_false; rintro ⟨h, h2, -⟩; exact e1 ⟨h, h2⟩)
    rcases (show ai ≠ bi ∨ (ai = bi ∧ at' ≠ bt) by by_cases h : ai = bi; exact .inr ⟨h, fun h2 => e1 ⟨h, h2⟩⟩; exact .inl h) with h | ⟨rfl, h⟩
    · have q0 : (ai == bi) = false := beq_eq_false_iff_ne.2 h
      clear e1 h
      go_enter Tryz.func25, Tryz.ntmps25
      go_wp2_with fail
      go_ret
      exact ⟨by rw [HF.out]; rfl, by rw [← HW.out]; exact HB.out⟩
    · have q0 : (at' == bt) = false := beq_eq_false_iff_ne.2 h
      clear e1 h
      go_enter Tryz.func25, Tryz.ntmps25
      go_wp2_with fail
      go_ret
      exact ⟨by rw [HF.out]; rfl, by rw [← HW.out]; exact HB.out⟩
end Go.Proofs.YtbcpcopapbgcdaaGreatDoor.M
