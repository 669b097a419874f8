/- Package chunk: parts, and what runs over them. Package chunk: does a byte clash? -/
import Derived.Test.YtdngfbljcmbniaaDoorCN7
import Derived.Test.YtdngfbljcmbniaaDoorCN8
import Derived.RangeFuncNested
import Derived.RangeFuncBound
import Derived.RangeFuncCalls
import Derived.RangeFuncLeaves
import Derived.RangeFuncBox
import Derived.Shelf.Abstract
import Derived.Shelf.RegionOpen
import Derived.WalkKit
import Derived.OwnWalkIn
import Derived.TacticsInMore
import Derived.LoopNIn
import Derived.LoopIn
import Derived.BigRegion
import Derived.Stop.RegionWithIn
/- Part: ChB. -/
namespace Go.Proofs.YtdngfbljcmbniaaDoor.M
open Go.RowKit Go.Shelf Go.Maps

attribute [local go_sem] Oper.semAt_some

/-- A slice cut. -/
def cutV (a : Option Addr) (cap i j : Nat) : Value := .slice (a.map fun x => ⟨x.block, x.off + i, none⟩) (j - i) (cap - i)

/-- What the iterator reads. -/
def PartsAt (z pos : Nat) (a : Option Addr) (n cap : Nat) (W : World) : Prop := W.cell? ⟨z, 0, none⟩ = some (.int .i64 (pos : Int)) ∧ W.cell? ⟨z + 1, 0, none⟩ = some (.slice a n cap)

def partEnc (pos : Nat) (a : Option Addr) (n cap k : Nat) : Array Value := #[.int .i64 ((pos : Int) + (dn pos n k : Int)), cutV a cap (dn pos n k) (dn pos n (k + 1))]

set_option maxRecDepth 100000 in
set_option maxHeartbeats 2000000 in
theorem parts_in (F : Fence) (m : Nat) (h8 : F.fn 41) (hro : F.round = none) (hm : 1 ≤ m) (l z pos : Nat) (a : Option Addr) (n cap : Nat) (ha : 0 < n → ∃ g off, a = some ⟨g, off, none⟩) (hp : pos ≤ 1000000) (hn : n ≤ 1000000) (hc : n ≤ cap ∧ cap ≤ 9223372036854775807) (J Jx : Nat → World → Prop)
    (hJ : ∀ k W, k ≤ dns pos n → J k W → PartsAt z pos a n cap W)
    (hY : ∀ k W, k < dns pos n → J k W → YieldAt F (m - 1) Tryd.prog l (partEnc pos a n cap k) W fun e W' => (e = .returned (.bool true) ∧ J (k + 1) W') ∨ (e = .returned (.bool false) ∧ Jx k W'))
    (W : World) (h0 : J 0 W) :
    CallsIn F m Tryd.prog 41 #[.func (.yield l) #[] #[], .pointer (some ⟨z + 1, 0, none⟩), .pointer (some ⟨z, 0, none⟩)] W fun e W' => (∃ v, e = .returned v) ∧ (J (dns pos n) W' ∨ ∃ k, Jx k W') := by
  have HJ := Lib.hid hJ
  have HA := Lib.hid ha
  clear hJ ha
  refine callsIn_of_wp Tryd.func41 rfl h8 ?_ hro
  simp only [Tryd.ntmps41, List.size_toArray, List.length_cons, List.length_nil, Nat.reduceAdd, Nat.reduceSub, Array.replicate_succ, Array.replicate_zero, List.push_toArray, List.append_toArray, List.nil_append, List.cons_append]
  gi_wp2
  gi_loopw [4] (fun i wr => ∃ k : Nat, k ≤ dns pos n ∧ i = .int .i64 (dn pos n k : Int) ∧ J k wr)
    (fun i _ => n - (intOf i).toNat)
  case atStart => exact ⟨0, Nat.zero_le _, by rw [dn_zero]; rfl, h0⟩
  case round =>
    obtain ⟨k, hk, rfl, hJs⟩ := hrel
    obtain ⟨c0, c1⟩ := HJ.out k wr hk hJs
    by_cases hlt : k < dns pos n
    · have hd := dn_lt hlt
      obtain ⟨hd1, -⟩ := dn_part hlt
      have hd2 := dn_le pos n (k + 1)
      have hs := dn_succ hlt
      obtain ⟨g2, off, rfl⟩ := HA.out (by omega)
      obtain ⟨fn, tmps, assign, body, hy, hR⟩ := hY k wr hlt hJs
      unfold partEnc cutV at hy
      obtain ⟨d, hde⟩ : ∃ d, d = dn pos n k := ⟨_, rfl⟩
      obtain ⟨e, hee⟩ : ∃ e, e = dn pos n (k + 1) := ⟨_, rfl⟩
      rw [← hde, ← hee] at hy
      rw [← hde] at hd hd1 hs ⊢
      rw [← hee] at hd1 hd2 hs
      obtain ⟨r, hr⟩ : ∃ r, r = (pos + d) % 64 := ⟨_, rfl⟩
      rw [← hr] at hs
      have hrl : r < 64 := by omega
      have e1 : ((pos : Int) + (d : Int)) % 64 = (r : Int) := by omega
      simp only [Option.map_some] at hy
      have q1 : decide ((d : Int) < (n : Int)) = true := decide_eq_true (by omega)
      have q2 : (d : Int) ≤ (e : Int) ∧ (e : Int) ≤ (cap : Int) := by omega
      have q3 : ¬ cap = d := by omega
      have HE := Lib.hid hee
      have HD := Lib.hid hde
      by_cases hmin : d + 64 - r ≤ n
      · have e2 : (d : Int) + 64 - (r : Int) = (e : Int) := by omega
        have e3 : (e : Int) ≤ (n : Int) := by omega
        clear hs hr hee hde hmin
        gi_wp2
        refine hR.mono ?_
        rintro _ W3 (⟨rfl, hJ3⟩ | ⟨rfl, hJx3⟩)
        · gi_wp2
          go_roundw
          case rel => exact ⟨k + 1, by omega, by rw [HE.out], hJ3⟩
          case measure => simp [intOf] <;> omega
        · gi_wp2
          refine bodyPost_ret (results_none rfl _ _ _) rfl ?_
          exact ⟨⟨_, rfl⟩, .inr ⟨k, hJx3⟩⟩
      · obtain rfl : e = n := by omega
        have e3 : (e : Int) < (d : Int) + 64 - (r : Int) := by omega
        clear hs hr hee hde hmin
        gi_wp2
        refine hR.mono ?_
        rintro _ W3 (⟨rfl, hJ3⟩ | ⟨rfl, hJx3⟩)
        · gi_wp2
          go_roundw
          case rel => exact ⟨k + 1, by omega, by rw [← HE.out], hJ3⟩
          case measure => simp [intOf] <;> omega
        · gi_wp2
          refine bodyPost_ret (results_none rfl _ _ _) rfl ?_
          exact ⟨⟨_, rfl⟩, .inr ⟨k, hJx3⟩⟩
    · obtain rfl : k = dns pos n := by omega
      rw [dn_end]
      have q1 : decide ((n : Int) < (n : Int)) = false := decide_eq_false (by omega)
      gi_wp2
      go_end0
      exact ⟨⟨_, rfl⟩, .inl hJs⟩

/-- parts: the bytes and their place are boxed, the function has the boxes. -/
theorem parts_any (pos : Int) (a : Option Addr) (n cap : Nat) (w : World) :
    Calls Tryd.prog 36 #[.int .i64 pos, .slice a n cap] w fun e w' => e = .returned (.func (.func 41) #[] #[.pointer (some ⟨w.heap.size + 1, 0, none⟩), .pointer (some ⟨w.heap.size, 0, none⟩)]) ∧ w' = (w.alloc (.cells #[.int .i64 pos] 3)).alloc (.cells #[.slice a n cap] 24) := by
  have hmf : ∀ (fn : Fn) (first cap : Array Value) (w : World), (Instr.makeFunc fn first cap).run Tryd.prog w = .ok (.func fn first cap) w := fun _ _ _ _ => rfl
  go_enter Tryd.func36, Tryd.ntmps36
  go_wp2_with fail
  go_ret
  exact ⟨rfl, rfl⟩
end Go.Proofs.YtdngfbljcmbniaaDoor.M

/- Part: ChC. -/
namespace Go.Proofs.YtdngfbljcmbniaaDoor.M
open Go.RowKit Go.Shelf Go.Maps

attribute [local go_sem] Oper.semAt_some

theorem keeps_below7 {B : Nat} {W W' : World} (h : Below W.heap.size W W') : KeepsFrom B W W' := KeepsFrom.of_grownBy (grown_of_below h) fun j e => by cases e

theorem keeps_only7 {B : Nat} {W W' : World} {Z : Nat → Prop} (h : Only Z W W') (hZ : ∀ k, Z k → k < B) : KeepsFrom B W W' :=
  ⟨h.size, fun k o hk ho _ => (h.block k (lt_of_heap ho) fun hz => by have := hZ k hz; omega).trans ho⟩

theorem ownFrom_below7 {β : Type} {B : Nat} {w : World} (hB : B = w.heap.size) : OwnFrom B (fun (_ : β) W => Below w.heap.size w W) := fun _ W W' row hs hg hr =>
  ⟨hg.os.trans hs.os, hg.tape.trans hs.tape, hg.output.trans hs.output, Nat.le_trans hs.size hg.size, fun k hk => (hg.block k (Nat.lt_of_lt_of_le hk hs.size) fun e => by have := (hr k e.symm).1; omega).trans (hs.block k hk)⟩

/-- A cell behind the function's own book-keeping. -/
theorem cell_put7 {W : World} {D : Nat} {a : Addr} {v : Value} (h : W.cell? a = some v) (hK : W.heap[D]? = some (.deferred (some []))) : (W.putObj D (.deferred none)).cell? a = some v :=
  cell_kept h (grownBy_putObj' _ D (.deferred none)) fun r e => (by cases e; exact ⟨_, hK, rfl⟩)

theorem RepB.cut {w : World} {F : Nat → Prop} {b : List UInt8} {a : Option Addr} {cap i j : Nat} (h : RepB w F b (.slice a b.length cap)) (hi : i < j) (hj : j ≤ b.length) : RepB w F ((b.take j).drop i) (cutV a cap i j) := by
  rcases h with ⟨h, _⟩ | ⟨g, off, c', h, hF, h1, h2, hc⟩
  · rw [h] at hj; simp at hj; omega
  · cases h
    refine .inr ⟨g, off + i, cap - i, ?_, hF, ?_, by omega, fun t ht => ?_⟩
    · unfold cutV
      simp only [Option.map_some, List.length_drop, List.length_take, Nat.min_eq_left hj]
    · simp; omega
    · simp only [List.length_drop, List.length_take] at ht
      have := hc (i + t) (by omega)
      rw [← Nat.add_assoc] at this
      rw [this]
      simp


theorem cuts_free {f : Nat → Option UInt8} {pos : Nat} {b : List UInt8} (h : ∀ k, k < dns pos b.length → clashAt f (pos + dn pos b.length k) (partOf pos b k) = false) : clashAt f pos b = false := by
  rw [Bool.eq_false_iff]
  intro hc
  obtain ⟨k, hk, h1⟩ := clash_parts.1 hc
  rw [h k hk] at h1
  cases h1

theorem only_row7 {w w' : World} {row : Option Nat} (h : w.grownBy w' row) : Only (fun k => row = some k) w w' := ⟨h.os, h.tape, h.output, h.size, fun k hk hn => h.block k hk fun e => hn e.symm⟩

theorem ptr_ne (b : Nat) : (Value.pointer (some ⟨b, 0, none⟩)) ≠ Value.pointer none := fun h => by cases h

set_option maxRecDepth 100000 in
set_option maxHeartbeats 4000000 in
theorem HeldClashes_any (w : World) (X : Nat → Prop) (g o gm nb : Nat) (M : DataW Nat) (S : Nat → Bool) (E T : Nat → Nat) (bs : Nat → List UInt8) (f : Nat → Option UInt8) (h : HeldAt w X gm nb M S E T bs f) (hh : w.cell? ⟨g, o, none⟩ = some (.map (some gm)))
    (pos : Nat) (b : List UInt8) (F : Nat → Prop) (v : Value) (hv : RepB w F b v) (hF : ∀ k, F k → k < w.heap.size) (hp : pos ≤ 1000000) (hn : b.length ≤ 1000000) :
    Calls Tryd.prog 32 #[.pointer (some ⟨g, o, none⟩), .int .i64 (pos : Int), v] w fun e w' => e = .returned (.bool (clashAt f pos b)) ∧ Below w.heap.size w w' := by
  obtain ⟨a, cap, rfl, -⟩ := hv.slice
  have hcap : b.length ≤ cap ∧ cap ≤ 9223372036854775807 := by
    rcases hv with ⟨h, a', c', he, hc, -⟩ | ⟨_, _, c', he, -, h1, h2, -⟩
    · rw [h] at he ⊢; cases he; exact ⟨by simp, hc⟩
    · cases he; exact ⟨h1, h2⟩
  have haa : 0 < b.length → ∃ g off, a = some ⟨g, off, none⟩ := fun h0 => by
    rcases hv with ⟨h, -⟩ | ⟨g2, off, c', he, -⟩
    · rw [h] at h0; simp at h0
    · cases he; exact ⟨g2, off, rfl⟩
  obtain ⟨W2, hW2⟩ : ∃ W2, W2 = (w.alloc (.cells #[.pointer (some ⟨g, o, none⟩)] 79)).alloc (.cells #[.bool false] 4) := ⟨_, rfl⟩
  obtain ⟨n, hnn⟩ : ∃ n, n = b.length := ⟨_, rfl⟩
  obtain ⟨W4, hW4⟩ : ∃ W4, W4 = (W2.alloc (.cells #[.int .i64 (pos : Int)] 3)).alloc (.cells #[.slice a n cap] 24) := ⟨_, rfl⟩
  have hz2 : W2.heap.size = w.heap.size + 2 := by rw [hW2]; simp
  have hz4 : W4.heap.size = w.heap.size + 4 := by rw [hW4]; simp [hz2]
  have hb2 : Below w.heap.size w W2 := by rw [hW2]; exact ((Below.refl _ w).alloc (Nat.le_refl _) _).alloc (by simp) _
  have hb24 : Below W2.heap.size W2 W4 := by rw [hW4]; exact ((Below.refl _ W2).alloc (Nat.le_refl _) _).alloc (by simp) _
  have hb4 : Below w.heap.size w W4 := hb2.trans (hb24.mono hb2.size)
  have hx0 : W4.heap[w.heap.size]? = some (.cells #[.pointer (some ⟨g, o, none⟩)] 79) := old_below (by rw [hW2]; exact old_alloc (heap_new _ _ _ rfl)) hb24
  have hx1 : W4.heap[w.heap.size + 1]? = some (.cells #[.bool false] 4) := old_below (by rw [hW2]; exact heap_new _ _ _ (by simp)) hb24
  have hx2 : W4.heap[w.heap.size + 2]? = some (.cells #[.int .i64 (pos : Int)] 3) := by rw [hW4]; exact old_alloc (heap_new _ _ _ hz2.symm)
  have hx3 : W4.heap[w.heap.size + 3]? = some (.cells #[.slice a n cap] 24) := by rw [hW4]; exact heap_new _ _ _ (by simp [hz2])
  have h4 := h.next hb4
  have hh4 : W4.cell? ⟨g, o, none⟩ = some (.map (some gm)) := (hb4.cell (p := ⟨g, o, none⟩) (lt_of_cell hh).1).trans hh
  have hv4 : RepB W4 (fun k => k < w.heap.size) b (.slice a b.length cap) := hv.same hF fun k hk => hb4.block k (hF k hk)
  have HN := Lib.hid hnn
  have HW2 := Lib.hid hW2
  have HW4 := Lib.hid hW4
  have HX0 := Lib.hid hx0
  have HX1 := Lib.hid hx1
  have HX2 := Lib.hid hx2
  have HX3 := Lib.hid hx3
  have H4 := Lib.hid h4
  have HH4 := Lib.hid hh4
  have HV4 := Lib.hid hv4
  have HZ := Lib.hid hz4
  have HZ2 := Lib.hid hz2
  have HB4 := Lib.hid hb4
  have HAA := Lib.hid haa
  have HCAP := Lib.hid hcap
  have HBN := Lib.hid hn
  rw [← hnn]
  clear hW2 hW4 hz2 hz4 hb2 hb24 hb4 hx0 hx1 hx2 hx3 h4 hh4 hv4 haa hcap h hh hv hF hn hnn
  refine (callsIn_wide (n := 3)).1 ?_
  refine callsIn_of_wp_marks Tryd.func32 rfl trivial ?_ rfl
  simp only [Tryd.ntmps32, List.size_toArray, List.length_cons, List.length_nil, Nat.reduceAdd, Nat.reduceSub, Array.replicate_succ, Array.replicate_zero, List.push_toArray, List.append_toArray, List.nil_append, List.cons_append]
  gi_wp2_with (refine ⟨trivial, ?_⟩; gi_at_call 36; rw [← HW2.out]; refine (callsIn_wide.2 (parts_any _ _ _ _ _)).mono ?_; rintro e w4 ⟨rfl, rfl⟩; rw [← HW4.out, HZ2.out])
  have HIN : Hid (∀ (l : Nat) (J Jx : Nat → World → Prop) (W : World), (∀ k W, k ≤ dns pos n → J k W → PartsAt (w.heap.size + 2) pos a n cap W) →
      (∀ k W1, k < dns pos n → J k W1 → YieldAt Fence.wide (3 - 1 - 1) Tryd.prog l (partEnc pos a n cap k) W1 fun e W' => (e = .returned (.bool true) ∧ J (k + 1) W') ∨ (e = .returned (.bool false) ∧ Jx k W')) → J 0 W →
      CallsIn Fence.wide (3 - 1) Tryd.prog 41 (#[.func (.yield l) #[] #[]] ++ #[.pointer (some ⟨w.heap.size + 2 + 1, 0, none⟩), .pointer (some ⟨w.heap.size + 2, 0, none⟩)]) W fun e W' => (∃ v, e = .returned v) ∧ (J (dns pos n) W' ∨ ∃ k, Jx k W')) :=
    Lib.hid fun l J Jx W hJ hY h0 => parts_in Fence.wide 2 trivial rfl (by omega) l (w.heap.size + 2) pos a n cap (fun h => HAA.out (by rw [← HN.out]; exact h)) hp (by rw [HN.out]; exact HBN.out) (by rw [HN.out]; exact HCAP.out) J Jx hJ hY W h0
  have hf4 := HX1.out
  refine wpIn_rangeFunc_by (F := Fence.wide) (n := 3) rfl (by omega) (gf := 41) (lb := #[.pointer (some ⟨w.heap.size + 2 + 1, 0, none⟩), .pointer (some ⟨w.heap.size + 2, 0, none⟩)]) rfl trivial (enters_of Tryd.func41 (by kernel_rfl) rfl)
    (dns pos n) (partEnc pos a n cap) (fun _ => rfl) (fun _ W => PartsAt (w.heap.size + 2) pos a n cap W) HIN.out
    (fun k W => Below W4.heap.size W4 W ∧ ∀ j, j < k → clashAt f (pos + dn pos n j) (partOf pos b j) = false)
    (fun c _ W => c = .ret ∧ clashAt f pos b = true ∧ W.cell? ⟨w.heap.size + 1, 0, none⟩ = some (.bool true) ∧ W4.heap.size ≤ W.heap.size ∧ Below w.heap.size w W)
    (fun s W W' row hs hg hr => ⟨ownFrom_below7 rfl s W W' row hs.1 hg hr, hs.2⟩)
    (fun c s W W' row hs hg hr => ⟨hs.1, hs.2.1, cell_kept hs.2.2.1 hg fun r e => (hr r e).2, Nat.le_trans hs.2.2.2.1 hg.size, ownFrom_below7 rfl s W W' row hs.2.2.2.2 hg fun r e => ⟨by have := (hr r e).1; have := HZ.out; omega, (hr r e).2⟩⟩)
    (fun k W _ hs => ⟨cell_of_row _ _ 0 _ _ _ (old_below HX2.out hs.1), cell_of_row _ _ 0 _ _ _ (old_below HX3.out hs.1)⟩)
    ⟨Below.refl _ _, fun j hj => absurd hj (Nat.not_lt_zero j)⟩
    (fun k a' _ => a' = { tmps := #[.pointer (some ⟨g, o, none⟩), .int .i64 (pos : Int), .slice a n cap, .pointer (some ⟨w.heap.size, 0, none⟩), undef, undef, .pointer (some ⟨w.heap.size + 1, 0, none⟩), .int .i64 ((pos : Int) + (dn pos n k : Int)), cutV a cap (dn pos n k) (dn pos n (k + 1)), undef, .int .i64 (pos : Int), .slice a n cap, .func (.func 41) #[] #[.pointer (some ⟨w.heap.size + 2 + 1, 0, none⟩), .pointer (some ⟨w.heap.size + 2, 0, none⟩)], .int .i64 ((pos : Int) + (dn pos n k : Int)), cutV a cap (dn pos n k) (dn pos n (k + 1)), undef, undef, undef, undef, undef, undef, undef, undef, undef, undef, undef, undef, undef, undef, undef, undef], defers := [] })
    (fun _ _ _ _ _ hs _ _ => hs) ?assign ?body ?done ?stop
  case assign =>
    intro l k W K hI hk hK
    unfold partEnc
    gi_wp2
    exact hK _ _ (KeepsFrom.refl _ _) hI rfl
  case body =>
    rintro l k a' W ⟨hB, hno⟩ rfl hk
    have hat := H4.out.next hB
    have hhW : W.cell? ⟨g, o, none⟩ = some (.map (some gm)) := (hB.cell (p := ⟨g, o, none⟩) (lt_of_cell HH4.out).1).trans HH4.out
    have c0 := cell_of_row _ _ 0 _ _ _ (old_below HX0.out hB)
    have y1 := old_below HX1.out hB
    have c1 := cell_of_row _ _ 0 _ _ _ y1
    have f1 := frozen_of_row _ _ 0 _ _ y1
    have z1 := lt_of_heap y1
    obtain ⟨q, hq⟩ : ∃ q, q = pos / 64 + k := ⟨_, rfl⟩
    obtain ⟨d, hd⟩ : ∃ d, d = dn pos n k := ⟨_, rfl⟩
    obtain ⟨r, hr⟩ : ∃ r, r = (pos + d) % 64 := ⟨_, rfl⟩
    have hda := dn_at hk
    have hdl := dn_lt hk
    obtain ⟨hd1, hd2⟩ := dn_part hk
    have hd3 := dn_le pos n (k + 1)
    rw [← hd, ← hq] at hda
    rw [← hd] at hdl hd1 hd2
    rw [← hr] at hd2
    have hnb : n ≤ 1000000 := by rw [HN.out]; exact HBN.out
    have hdb : d ≤ 1000000 := by omega
    have e1 : ((pos : Int) + (d : Int)) / 64 = (q : Int) := by omega
    have e2 : ((pos : Int) + (d : Int)) % 64 = (r : Int) := by omega
    have hpl : (partOf pos b k).length = dn pos n (k + 1) - d := by rw [partOf_length, ← HN.out, ← hd]
    have hrl : r + (partOf pos b k).length ≤ 64 := by rw [hpl]; exact hd2
    have hqr : 64 * q + r = pos + d := by omega
    have hpv : RepB W (fun k => k < w.heap.size) (partOf pos b k) (cutV a cap (dn pos n k) (dn pos n (k + 1))) := by
      have h1 := HV4.out.same (fun _ h => h) (fun k hk => hB.block k (by have := HZ.out; omega)) (w' := W)
      have h2 := h1.cut (i := dn pos n k) (j := dn pos n (k + 1)) (by rw [← hd]; exact hd1) (by rw [← HN.out]; exact hd3)
      unfold partOf
      rw [← HN.out]
      exact h2
    have HCF : Hid (∀ j, j < k + 1 → j ≠ k → clashAt f (pos + dn pos n j) (partOf pos b j) = false) := Lib.hid fun j hj hne => hno j (by omega)
    obtain ⟨pv, hpe⟩ : ∃ pv, pv = cutV a cap (dn pos n k) (dn pos n (k + 1)) := ⟨_, rfl⟩
    rw [← hpe] at hpv
    rw [← hd] at hpe
    rw [← hd, ← hpe]
    have HPV := Lib.hid hpv
    have HLK := hat.look (q := q) (by omega) (w' := W) rfl
    have HB := Lib.hid hB
    have HAT := Lib.hid hat
    have HPL := Lib.hid hrl
    have HQR := Lib.hid hqr
    have HD := Lib.hid hd
    have hz1 : w.heap.size + 1 < W.heap.size := z1
    have hz0 : w.heap.size < W.heap.size := by omega
    unfold ptrAt at HLK
    have HKD := Lib.hid hk
    clear hno hat hq hr hd hda hdl hd1 hd2 hd3 hpl hrl hqr hpv hpe hB y1 z1
    cases hS : S q with
    | false =>
      rw [hS] at HLK
      simp only [Bool.false_eq_true, if_false] at HLK
      have HCK : Hid (clashAt f (pos + dn pos n k) (partOf pos b k) = false) := Lib.hid (by
        rw [Bool.eq_false_iff]
        intro hc
        obtain ⟨i, hi, h1, -⟩ := clashAt_iff.1 hc
        have := HAT.out.none q hS (r + i) (by have := HPL.out; omega)
        rw [← HD.out, show pos + d + i = 64 * q + (r + i) by have := HQR.out; omega, this] at h1
        cases h1)
      clear hS
      gi_wp2
      refine ⟨trivial, ?_⟩
      gi_wp2
      refine ⟨KeepsFrom.refl _ _, HB.out, fun j hj => ?_⟩
      by_cases e : j = k
      · rw [e]; exact HCK.out
      · exact HCF.out j hj e
    | true =>
      rw [hS] at HLK
      simp only [if_true] at HLK
      have HCC := Lib.hid (BlkClashes_any (E q) (T q) r (bs q) (partOf pos b k) _ pv W (HAT.out.each q hS).1 (HAT.out.each q hS).2.1 (HAT.out.each q hS).2.2.1 HPL.out HPV.out)
      have HCL := Lib.hid ((HAT.out.each q hS).2.clash HPL.out)
      rw [HQR.out, HD.out] at HCL
      rw [HCL.out] at HCC
      clear hS
      cases hcl : clashAt f (pos + dn pos n k) (partOf pos b k) with
      | false =>
        rw [hcl] at HCC
        have HCK := Lib.hid hcl
        clear hcl
        gi_wp2_with (refine ⟨trivial, ?_⟩; gi_at_call 37; refine (CallsIn.inRound l (callsIn_wide.2 HCC.out)).mono ?_; rintro e w' ⟨rfl, rfl⟩)
        refine ⟨KeepsFrom.refl _ _, HB.out, fun j hj => ?_⟩
        by_cases e : j = k
        · rw [e]; exact HCK.out
        · exact HCF.out j hj e
      | true =>
        rw [hcl] at HCC
        have HCK : Hid (clashAt f pos b = true) := Lib.hid (clash_parts.2 ⟨k, by rw [← HN.out]; exact HKD.out, by rw [← HN.out]; exact hcl⟩)
        clear hcl
        gi_wp2_with (refine ⟨trivial, ?_⟩; gi_at_call 37; refine (CallsIn.inRound l (callsIn_wide.2 HCC.out)).mono ?_; rintro e w' ⟨rfl, rfl⟩)
        have ho : Only (fun k => k = w.heap.size + 1) W (W.setCell ⟨w.heap.size + 1, 0, none⟩ (.bool true)) := (Only.refl (fun k => k = w.heap.size + 1) W).set (.inl rfl) _
        refine ⟨keeps_only7 ho fun k hk => by have := HZ.out; omega, rfl, HCK.out, ?_, ?_, below_only (HB4.out.trans (HB.out.mono HB4.out.size)) ho fun k hk => by omega⟩
        · simp [go_sem, c1, hz1]
        · have := HB.out.size; simpa using this
  case done =>
    rintro D W hD ⟨hB, hno⟩ hK
    have HFR : Hid (clashAt f pos b = false) := Lib.hid (cuts_free (by rw [← HN.out]; exact hno))
    have y1 := old_below HX1.out hB
    have c1 := cell_of_row _ _ 0 _ _ _ y1
    have f1 := frozen_of_row _ _ 0 _ _ y1
    have hz1 : w.heap.size + 1 < W.heap.size := lt_of_heap y1
    have HB := Lib.hid hB
    have HK := Lib.hid hK
    clear hno hB y1 hK
    gi_wp2
    obtain ⟨Wf, hWf⟩ : ∃ Wf, Wf = W.setCell ⟨w.heap.size + 1, 0, none⟩ (.bool false) := ⟨_, rfl⟩
    rw [← hWf]
    have ho : Only (fun k => k = w.heap.size + 1) W Wf := by rw [hWf]; exact (Only.refl (fun k => k = w.heap.size + 1) W).set (.inl rfl) _
    have hK' : Wf.heap[D]? = some (.deferred (some [])) := (ho.block D (lt_of_heap HK.out) (by have := HZ.out; omega)).trans HK.out
    have k0 := cell_put7 (a := ⟨w.heap.size + 1, 0, none⟩) (v := .bool false) (by rw [hWf]; simp [go_sem, c1, hz1]) hK'
    have hfin : Only (fun q => q = w.heap.size + 1 ∨ q = D) W (Wf.putObj D (.deferred none)) := (ho.mono fun q hq => .inl hq).thn (fun q hq => .inl hq) ((only_row7 (grownBy_putObj' Wf D (.deferred none))).mono fun q hq => .inr (Option.some.inj hq).symm)
    refine ⟨by simp, .inl ⟨_, _, rfl, run_takeDeferred hK', ?_⟩⟩
    refine ⟨.bool false, by simp [results, Tryd.f32, go_sem, k0], by rw [HFR.out], below_only (HB4.out.trans (HB.out.mono HB4.out.size)) hfin fun k hk => by have := HZ.out; omega⟩
  case stop =>
    rintro D c k W hD ⟨rfl, hcl, hc1, hz, hB⟩ hK
    have HFR := Lib.hid hcl
    have HB := Lib.hid hB
    have HK := Lib.hid hK
    clear hcl hB hK
    gi_wp2
    have k0 := cell_put7 hc1 HK.out
    refine ⟨by simp, .inl ⟨_, _, rfl, run_takeDeferred HK.out, ?_⟩⟩
    refine ⟨.bool true, by simp [results, Tryd.f32, go_sem, k0], by rw [HFR.out], below_only HB.out (only_row7 (grownBy_putObj' W D (.deferred none))) fun k hk => by have := HZ.out; have := Option.some.inj hk; omega⟩
end Go.Proofs.YtdngfbljcmbniaaDoor.M
