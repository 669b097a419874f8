/- The document's Take of a number, and of a row of three. The document's Take of bytes. The document's Take of a snapshot's row. -/
import Derived.Test.YtbcpcopapbgcdaaGreatDoorSW39
import Derived.Test.YtbcpcopapbgcdaaGreatDoorSW43
import Derived.LoopN
import Derived.Test.YtbcpcopapbgcdaaGreatDoorSW7
import Derived.Test.YtbcpcopapbgcdaaGreatDoorSW25
import Derived.Test.YtbcpcopapbgcdaaGreatDoorSW27
import Derived.OrdersHeld
import Derived.Deep.RegionHeld
/- Part: Hard4. -/
namespace Go.Proofs.YtbcpcopapbgcdaaGreatDoor.M
open Go.RowKit

def nilS : Value := .slice none 0 0

/-- What Take of a number answers. -/
def takeN (L : List UInt8) (k : Nat) : Value :=
  match takeNum (L.drop k) with
  | .error c => .tuple #[.agg #[.int .u64 0, .slice none 0 0, .slice none 0 0], .int .i64 (k : Int), .int .i64 c]
  | .ok (n, r) => .tuple #[.agg #[.int .u64 (n : Int), .slice none 0 0, .slice none 0 0], .int .i64 ((L.length - r.length : Nat) : Int), .int .i64 0]

theorem takeNum_fair {b : List UInt8} {e : Int} (h : takeNum b = .error e) : (e != 0) = true := by
  cases b with
  | nil => rw [takeNum] at h; cases h; rfl
  | cons c r =>
    rw [takeNum] at h
    split at h
    · cases h; rfl
    · split at h
      · cases h; rfl
      · split at h
        · cases h; rfl
        · cases h

set_option maxRecDepth 20000 in
set_option maxHeartbeats 1600000 in
theorem TakeN_any (L : List UInt8) (F : Nat → Prop) (v : Value) (k : Nat) (w : World) (hv : RepB w F L v) (hF : ∀ b, F b → b < w.heap.size) (hL : L.length ≤ 1099511627776) (hk : k ≤ L.length) :
    Calls Tryz.prog 76 #[.string ⟨#[110]⟩, v, .int .i64 (k : Int)] w fun e w' => e = .returned (takeN L k) ∧ Below w.heap.size w w' := by
  obtain ⟨W, hW⟩ : ∃ W, W = (w.alloc (.cells #[.int .u64 0, .slice none 0 0, .slice none 0 0] 132)).alloc (.cells #[.int .u64 0, .slice none 0 0, .slice none 0 0] 132) := ⟨_, rfl⟩
  have HB : Hid (Below w.heap.size w W) := Lib.hid (by rw [hW]; exact ((Below.refl _ w).alloc (Nat.le_refl _) _).alloc (by simp) _)
  have hx0 : W.heap[w.heap.size]? = some (.cells #[.int .u64 0, .slice none 0 0, .slice none 0 0] 132) := by rw [hW]; exact old_alloc (heap_new _ _ _ rfl)
  have hx1 : W.heap[w.heap.size + 1]? = some (.cells #[.int .u64 0, .slice none 0 0, .slice none 0 0] 132) := by rw [hW]; exact heap_new _ _ _ (by simp)
  have HN := Lib.hid (RefNum_any L F v k W (hv.same (fun _ h => h) fun b hb => HB.out.block b (hF b hb)) hL hk)
  have HW := Lib.hid hW
  obtain ⟨c0, c1, c2, f0, f1, f2, cz⟩ := block3 hx0
  obtain ⟨d0, d1, d2, g0, g1, g2, dz⟩ := block3 hx1
  obtain ⟨va, vc, rfl, -⟩ := hv.slice
  clear hW hx0 hx1 hv hF
  go_enter Tryz.func76, Tryz.ntmps76
  go_wp2_with fail
  rw [← HW.out]
  refine HN.out.mono ?_
  rintro e w1 ⟨rfl, rfl⟩
  cases hq : takeNum (L.drop k) with
  | error c =>
    rw [numR_err hq]
    have hc := takeNum_fair hq
    have HT : Hid (takeN L k = .tuple #[.agg #[.int .u64 0, .slice none 0 0, .slice none 0 0], .int .i64 (k : Int), .int .i64 c]) := Lib.hid (by unfold takeN; rw [hq])
    clear hq
    go_wp2_with fail
    refine bodyPost_ret (v := .tuple #[.agg #[.int .u64 0, .slice none 0 0, .slice none 0 0], .int .i64 (k : Int), .int .i64 c]) (by simp [results, Tryz.results76, go_sem, c0, c1, c2, cz]) rfl ?_
    rw [HT.out]
    exact ⟨rfl, ((HB.out.setCell (by simp) _).setCell (by simp) _).setCell (by simp) _⟩
  | ok p =>
    obtain ⟨n, r⟩ := p
    rw [numR_ok hq]
    have HT : Hid (takeN L k = .tuple #[.agg #[.int .u64 (n : Int), .slice none 0 0, .slice none 0 0], .int .i64 ((L.length - r.length : Nat) : Int), .int .i64 0]) := Lib.hid (by unfold takeN; rw [hq])
    obtain ⟨m, hm⟩ : ∃ m, m = L.length - r.length := ⟨_, rfl⟩
    rw [← hm] at HT ⊢
    clear hq hm
    go_wp2_with fail
    refine bodyPost_ret (v := .tuple #[.agg #[.int .u64 (n : Int), .slice none 0 0, .slice none 0 0], .int .i64 (m : Int), .int .i64 0]) (by simp [results, Tryz.results76, go_sem, c0, c1, c2, cz]) rfl ?_
    rw [HT.out]
    exact ⟨rfl, by
      first
        | exact ((((HB.out.setCell (by simp) _).setCell (by simp) _).setCell (by simp) _).setCell (by simp) _)⟩

theorem fits_row : Fits 1 [[110], [110], [110]] [.num, .num, .num] := by
  have one : Exact 1 [110] .num := fun r => rfl
  exact ⟨_, _, rfl, one, _, _, rfl, one, _, _, rfl, one, rfl⟩

theorem takeNum_drop {b r : List UInt8} {n : Nat} (h : takeNum b = .ok (n, r)) : n < 18446744073709551616 ∧ r.length ≤ b.length ∧ b.drop (b.length - r.length) = r := by
  cases b with
  | nil => rw [takeNum] at h; cases h
  | cons c q =>
    rw [takeNum] at h
    split at h
    · cases h
    · rename_i h8
      split at h
      · cases h
      · split at h
        · cases h
        · rename_i hl
          cases h
          have hlt := nf_lt q c.toNat
          have h256 : 256 ^ c.toNat ≤ 256 ^ 8 := Nat.pow_le_pow_right (by omega) (by omega)
          refine ⟨?_, by simp; omega, ?_⟩
          · unfold nf at hlt
            exact Nat.lt_of_lt_of_le hlt h256
          · rw [List.length_drop, List.length_cons, show q.length + 1 - (q.length - c.toNat) = c.toNat + 1 by omega]
            rfl

/-- The state between two numbers. -/
structure TkAt (w w1 : World) (rb j : Nat) (lv : Value) (xs : List Value) (wr : World) : Prop where
  below : Below w.heap.size w wr
  size : w1.heap.size ≤ wr.heap.size
  res : wr.heap[w.heap.size]? = some (.cells #[.int .u64 0, .slice none 0 0, .slice none 0 0] 132)
  val : wr.heap[w.heap.size + 1]? = some (.cells #[.int .u64 0, .slice none 0 0, lv] 132)
  row : wr.heap[rb]? = w1.heap[rb]?
  own : wr.ownsRow w1.heap.size 132 3 lv j xs

theorem TkAt.next {w w1 wr w' : World} {rb j : Nat} {lv : Value} {xs : List Value} (h : TkAt w w1 rb j lv xs wr) (hr : rb < w1.heap.size) (hb : Below wr.heap.size wr w') : TkAt w w1 rb j lv xs w' :=
  ⟨h.below.trans (hb.mono h.below.size), Nat.le_trans h.size hb.size, old_below h.res hb, old_below h.val hb, (hb.block rb (Nat.lt_of_lt_of_le hr h.size)).trans h.row, h.own.kept (grown_of_below hb) (by cases lv.ownBlock <;> simp)⟩

theorem TkAt.push {w w1 wr w' : World} {rb j : Nat} {lv lv' x y z : Value} {xs : List Value} (h : TkAt w w1 rb j lv xs wr) (hr : rb < w1.heap.size) (hrb : w.heap.size + 2 ≤ rb)
    (ha : AppLeft wr w1.heap.size 132 3 lv j 1 xs [x, y, z] lv' w') : TkAt w w1 rb (j + 1) lv' (xs ++ [x, y, z]) (w'.setCell ⟨w.heap.size + 1, 2, none⟩ lv') := by
  obtain ⟨ho, hg, -⟩ := ha
  have old : ∀ k, k < w1.heap.size → w'.heap[k]? = wr.heap[k]? := fun k hk => hg.block k (Nat.lt_of_lt_of_le hk h.size) fun e => by
    have := (h.own.lt k e.symm).1
    omega
  have hv : w'.heap[w.heap.size + 1]? = some (.cells #[.int .u64 0, .slice none 0 0, lv] 132) := (old _ (by omega)).trans h.val
  refine ⟨⟨hg.os.trans h.below.os, hg.tape.trans h.below.tape, hg.output.trans h.below.output, ?_, fun k hk => ?_⟩, ?_, ?_, ?_, ?_, ?_⟩
  · rw [World.size_setCell]; exact Nat.le_trans h.below.size hg.size
  · rw [Below.heap_setCell _ _ _ _ (by simp; omega), old k (by omega)]
    exact h.below.block k hk
  · rw [World.size_setCell]; exact Nat.le_trans h.size hg.size
  · rw [Below.heap_setCell _ _ _ _ (by simp), old _ (by omega)]
    exact h.res
  · simp [World.setCell, Array.getElem?_modify, hv]
  · rw [Below.heap_setCell _ _ _ _ (by simp; omega), old _ hr]
    exact h.row
  · exact ownsRow_setCell_below ho (by simp; omega) _

/-- What Take of a row of three numbers leaves. -/
def Take3Post (L : List UInt8) (k : Nat) (w : World) (e : Ending) (w' : World) : Prop :=
  Below w.heap.size w w' ∧ match three (L.drop k) with
  | .error c => ∃ z : Int, e = .returned (.tuple #[.agg #[.int .u64 0, .slice none 0 0, .slice none 0 0], .int .i64 z, .int .i64 c])
  | .ok ((x, y, z), r) => ∃ g c, e = .returned (.tuple #[.agg #[.int .u64 0, .slice none 0 0, .slice (some ⟨g, 0, none⟩) 3 c], .int .i64 ((L.length - r.length : Nat) : Int), .int .i64 0]) ∧ g < w'.heap.size ∧
      w'.cell? ⟨g, 0, none⟩ = some (.int .u64 (x : Int)) ∧ w'.cell? ⟨g, 3, none⟩ = some (.int .u64 (y : Int)) ∧ w'.cell? ⟨g, 6, none⟩ = some (.int .u64 (z : Int))

set_option maxRecDepth 20000 in
set_option maxHeartbeats 3200000 in
theorem TakeRow_any (L : List UInt8) (F : Nat → Prop) (v : Value) (k : Nat) (w : World) (hv : RepB w F L v) (hF : ∀ b, F b → b < w.heap.size) (hL : L.length ≤ 1099511627776) (hk : k ≤ L.length) :
    Calls Tryz.prog 76 #[.string ⟨#[91, 110, 110, 110, 93]⟩, v, .int .i64 (k : Int)] w (Take3Post L k w) := by
  obtain ⟨W, hW⟩ : ∃ W, W = (w.alloc (.cells #[.int .u64 0, .slice none 0 0, .slice none 0 0] 132)).alloc (.cells #[.int .u64 0, .slice none 0 0, .slice none 0 0] 132) := ⟨_, rfl⟩
  have HB : Hid (Below w.heap.size w W) := Lib.hid (by rw [hW]; exact ((Below.refl _ w).alloc (Nat.le_refl _) _).alloc (by simp) _)
  have hx0 : W.heap[w.heap.size]? = some (.cells #[.int .u64 0, .slice none 0 0, .slice none 0 0] 132) := by rw [hW]; exact old_alloc (heap_new _ _ _ rfl)
  have hx1 : W.heap[w.heap.size + 1]? = some (.cells #[.int .u64 0, .slice none 0 0, .slice none 0 0] 132) := by rw [hW]; exact heap_new _ _ _ (by simp)
  have HX0 := Lib.hid hx0
  have HX1 := Lib.hid hx1
  have HW := Lib.hid hW
  have HV := Lib.hid hv
  have HF := Lib.hid hF
  obtain ⟨va, vc, rfl, -⟩ := hv.slice
  clear hW hx0 hx1 hv hF
  go_enter Tryz.func76, Tryz.ntmps76
  go_wp2_with fail
  rw [← HW.out]
  refine (rows_any ⟨#[91, 110, 110, 110, 93]⟩ 1 [[110], [110], [110]] [.num, .num, .num] W (by decide) rfl fits_row (by omega)).mono ?_
  rintro e w1 ⟨u, rfl, hb1, hown⟩
  have hsz1 := hb1.size
  have hszW : w.heap.size + 2 = W.heap.size := by rw [HW.out]; simp
  obtain ⟨rb, rc, rfl, hrb, hrz, r0⟩ := owned_str hown rfl 0 (by decide)
  obtain ⟨_, _, he1, -, -, r1⟩ := owned_str hown rfl 1 (by decide)
  cases he1
  obtain ⟨_, _, he2, -, -, r2⟩ := owned_str hown rfl 2 (by decide)
  cases he2
  replace r0 : w1.cell? ⟨rb, 0, none⟩ = some (.string ⟨#[110]⟩) := r0
  replace r1 : w1.cell? ⟨rb, 1, none⟩ = some (.string ⟨#[110]⟩) := r1
  replace r2 : w1.cell? ⟨rb, 2, none⟩ = some (.string ⟨#[110]⟩) := r2
  have R0 := Lib.hid r0
  have R1 := Lib.hid r1
  have R2 := Lib.hid r2
  have HRB : Hid (w.heap.size + 2 ≤ rb ∧ rb < w1.heap.size) := Lib.hid ⟨by omega, hrz⟩
  have T0 : Hid (TkAt w w1 rb 0 (.slice none 0 0) [] w1) := Lib.hid ⟨HB.out.trans (hb1.mono HB.out.size), Nat.le_refl _, old_below HX0.out hb1, old_below HX1.out hb1, rfl, World.ownsRow_nil _ _ _ _⟩
  have HLN := Lib.hid hL
  obtain ⟨iv, hiv, hiv0, hiv1, hiv2⟩ := info_parts infoVal
  obtain ⟨k0, hk0⟩ : ∃ k0, k0 = k := ⟨_, rfl⟩
  have HK0 := Lib.hid hk0
  rw [← hk0]
  have hkl0 : k0 ≤ L.length := by rw [hk0]; exact hk
  obtain ⟨wa0, hwa0⟩ : ∃ wa0, wa0 = w1 := ⟨_, rfl⟩
  have HWA := Lib.hid hwa0
  rw [← hwa0]
  have T0 : Hid (TkAt w w1 rb 0 (.slice none 0 0) [] wa0) := by rw [hwa0]; exact T0
  clear r0 r1 r2 hown hb1 hrb hrz hk0 hk hwa0 hsz1 hszW
  go_wp2_with fail
  refine wp_loop_rounds 4 ?_
  rw [rounds_succ]
  have ej : wa0.cell? ⟨rb, 0, none⟩ = some (.string ⟨#[110]⟩) := (World.cell?_of_block (a := ⟨rb, 0, none⟩) T0.out.row).trans R0.out
  have ez : rb < wa0.heap.size := Nat.lt_of_lt_of_le HRB.out.2 T0.out.size
  go_wp2_with fail
  refine (TakeN_any L (fun b => b < wa0.heap.size) _ k0 wa0 (HV.out.same (fun b hb => Nat.lt_of_lt_of_le (HF.out b hb) T0.out.below.size) fun b hb => T0.out.below.block b (HF.out b hb)) (fun _ h => h) HLN.out hkl0).mono ?_
  rintro e wb0 ⟨rfl, hb0⟩
  have TB0 := Lib.hid (T0.out.next HRB.out.2 hb0)
  clear ej ez hb0
  cases hq0 : takeNum (L.drop k0) with
  | error c =>
    have hc := takeNum_fair hq0
    have ht : takeN L k0 = .tuple #[.agg #[.int .u64 0, .slice none 0 0, .slice none 0 0], .int .i64 (k0 : Int), .int .i64 c] := by unfold takeN; rw [hq0]
    rw [ht]
    have H3 : Hid (three (L.drop k) = .error c) := Lib.hid (by unfold three; rw [← HK0.out, hq0])
    obtain ⟨c0, c1, c2, f0, f1, f2, cz⟩ := block3 TB0.out.res
    clear ht hq0
    go_wp2_with fail
    refine bodyPost_ret (v := .tuple #[.agg #[.int .u64 0, .slice none 0 0, .slice none 0 0], .int .i64 (k0 : Int), .int .i64 c]) (by simp [results, Tryz.results76, go_sem, c0, c1, c2, cz]) rfl ?_
    refine ⟨by
      first
        | exact (((TB0.out.below.alloc (TB0.out.below.size) _).setCell (by simp) _).setCell (by simp) _).setCell (by simp) _
        | exact (((TB0.out.below.setCell (by simp) _).setCell (by simp) _).setCell (by simp) _).alloc (by simpa using TB0.out.below.size) _, ?_⟩
    rw [H3.out]
    exact ⟨_, rfl⟩
  | ok p0 =>
    obtain ⟨x0, r0⟩ := p0
    obtain ⟨m0, hm0, hd0⟩ := takeNum_drop hq0
    obtain ⟨k1, hk1⟩ : ∃ q, q = L.length - r0.length := ⟨_, rfl⟩
    have ht : takeN L k0 = .tuple #[.agg #[.int .u64 (x0 : Int), .slice none 0 0, .slice none 0 0], .int .i64 (k1 : Int), .int .i64 0] := by unfold takeN; rw [hq0, hk1]
    rw [ht]
    have HQ0 : Hid (takeNum (L.drop k0) = .ok (x0, r0)) := Lib.hid hq0
    have HD0 : Hid (L.drop k1 = r0) := Lib.hid (by
      rw [List.length_drop] at hm0 hd0
      rw [List.drop_drop] at hd0
      rw [hk1, show L.length - r0.length = k0 + (L.length - k0 - r0.length) by omega]
      exact hd0)
    have HKK0 := Lib.hid hk1
    have hkl1 : k1 ≤ L.length := by omega
    have hval := TB0.out.val
    obtain ⟨-, -, c2, -, -, f2, cz⟩ := block3 hval
    obtain ⟨wc, hwc⟩ : ∃ wc, wc = (wb0.alloc (.cells #[.int .u64 (x0 : Int), .slice none 0 0, .slice none 0 0] 132)).alloc (.cells #[.int .u64 (x0 : Int), .slice none 0 0, .slice none 0 0] 132) := ⟨_, rfl⟩
    have TC : Hid (TkAt w w1 rb 0 (.slice none 0 0) [] wc) := Lib.hid (TB0.out.next HRB.out.2 (by rw [hwc]; exact (below_alloc _ _).trans ((below_alloc _ _).mono (by simp))))
    have HY : Hid (Yields wc (.slice (some ⟨wb0.heap.size + 1, 0, none⟩) 1 1) 1 3 [.int .u64 (x0 : Int), .slice none 0 0, .slice none 0 0]) := Lib.hid ⟨rfl, fun u hu => by
      simp at hu
      rcases hu with rfl | rfl <;> rfl, .inr ⟨_, _, rfl, fun i u hi => by rw [hwc]; exact three_new (w := wb0.alloc _) (by simp) i u hi⟩⟩
    have HWC := Lib.hid hwc
    clear ht hq0 hm0 hd0 hk1 hval hwc
    go_wp2_with (at_builtin; rw [← HWC.out]; refine wpList_append_any _ rfl (.tmp 52) (.tmp 54) 130 rfl w1.heap.size 132 iv (.agg #[.int .u64 0, .slice none 0 0, .slice none 0 0]) 3 56 Tryz.underlying130 hiv hiv0 hiv1 hiv2 rfl (by decide) _ 0 [] rfl TC.out.own _ rfl 1 [.int .u64 (x0 : Int), .slice none 0 0, .slice none 0 0] HY.out (by unfold maxLen; omega) (by omega) TC.out.size ?_)
    intro lv1 wd1 happ
    have hpush := TC.out.push HRB.out.2 HRB.out.1 happ
    have hgv := (happ.2.1.block (w.heap.size + 1) (lt_of_heap TC.out.val) (fun e => by have := (TC.out.own.lt _ e.symm).1; have := HRB.out; omega)).trans TC.out.val
    obtain ⟨-, -, v2, -, -, vf2, vz⟩ := block3 hgv
    obtain ⟨la1, d1, hlv⟩ := owned_slice hpush.own
    subst hlv
    clear c2 f2 cz happ hgv
    go_wp2_with fail
    obtain ⟨wa1, hwa⟩ : ∃ wa, wa = wd1.setCell ⟨w.heap.size + 1, 2, none⟩ (.slice la1 1 d1) := ⟨_, rfl⟩
    have T1 : Hid (TkAt w w1 rb 1 (.slice la1 1 d1) [.int .u64 (x0 : Int), .slice none 0 0, .slice none 0 0] wa1) := Lib.hid (by rw [hwa]; exact hpush)
    rw [← hwa]
    clear hwa hpush v2 vf2 vz
    rw [rounds_succ]
    have ej : wa1.cell? ⟨rb, 1, none⟩ = some (.string ⟨#[110]⟩) := (World.cell?_of_block (a := ⟨rb, 1, none⟩) T1.out.row).trans R1.out
    have ez : rb < wa1.heap.size := Nat.lt_of_lt_of_le HRB.out.2 T1.out.size
    go_wp2_with fail
    refine (TakeN_any L (fun b => b < wa1.heap.size) _ k1 wa1 (HV.out.same (fun b hb => Nat.lt_of_lt_of_le (HF.out b hb) T1.out.below.size) fun b hb => T1.out.below.block b (HF.out b hb)) (fun _ h => h) HLN.out hkl1).mono ?_
    rintro e wb1 ⟨rfl, hb1⟩
    have TB1 := Lib.hid (T1.out.next HRB.out.2 hb1)
    clear ej ez hb1
    cases hq1 : takeNum (L.drop k1) with
    | error c =>
      have hc := takeNum_fair hq1
      have ht : takeN L k1 = .tuple #[.agg #[.int .u64 0, .slice none 0 0, .slice none 0 0], .int .i64 (k1 : Int), .int .i64 c] := by unfold takeN; rw [hq1]
      rw [ht]
      have H3 : Hid (three (L.drop k) = .error c) := Lib.hid (by unfold three; rw [← HK0.out, HQ0.out]; simp only; rw [show r0 = L.drop k1 from HD0.out.symm, hq1])
      obtain ⟨c0, c1, c2, f0, f1, f2, cz⟩ := block3 TB1.out.res
      clear ht hq1
      go_wp2_with fail
      refine bodyPost_ret (v := .tuple #[.agg #[.int .u64 0, .slice none 0 0, .slice none 0 0], .int .i64 (k1 : Int), .int .i64 c]) (by simp [results, Tryz.results76, go_sem, c0, c1, c2, cz]) rfl ?_
      refine ⟨by
        first
          | exact (((TB1.out.below.alloc (TB1.out.below.size) _).setCell (by simp) _).setCell (by simp) _).setCell (by simp) _
          | exact (((TB1.out.below.setCell (by simp) _).setCell (by simp) _).setCell (by simp) _).alloc (by simpa using TB1.out.below.size) _, ?_⟩
      rw [H3.out]
      exact ⟨_, rfl⟩
    | ok p1 =>
      obtain ⟨x1, r1⟩ := p1
      obtain ⟨m1, hm1, hd1⟩ := takeNum_drop hq1
      obtain ⟨k2, hk2⟩ : ∃ q, q = L.length - r1.length := ⟨_, rfl⟩
      have ht : takeN L k1 = .tuple #[.agg #[.int .u64 (x1 : Int), .slice none 0 0, .slice none 0 0], .int .i64 (k2 : Int), .int .i64 0] := by unfold takeN; rw [hq1, hk2]
      rw [ht]
      have HQ1 : Hid (takeNum (L.drop k1) = .ok (x1, r1)) := Lib.hid hq1
      have HD1 : Hid (L.drop k2 = r1) := Lib.hid (by
        rw [List.length_drop] at hm1 hd1
        rw [List.drop_drop] at hd1
        rw [hk2, show L.length - r1.length = k1 + (L.length - k1 - r1.length) by omega]
        exact hd1)
      have HKK1 := Lib.hid hk2
      have hkl2 : k2 ≤ L.length := by omega
      have hval := TB1.out.val
      obtain ⟨-, -, c2, -, -, f2, cz⟩ := block3 hval
      obtain ⟨wc, hwc⟩ : ∃ wc, wc = (wb1.alloc (.cells #[.int .u64 (x1 : Int), .slice none 0 0, .slice none 0 0] 132)).alloc (.cells #[.int .u64 (x1 : Int), .slice none 0 0, .slice none 0 0] 132) := ⟨_, rfl⟩
      have TC : Hid (TkAt w w1 rb 1 (.slice la1 1 d1) [.int .u64 (x0 : Int), .slice none 0 0, .slice none 0 0] wc) := Lib.hid (TB1.out.next HRB.out.2 (by rw [hwc]; exact (below_alloc _ _).trans ((below_alloc _ _).mono (by simp))))
      have HY : Hid (Yields wc (.slice (some ⟨wb1.heap.size + 1, 0, none⟩) 1 1) 1 3 [.int .u64 (x1 : Int), .slice none 0 0, .slice none 0 0]) := Lib.hid ⟨rfl, fun u hu => by
        simp at hu
        rcases hu with rfl | rfl <;> rfl, .inr ⟨_, _, rfl, fun i u hi => by rw [hwc]; exact three_new (w := wb1.alloc _) (by simp) i u hi⟩⟩
      have HWC := Lib.hid hwc
      clear ht hq1 hm1 hd1 hk2 hval hwc
      go_wp2_with (at_builtin; rw [← HWC.out]; refine wpList_append_any _ rfl (.tmp 52) (.tmp 54) 130 rfl w1.heap.size 132 iv (.agg #[.int .u64 0, .slice none 0 0, .slice none 0 0]) 3 56 Tryz.underlying130 hiv hiv0 hiv1 hiv2 rfl (by decide) _ 1 [.int .u64 (x0 : Int), .slice none 0 0, .slice none 0 0] rfl TC.out.own _ rfl 1 [.int .u64 (x1 : Int), .slice none 0 0, .slice none 0 0] HY.out (by unfold maxLen; omega) (by omega) TC.out.size ?_)
      intro lv2 wd2 happ
      have hpush := TC.out.push HRB.out.2 HRB.out.1 happ
      have hgv := (happ.2.1.block (w.heap.size + 1) (lt_of_heap TC.out.val) (fun e => by have := (TC.out.own.lt _ e.symm).1; have := HRB.out; omega)).trans TC.out.val
      obtain ⟨-, -, v2, -, -, vf2, vz⟩ := block3 hgv
      obtain ⟨la2, d2, hlv⟩ := owned_slice hpush.own
      subst hlv
      clear c2 f2 cz happ hgv
      go_wp2_with fail
      obtain ⟨wa2, hwa⟩ : ∃ wa, wa = wd2.setCell ⟨w.heap.size + 1, 2, none⟩ (.slice la2 2 d2) := ⟨_, rfl⟩
      have T2 : Hid (TkAt w w1 rb 2 (.slice la2 2 d2) [.int .u64 (x0 : Int), .slice none 0 0, .slice none 0 0, .int .u64 (x1 : Int), .slice none 0 0, .slice none 0 0] wa2) := Lib.hid (by rw [hwa]; exact hpush)
      rw [← hwa]
      clear hwa hpush v2 vf2 vz
      rw [rounds_succ]
      have ej : wa2.cell? ⟨rb, 2, none⟩ = some (.string ⟨#[110]⟩) := (World.cell?_of_block (a := ⟨rb, 2, none⟩) T2.out.row).trans R2.out
      have ez : rb < wa2.heap.size := Nat.lt_of_lt_of_le HRB.out.2 T2.out.size
      go_wp2_with fail
      refine (TakeN_any L (fun b => b < wa2.heap.size) _ k2 wa2 (HV.out.same (fun b hb => Nat.lt_of_lt_of_le (HF.out b hb) T2.out.below.size) fun b hb => T2.out.below.block b (HF.out b hb)) (fun _ h => h) HLN.out hkl2).mono ?_
      rintro e wb2 ⟨rfl, hb2⟩
      have TB2 := Lib.hid (T2.out.next HRB.out.2 hb2)
      clear ej ez hb2
      cases hq2 : takeNum (L.drop k2) with
      | error c =>
        have hc := takeNum_fair hq2
        have ht : takeN L k2 = .tuple #[.agg #[.int .u64 0, .slice none 0 0, .slice none 0 0], .int .i64 (k2 : Int), .int .i64 c] := by unfold takeN; rw [hq2]
        rw [ht]
        have H3 : Hid (three (L.drop k) = .error c) := Lib.hid (by unfold three; rw [← HK0.out, HQ0.out]; simp only; rw [show r0 = L.drop k1 from HD0.out.symm, HQ1.out]; simp only; rw [show r1 = L.drop k2 from HD1.out.symm, hq2])
        obtain ⟨c0, c1, c2, f0, f1, f2, cz⟩ := block3 TB2.out.res
        clear ht hq2
        go_wp2_with fail
        refine bodyPost_ret (v := .tuple #[.agg #[.int .u64 0, .slice none 0 0, .slice none 0 0], .int .i64 (k2 : Int), .int .i64 c]) (by simp [results, Tryz.results76, go_sem, c0, c1, c2, cz]) rfl ?_
        refine ⟨by
          first
            | exact (((TB2.out.below.alloc (TB2.out.below.size) _).setCell (by simp) _).setCell (by simp) _).setCell (by simp) _
            | exact (((TB2.out.below.setCell (by simp) _).setCell (by simp) _).setCell (by simp) _).alloc (by simpa using TB2.out.below.size) _, ?_⟩
        rw [H3.out]
        exact ⟨_, rfl⟩
      | ok p2 =>
        obtain ⟨x2, r2⟩ := p2
        obtain ⟨m2, hm2, hd2⟩ := takeNum_drop hq2
        obtain ⟨k3, hk3⟩ : ∃ q, q = L.length - r2.length := ⟨_, rfl⟩
        have ht : takeN L k2 = .tuple #[.agg #[.int .u64 (x2 : Int), .slice none 0 0, .slice none 0 0], .int .i64 (k3 : Int), .int .i64 0] := by unfold takeN; rw [hq2, hk3]
        rw [ht]
        have HQ2 : Hid (takeNum (L.drop k2) = .ok (x2, r2)) := Lib.hid hq2
        have HD2 : Hid (L.drop k3 = r2) := Lib.hid (by
          rw [List.length_drop] at hm2 hd2
          rw [List.drop_drop] at hd2
          rw [hk3, show L.length - r2.length = k2 + (L.length - k2 - r2.length) by omega]
          exact hd2)
        have HKK2 := Lib.hid hk3
        have hkl3 : k3 ≤ L.length := by omega
        have hval := TB2.out.val
        obtain ⟨-, -, c2, -, -, f2, cz⟩ := block3 hval
        obtain ⟨wc, hwc⟩ : ∃ wc, wc = (wb2.alloc (.cells #[.int .u64 (x2 : Int), .slice none 0 0, .slice none 0 0] 132)).alloc (.cells #[.int .u64 (x2 : Int), .slice none 0 0, .slice none 0 0] 132) := ⟨_, rfl⟩
        have TC : Hid (TkAt w w1 rb 2 (.slice la2 2 d2) [.int .u64 (x0 : Int), .slice none 0 0, .slice none 0 0, .int .u64 (x1 : Int), .slice none 0 0, .slice none 0 0] wc) := Lib.hid (TB2.out.next HRB.out.2 (by rw [hwc]; exact (below_alloc _ _).trans ((below_alloc _ _).mono (by simp))))
        have HY : Hid (Yields wc (.slice (some ⟨wb2.heap.size + 1, 0, none⟩) 1 1) 1 3 [.int .u64 (x2 : Int), .slice none 0 0, .slice none 0 0]) := Lib.hid ⟨rfl, fun u hu => by
          simp at hu
          rcases hu with rfl | rfl <;> rfl, .inr ⟨_, _, rfl, fun i u hi => by rw [hwc]; exact three_new (w := wb2.alloc _) (by simp) i u hi⟩⟩
        have HWC := Lib.hid hwc
        clear ht hq2 hm2 hd2 hk3 hval hwc
        go_wp2_with (at_builtin; rw [← HWC.out]; refine wpList_append_any _ rfl (.tmp 52) (.tmp 54) 130 rfl w1.heap.size 132 iv (.agg #[.int .u64 0, .slice none 0 0, .slice none 0 0]) 3 56 Tryz.underlying130 hiv hiv0 hiv1 hiv2 rfl (by decide) _ 2 [.int .u64 (x0 : Int), .slice none 0 0, .slice none 0 0, .int .u64 (x1 : Int), .slice none 0 0, .slice none 0 0] rfl TC.out.own _ rfl 1 [.int .u64 (x2 : Int), .slice none 0 0, .slice none 0 0] HY.out (by unfold maxLen; omega) (by omega) TC.out.size ?_)
        intro lv3 wd3 happ
        have hpush := TC.out.push HRB.out.2 HRB.out.1 happ
        have hgv := (happ.2.1.block (w.heap.size + 1) (lt_of_heap TC.out.val) (fun e => by have := (TC.out.own.lt _ e.symm).1; have := HRB.out; omega)).trans TC.out.val
        obtain ⟨-, -, v2, -, -, vf2, vz⟩ := block3 hgv
        obtain ⟨la3, d3, hlv⟩ := owned_slice hpush.own
        subst hlv
        clear c2 f2 cz happ hgv
        go_wp2_with fail
        obtain ⟨wa3, hwa⟩ : ∃ wa, wa = wd3.setCell ⟨w.heap.size + 1, 2, none⟩ (.slice la3 3 d3) := ⟨_, rfl⟩
        have T3 : Hid (TkAt w w1 rb 3 (.slice la3 3 d3) [.int .u64 (x0 : Int), .slice none 0 0, .slice none 0 0, .int .u64 (x1 : Int), .slice none 0 0, .slice none 0 0, .int .u64 (x2 : Int), .slice none 0 0, .slice none 0 0] wa3) := Lib.hid (by rw [hwa]; exact hpush)
        rw [← hwa]
        clear hwa hpush v2 vf2 vz
        rw [rounds_succ]
        have H3 : Hid (three (L.drop k) = .ok ((x0, x1, x2), r2)) := Lib.hid (by
          unfold three
          rw [← HK0.out, HQ0.out]
          simp only
          rw [show r0 = L.drop k1 from HD0.out.symm, HQ1.out]
          simp only
          rw [show r1 = L.drop k2 from HD1.out.symm, HQ2.out])
        obtain ⟨g, hg, hgz, h0, h1, h2⟩ : ∃ g, la3 = some ⟨g, 0, none⟩ ∧ (w1.heap.size ≤ g ∧ g < wa3.heap.size) ∧ wa3.cell? ⟨g, 0, none⟩ = some (.int .u64 (x0 : Int)) ∧ wa3.cell? ⟨g, 3, none⟩ = some (.int .u64 (x1 : Int)) ∧ wa3.cell? ⟨g, 6, none⟩ = some (.int .u64 (x2 : Int)) := by
          have ho := T3.out.own
          rcases ho.2 with ⟨-, h⟩ | ⟨g, cap, cur, hv, hgb, hcur, hn, hm, hs, ht⟩
          · cases h
          · cases hv
            have hc := fun j => cell_of_row wa3 g j _ _ _ hcur
            have hget : ∀ j x, j < 9 → ([.int .u64 (x0 : Int), .slice none 0 0, .slice none 0 0, .int .u64 (x1 : Int), .slice none 0 0, .slice none 0 0, .int .u64 (x2 : Int), .slice none 0 0, .slice none 0 0] : List Value)[j]? = some x → wa3.cell? ⟨g, j, none⟩ = some x := fun j x hj hx => by
              rw [hc j, ← hx, ← ht, List.getElem?_take, if_pos (by omega), Array.getElem?_toList]
            exact ⟨g, rfl, ⟨hgb, lt_of_heap hcur⟩, hget 0 _ (by omega) rfl, hget 3 _ (by omega) rfl, hget 6 _ (by omega) rfl⟩
        subst hg
        obtain ⟨c0, c1, c2, f0, f1, f2, cz⟩ := block3 T3.out.res
        obtain ⟨v0, v1, v2, -, -, -, vz⟩ := block3 T3.out.val
        go_wp2_with fail
        refine bodyPost_ret (v := .tuple #[.agg #[.int .u64 0, .slice none 0 0, .slice (some ⟨g, 0, none⟩) 3 d3], .int .i64 (k3 : Int), .int .i64 0]) (by simp [results, Tryz.results76, go_sem, c0, c1, c2, cz]) rfl ?_
        refine ⟨((T3.out.below.setCell (by simp) _).setCell (by simp) _).setCell (by simp) _, ?_⟩
        rw [H3.out]
        have hne : g ≠ w.heap.size := by have := HRB.out; omega
        refine ⟨g, d3, by rw [HKK2.out], by simpa using hgz.2, ?_, ?_, ?_⟩
        all_goals
          rw [World.cell?_of_block (w := wa3) (by rw [Below.heap_setCell _ _ _ _ (by simpa using hne), Below.heap_setCell _ _ _ _ (by simpa using hne), Below.heap_setCell _ _ _ _ (by simpa using hne)])]
        · exact h0
        · exact h1
        · exact h2
end Go.Proofs.YtbcpcopapbgcdaaGreatDoor.M

/- Part: ShR1. -/
namespace Go.Proofs.YtbcpcopapbgcdaaGreatDoor.M
open Go.RowKit

theorem RepB.elem3 {w : World} {F : Nat → Prop} {L : List UInt8} {a : Option Addr} {n c : Nat} (h : RepB w F L (.slice a n c)) {i : Nat} (hi : i < L.length) :
    ∃ b off, a = some ⟨b, off, none⟩ ∧ F b ∧ L.length ≤ c ∧ c ≤ 9223372036854775807 ∧ ∀ (j : Nat) (hj : j < L.length), w.cell? ⟨b, off + j, none⟩ = some (.int .u8 (L[j].toNat : Int)) := by
  rcases h with ⟨h, _⟩ | ⟨b, off, c', h, hb, h1, h2, hc⟩
  · rw [h] at hi; simp at hi
  · cases h
    exact ⟨b, off, rfl, hb, h1, h2, hc⟩

theorem RepB.mid {w : World} {F : Nat → Prop} {L : List UInt8} {b off c : Nat} (hF : F b) (hc : ∀ (j : Nat) (hj : j < L.length), w.cell? ⟨b, off + j, none⟩ = some (.int .u8 (L[j].toNat : Int))) (hl : L.length ≤ c) (hm : c ≤ 9223372036854775807) {k n : Nat} (hk : k + n ≤ L.length) :
    RepB w F ((L.drop k).take n) (.slice (if c = k then some ⟨b, off, none⟩ else some ⟨b, off + k, none⟩) n (c - k)) := by
  have e : ((L.drop k).take n).length = n := by rw [List.length_take, List.length_drop]; omega
  by_cases h : c = k
  · rw [if_pos h]
    obtain rfl : n = 0 := by omega
    refine .inl ⟨rfl, _, c - k, rfl, by omega, fun h => by cases h⟩
  · rw [if_neg h]
    refine .inr ⟨b, off + k, c - k, by rw [e], hF, by rw [e]; omega, by omega, fun i hi => ?_⟩
    rw [e] at hi
    have := hc (k + i) (by omega)
    rw [Nat.add_assoc, this]
    simp

/-- What Take of bytes leaves. -/
def TakeBPost (L : List UInt8) (k : Nat) (w : World) (e : Ending) (w' : World) : Prop :=
  Below w.heap.size w w' ∧ match takeB (L.drop k) with
  | .error c => ∃ z : Int, e = .returned (.tuple #[.agg #[.int .u64 0, .slice none 0 0, .slice none 0 0], .int .i64 z, .int .i64 c])
  | .ok (c, r) => ∃ u, e = .returned (.tuple #[.agg #[.int .u64 0, u, .slice none 0 0], .int .i64 ((L.length - r.length : Nat) : Int), .int .i64 0]) ∧ RepB w' (fun j => w.heap.size ≤ j ∧ j < w'.heap.size) c u

theorem TakeBPost.err {L : List UInt8} {k : Nat} {w w' : World} {c z : Int} (hb : Below w.heap.size w w') (h : takeB (L.drop k) = .error c) :
    TakeBPost L k w (.returned (.tuple #[.agg #[.int .u64 0, .slice none 0 0, .slice none 0 0], .int .i64 z, .int .i64 c])) w' := ⟨hb, by rw [h]; exact ⟨z, rfl⟩⟩

set_option maxRecDepth 20000 in
set_option maxHeartbeats 1600000 in
theorem TakeB_any (L : List UInt8) (F : Nat → Prop) (v : Value) (k : Nat) (w : World) (hv : RepB w F L v) (hF : ∀ b, F b → b < w.heap.size) (hL : L.length ≤ 1000000) (hk : k ≤ L.length) :
    Calls Tryz.prog 76 #[.string ⟨#[98]⟩, v, .int .i64 (k : Int)] w (TakeBPost L k w) := by
  obtain ⟨W, hW⟩ : ∃ W, W = (w.alloc (.cells #[.int .u64 0, .slice none 0 0, .slice none 0 0] 132)).alloc (.cells #[.int .u64 0, .slice none 0 0, .slice none 0 0] 132) := ⟨_, rfl⟩
  have HB : Hid (Below w.heap.size w W) := Lib.hid (by rw [hW]; exact ((Below.refl _ w).alloc (Nat.le_refl _) _).alloc (by simp) _)
  have hx0 : W.heap[w.heap.size]? = some (.cells #[.int .u64 0, .slice none 0 0, .slice none 0 0] 132) := by rw [hW]; exact old_alloc (heap_new _ _ _ rfl)
  have hx1 : W.heap[w.heap.size + 1]? = some (.cells #[.int .u64 0, .slice none 0 0, .slice none 0 0] 132) := by rw [hW]; exact heap_new _ _ _ (by simp)
  have HZ : Hid (W.heap.size = w.heap.size + 2) := Lib.hid (by rw [hW]; simp)
  have HR : Hid (RepB W F L v) := Lib.hid (hv.same (fun _ h => h) fun b hb => HB.out.block b (hF b hb))
  have HN := Lib.hid (RefNum_any L F v k W HR.out (by omega) hk)
  have HW := Lib.hid hW
  have HX0 := Lib.hid hx0
  have HX1 := Lib.hid hx1
  have HLN := Lib.hid hL
  obtain ⟨c0, c1, c2, f0, f1, f2, cz⟩ := block3 hx0
  obtain ⟨d0, d1, d2, g0, g1, g2, dz⟩ := block3 hx1
  obtain ⟨va, vc, rfl, -⟩ := hv.slice
  clear hW hx0 hx1 hv hF hL
  go_enter Tryz.func76, Tryz.ntmps76
  go_wp2_with fail
  rw [← HW.out]
  refine HN.out.mono ?_
  rintro e w1 ⟨rfl, rfl⟩
  cases hq : takeNum (L.drop k) with
  | error c =>
    rw [numR_err hq]
    have hc := takeNum_fair hq
    have HT : Hid (takeB (L.drop k) = .error c) := Lib.hid (by unfold takeB; rw [hq])
    clear hq
    go_wp2_with fail
    refine bodyPost_ret (v := .tuple #[.agg #[.int .u64 0, .slice none 0 0, .slice none 0 0], .int .i64 (k : Int), .int .i64 c]) (by simp [results, Tryz.results76, go_sem, c0, c1, c2, cz]) rfl ?_
    exact TakeBPost.err (((HB.out.setCell (by simp) _).setCell (by simp) _).setCell (by simp) _) HT.out
  | ok p =>
    obtain ⟨n, r⟩ := p
    rw [numR_ok hq]
    obtain ⟨hn64, hrl, hrd⟩ := takeNum_drop hq
    obtain ⟨m, hm⟩ : ∃ m, m = L.length - r.length := ⟨_, rfl⟩
    have hkl : k < L.length := by
      rcases Nat.lt_or_ge k L.length with h | h
      · exact h
      · rw [List.drop_of_length_le h, takeNum] at hq; cases hq
    rw [List.length_drop] at hrl hrd
    rw [List.drop_drop, show k + (L.length - k - r.length) = m by omega] at hrd
    have hmr : m + r.length = L.length := by omega
    rw [← hm]
    have HRD := Lib.hid hrd
    have HM := Lib.hid hmr
    have E64 : Hid ((L.length : Int) - (m : Int) = (r.length : Int)) := Lib.hid (by omega)
    have hli : (L.length : Int) ≤ 1099511627776 := by have := HLN.out; omega
    have HN64 := Lib.hid hn64
    clear hn64
    have hri : (r.length : Int) ≤ 1099511627776 := by omega
    have k0 : (((⟨#[98]⟩ : ByteArray)[0].toNat : Int) == 110) = false := by decide
    have k1 : (((⟨#[98]⟩ : ByteArray)[0].toNat : Int) == 98) = true := by decide
    have e64 := E64.out
    by_cases hlt : r.length < n
    · have HT : Hid (takeB (L.drop k) = .error 11) := Lib.hid (by unfold takeB; rw [hq]; simp only; rw [if_pos hlt])
      have q1 : (r.length : Int) < (n : Int) := by omega
      clear hq hm hrd hmr hlt hrl hkl hk
      go_wp2_with fail
      refine bodyPost_ret (v := .tuple #[.agg #[.int .u64 0, .slice none 0 0, .slice none 0 0], .int .i64 (m : Int), .int .i64 11]) (by simp [results, Tryz.results76, go_sem, c0, c1, c2, cz]) rfl ?_
      exact TakeBPost.err (((HB.out.setCell (by simp) _).setCell (by simp) _).setCell (by simp) _) HT.out
    · have HT : Hid (takeB (L.drop k) = .ok (r.take n, r.drop n)) := Lib.hid (by unfold takeB; rw [hq]; simp only; rw [if_neg hlt])
      have q1 : decide ((r.length : Int) < (n : Int)) = false := by simp; omega
      have q2 : decide ((1048576 : Int) < (n : Int)) = false := by have := HLN.out; simp; omega
      obtain ⟨b, off, rfl, hFb, hcc, hcm, hcl⟩ := HR.out.elem3 hkl
      have HCL := Lib.hid hcl
      have HFB := Lib.hid hFb
      have HCC := Lib.hid hcc
      have HCM := Lib.hid hcm
      have h1 : (m : Int) + (n : Int) ≤ (vc : Int) := by omega
      have h2 : (n : Int) ≤ 1099511627776 := by omega
      have h3 : (m : Int) ≤ (m : Int) + (n : Int) := by omega
      clear hq hm hrd hmr hrl hkl hk hcl hFb hcc hcm
      go_wp2_with fail
      have hw1 : IntKind.i64.wrap (n : Int) = (n : Int) := IntWalk.i64_in _ (by omega)
      have hw2 : IntKind.i64.wrap ((m : Int) + (n : Int)) = (m : Int) + (n : Int) := IntWalk.i64_in _ (by omega)
      have h4 : ((m : Int) + (n : Int)).toNat = m + n := by omega
      have h5 : 0 ≤ (m : Int) + (n : Int) := by omega
      have h6 : m ≤ m + n := by omega
      have h7 : m + n - m = n := by omega
      have hmn : m + n ≤ L.length := by omega
      refine wp_region_held (S := fun w' => Below w.heap.size w w') (by kernel_rfl) ?_
      have hS : Below w.heap.size w W.drew := HB.out.drew
      obtain ⟨sa, hsa⟩ : ∃ sa, sa = (if vc = m then some (⟨b, off, none⟩ : Addr) else some ⟨b, off + m, none⟩) := ⟨_, rfl⟩
      have HSA : Hid (RepB W F ((L.drop m).take n) (.slice sa n (vc - m))) := Lib.hid (by rw [hsa]; exact RepB.mid HFB.out HCL.out HCC.out HCM.out hmn)
      refine H_take (i := 0) (v := ?_) rfl (by as_aux_lemma => kernel_rfl) (by as_aux_lemma => kernel_rfl) (by as_aux_lemma => kernel_rfl) (fun _ _ _ h => h) (by rfl) hS ?_ ?_
      rotate_left
      · intro w' hw'; go_simp; with_reducible rfl
      go_simp
      refine H_take (i := 2) (v := ?_) rfl (by as_aux_lemma => kernel_rfl) (by as_aux_lemma => kernel_rfl) (by as_aux_lemma => kernel_rfl) (fun _ _ _ h => h) (by rfl) hS ?_ ?_
      rotate_left
      · intro w' hw'; go_simp; with_reducible rfl
      go_simp
      refine H_take (i := 3) (v := ?_) rfl (by as_aux_lemma => kernel_rfl) (by as_aux_lemma => kernel_rfl) (by as_aux_lemma => kernel_rfl) (fun _ _ _ h => h) (by rfl) hS ?_ ?_
      rotate_left
      · intro w' hw'; go_simp; with_reducible rfl
      go_simp
      refine H_take (i := 4) (v := ?_) rfl (by as_aux_lemma => kernel_rfl) (by as_aux_lemma => kernel_rfl) (by as_aux_lemma => kernel_rfl) (fun _ _ _ h => h) (by rfl) hS ?_ ?_
      rotate_left
      · intro w' hw'; go_simp; with_reducible rfl
      go_simp
      refine H_take (i := 5) (v := ?_) rfl (by as_aux_lemma => kernel_rfl) (by as_aux_lemma => kernel_rfl) (by as_aux_lemma => kernel_rfl) (fun _ _ _ h => h) (by rfl) hS ?_ ?_
      rotate_left
      · intro w' hw'; go_simp; with_reducible rfl
      go_simp
      refine H_take (i := 6) (v := ?_) rfl (by as_aux_lemma => kernel_rfl) (by as_aux_lemma => kernel_rfl) (by as_aux_lemma => kernel_rfl) (fun _ _ _ h => h) (by rfl) hS ?_ ?_
      rotate_left
      · intro w' hw'; go_simp; with_reducible rfl
      go_simp
      refine H_take (i := 7) (v := ?_) rfl (by as_aux_lemma => kernel_rfl) (by as_aux_lemma => kernel_rfl) (by as_aux_lemma => kernel_rfl) (fun _ _ _ h => h) (by rfl) hS ?_ ?_
      rotate_left
      · intro w' hw'; go_simp; with_reducible rfl
      go_simp
      refine H_take (i := 8) (v := ?_) rfl (by as_aux_lemma => kernel_rfl) (by as_aux_lemma => kernel_rfl) (by as_aux_lemma => kernel_rfl) (fun _ _ _ h => h) (by rfl) hS ?_ ?_
      rotate_left
      · intro w' hw'; go_simp; with_reducible rfl
      go_simp
      rw [← hsa]
      clear hsa
      refine H_one (i := 1) (by as_aux_lemma => kernel_rfl) rfl (by rfl) ?_
      go_simp
      refine H_one (i := 9) (by as_aux_lemma => kernel_rfl) rfl (by rfl) ?_
      have hlen : ((L.drop m).take n).length = n := by rw [List.length_take, List.length_drop]; omega
      refine wp_own_append (w := W) (L := []) (L2 := (L.drop m).take n) _ _ rfl rfl rfl (Own.bare (Below.refl _ W).drew) rfl (F := F) ?_ (by rw [hlen]; have := HLN.out; simp; omega) ?_
      · exact HSA.out.same (fun _ h => h) fun _ _ => rfl
      intro v' w' hown
      have S9 : Below w.heap.size w w' := HB.out.trans (hown.1.mono HB.out.size)
      rw [List.nil_append] at hown
      obtain ⟨va', vc', rfl⟩ := hown.slice
      rw [hlen] at hown ⊢
      obtain ⟨x0, x1, x2, y0, y1, y2, xz⟩ := block3 ((hown.1.block _ (lt_of_heap HX0.out)).trans HX0.out)
      obtain ⟨z0, z1, z2, t0, t1, t2, zz⟩ := block3 ((hown.1.block _ (lt_of_heap HX1.out)).trans HX1.out)
      have HO := Lib.hid hown
      clear hown c0 c1 c2 f0 f1 f2 cz d0 d1 d2 g0 g1 g2 dz
      refine ⟨S9, ?_⟩
      go_simp
      refine H_take (i := 10) (v := ?_) rfl (by as_aux_lemma => kernel_rfl) (by as_aux_lemma => kernel_rfl) (by as_aux_lemma => kernel_rfl) (fun _ _ _ h => h) (by rfl) S9 ?_ ?_
      rotate_left
      · intro w' hw'; go_simp; with_reducible rfl
      go_simp
      refine H_one (i := 11) (by as_aux_lemma => kernel_rfl) rfl (by rfl) ?_
      go_simp
      refine ⟨S9.setCell (by simp) _, ?_⟩
      refine wpAnyH_done (by as_aux_lemma => kernel_rfl) ?_ _
      clear hS h3 h4 h5 h6 h7 hlen
      go_wp2_with fail
      refine bodyPost_ret (v := .tuple #[.agg #[.int .u64 0, .slice va' n vc', .slice none 0 0], .int .i64 ((m : Int) + (n : Int)), .int .i64 0]) (by simp [results, Tryz.results76, go_sem, x0, x1, x2, xz]) rfl ?_
      refine ⟨(((S9.setCell (by simp) _).setCell (by simp) _).setCell (by simp) _).setCell (by simp) _, ?_⟩
      rw [HT.out]
      have hr := HO.out.rep
      rw [HRD.out] at hr
      have e : ((L.length - (r.drop n).length : Nat) : Int) = (m : Int) + (n : Int) := by
        rw [List.length_drop]
        have := HM.out
        omega
      refine ⟨_, by rw [e], hr.same (fun j hj => ⟨by have := HZ.out; omega, by simpa using hj.2⟩) fun j hj => ?_⟩
      have hj1 := hj.1
      have hz := HZ.out
      rw [Below.heap_setCell _ _ _ _ (by simp; omega), Below.heap_setCell _ _ _ _ (by simp; omega), Below.heap_setCell _ _ _ _ (by simp; omega), Below.heap_setCell _ _ _ _ (by simp; omega)]
end Go.Proofs.YtbcpcopapbgcdaaGreatDoor.M

/- Part: ShR2. -/
namespace Go.Proofs.YtbcpcopapbgcdaaGreatDoor.M
open Go.RowKit

theorem fits_snap : Fits 1 [[110], [110], [98], [98]] [.num, .num, .blob, .blob] := by
  have one : Exact 1 [110] .num := fun r => rfl
  have two : Exact 1 [98] .blob := fun r => rfl
  exact ⟨_, _, rfl, one, _, _, rfl, one, _, _, rfl, two, _, _, rfl, two, rfl⟩

theorem takeB_fair {b : List UInt8} {e : Int} (h : takeB b = .error e) : (e != 0) = true := by
  unfold takeB at h
  cases h1 : takeNum b with
  | error c => rw [h1] at h; cases h; exact takeNum_fair h1
  | ok p =>
    rw [h1] at h
    simp only at h
    split at h
    · cases h; rfl
    · cases h

theorem takeB_drop {b r c : List UInt8} (h : takeB b = .ok (c, r)) : c.length + r.length ≤ b.length ∧ b.drop (b.length - r.length) = r := by
  unfold takeB at h
  cases h1 : takeNum b with
  | error c => rw [h1] at h; cases h
  | ok p =>
    obtain ⟨n, q⟩ := p
    obtain ⟨-, hl, hd⟩ := takeNum_drop h1
    rw [h1] at h
    simp only at h
    split at h
    · cases h
    · rename_i hn
      simp only [Except.ok.injEq, Prod.mk.injEq] at h
      obtain ⟨rfl, rfl⟩ := h
      rw [List.length_take, List.length_drop]
      refine ⟨by omega, ?_⟩
      have : b.drop ((b.length - q.length) + n) = q.drop n := by rw [← List.drop_drop, hd]
      rw [← this]
      congr 1
      omega

/-- Blocks that the row of values itself doesn't lie in. -/
def Apt (w wr : World) (lv : Value) (j : Nat) : Prop := w.heap.size + 2 ≤ j ∧ j < wr.heap.size ∧ lv.ownBlock ≠ some j

theorem apt_next {w wr w' : World} {lv u : Value} {L : List UInt8} (h : RepB wr (Apt w wr lv) L u) (hb : Below wr.heap.size wr w') : RepB w' (Apt w w' lv) L u :=
  h.same (fun j hj => ⟨hj.1, Nat.lt_of_lt_of_le hj.2.1 hb.size, hj.2.2⟩) fun j hj => hb.block j hj.2.1

theorem apt_new {w w1 wr w' : World} {rb j : Nat} {lv u : Value} {xs : List Value} {L : List UInt8} (h : TkAt w w1 rb j lv xs wr) (hw : w.heap.size + 2 ≤ w1.heap.size) (hr : RepB w' (fun i => wr.heap.size ≤ i ∧ i < w'.heap.size) L u) : RepB w' (Apt w w' lv) L u :=
  hr.weak fun i hi => ⟨by have := h.size; omega, hi.2, fun e => by have := (h.own.lt i e).2; omega⟩

theorem apt_push {w w1 wr w' : World} {rb j : Nat} {lv lv' x y z u : Value} {xs : List Value} {L : List UInt8} (_h : TkAt w w1 rb j lv xs wr) (hr : RepB wr (Apt w wr lv) L u)
    (ha : AppLeft wr w1.heap.size 132 3 lv j 1 xs [x, y, z] lv' w') : RepB (w'.setCell ⟨w.heap.size + 1, 2, none⟩ lv') (Apt w (w'.setCell ⟨w.heap.size + 1, 2, none⟩ lv') lv') L u := by
  obtain ⟨ho, hg, hw⟩ := ha
  have h1 : ∀ i, Apt w wr lv i → Apt w (w'.setCell ⟨w.heap.size + 1, 2, none⟩ lv') lv' i := fun i hi => by
    refine ⟨hi.1, by have := hg.size; have := hi.2.1; simp; omega, ?_⟩
    intro h
    rcases hw with h1 | h1
    · exact hi.2.2 (h1.symm.trans h)
    · rw [h] at h1
      have := hi.2.1
      simp at h1
      omega
  have h2 : ∀ i, Apt w wr lv i → (w'.setCell ⟨w.heap.size + 1, 2, none⟩ lv').heap[i]? = wr.heap[i]? := fun i hi => by
    have := hi.1
    rw [Below.heap_setCell _ _ _ _ (by simp; omega), hg.block i hi.2.1 fun h => hi.2.2 h.symm]
  exact hr.same h1 h2

/-- What Take of a snapshot's row leaves. -/
def Take4Post (L : List UInt8) (k : Nat) (w : World) (e : Ending) (w' : World) : Prop :=
  Below w.heap.size w w' ∧ match snParts (L.drop k) with
  | .error c => ∃ z : Int, e = .returned (.tuple #[.agg #[.int .u64 0, .slice none 0 0, .slice none 0 0], .int .i64 z, .int .i64 c])
  | .ok ((x, y, c, d), r) => ∃ g cap u1 u2, e = .returned (.tuple #[.agg #[.int .u64 0, .slice none 0 0, .slice (some ⟨g, 0, none⟩) 4 cap], .int .i64 ((L.length - r.length : Nat) : Int), .int .i64 0]) ∧ (w.heap.size ≤ g ∧ g < w'.heap.size) ∧
      (w'.cell? ⟨g, 0, none⟩ = some (.int .u64 (x : Int)) ∧ w'.cell? ⟨g, 3, none⟩ = some (.int .u64 (y : Int)) ∧ w'.cell? ⟨g, 7, none⟩ = some u1 ∧ w'.cell? ⟨g, 10, none⟩ = some u2) ∧
      RepB w' (fun j => w.heap.size ≤ j ∧ j < w'.heap.size) c u1 ∧ RepB w' (fun j => w.heap.size ≤ j ∧ j < w'.heap.size) d u2

set_option maxRecDepth 20000 in
set_option maxHeartbeats 6400000 in
theorem TakeSnap_any (L : List UInt8) (F : Nat → Prop) (v : Value) (k : Nat) (w : World) (hv : RepB w F L v) (hF : ∀ b, F b → b < w.heap.size) (hL : L.length ≤ 1000000) (hk : k ≤ L.length) :
    Calls Tryz.prog 76 #[.string ⟨#[91, 110, 110, 98, 98, 93]⟩, v, .int .i64 (k : Int)] w (Take4Post L k w) := by
  obtain ⟨W, hW⟩ : ∃ W, W = (w.alloc (.cells #[.int .u64 0, .slice none 0 0, .slice none 0 0] 132)).alloc (.cells #[.int .u64 0, .slice none 0 0, .slice none 0 0] 132) := ⟨_, rfl⟩
  have HB : Hid (Below w.heap.size w W) := Lib.hid (by rw [hW]; exact ((Below.refl _ w).alloc (Nat.le_refl _) _).alloc (by simp) _)
  have hx0 : W.heap[w.heap.size]? = some (.cells #[.int .u64 0, .slice none 0 0, .slice none 0 0] 132) := by rw [hW]; exact old_alloc (heap_new _ _ _ rfl)
  have hx1 : W.heap[w.heap.size + 1]? = some (.cells #[.int .u64 0, .slice none 0 0, .slice none 0 0] 132) := by rw [hW]; exact heap_new _ _ _ (by simp)
  have HX0 := Lib.hid hx0
  have HX1 := Lib.hid hx1
  have HW := Lib.hid hW
  have HV := Lib.hid hv
  have HF := Lib.hid hF
  obtain ⟨va, vc, rfl, -⟩ := hv.slice
  clear hW hx0 hx1 hv hF
  go_enter Tryz.func76, Tryz.ntmps76
  go_wp2_with fail
  rw [← HW.out]
  refine (rows_any ⟨#[91, 110, 110, 98, 98, 93]⟩ 1 [[110], [110], [98], [98]] [.num, .num, .blob, .blob] W (by decide) rfl fits_snap (by omega)).mono ?_
  rintro e w1 ⟨u, rfl, hb1, hown⟩
  have hsz1 := hb1.size
  have hszW : w.heap.size + 2 = W.heap.size := by rw [HW.out]; simp
  obtain ⟨rb, rc, rfl, hrb, hrz, r0⟩ := owned_str hown rfl 0 (by decide)
  obtain ⟨_, _, he1, -, -, r1⟩ := owned_str hown rfl 1 (by decide)
  cases he1
  obtain ⟨_, _, he2, -, -, r2⟩ := owned_str hown rfl 2 (by decide)
  cases he2
  obtain ⟨_, _, he3, -, -, r3⟩ := owned_str hown rfl 3 (by decide)
  cases he3
  replace r0 : w1.cell? ⟨rb, 0, none⟩ = some (.string ⟨#[110]⟩) := r0
  replace r1 : w1.cell? ⟨rb, 1, none⟩ = some (.string ⟨#[110]⟩) := r1
  replace r2 : w1.cell? ⟨rb, 2, none⟩ = some (.string ⟨#[98]⟩) := r2
  replace r3 : w1.cell? ⟨rb, 3, none⟩ = some (.string ⟨#[98]⟩) := r3
  have R0 := Lib.hid r0
  have R1 := Lib.hid r1
  have R2 := Lib.hid r2
  have R3 := Lib.hid r3
  have HRB : Hid (w.heap.size + 2 ≤ rb ∧ rb < w1.heap.size) := Lib.hid ⟨by omega, hrz⟩
  have HW2 : Hid (w.heap.size + 2 ≤ w1.heap.size) := Lib.hid (by omega)
  have T0 : Hid (TkAt w w1 rb 0 (.slice none 0 0) [] w1) := Lib.hid ⟨HB.out.trans (hb1.mono HB.out.size), Nat.le_refl _, old_below HX0.out hb1, old_below HX1.out hb1, rfl, World.ownsRow_nil _ _ _ _⟩
  have HLN := Lib.hid hL
  obtain ⟨iv, hiv, hiv0, hiv1, hiv2⟩ := info_parts infoVal
  obtain ⟨k0, hk0⟩ : ∃ k0, k0 = k := ⟨_, rfl⟩
  have HK0 := Lib.hid hk0
  rw [← hk0]
  have HKL0 : Hid (k0 ≤ L.length) := Lib.hid (by rw [hk0]; exact hk)
  obtain ⟨wa0, hwa0⟩ : ∃ wa0, wa0 = w1 := ⟨_, rfl⟩
  have HWA := Lib.hid hwa0
  rw [← hwa0]
  have T0 : Hid (TkAt w w1 rb 0 (.slice none 0 0) [] wa0) := by rw [hwa0]; exact T0
  clear r0 r1 r2 r3 hown hb1 hrb hrz hk0 hk hwa0 hsz1 hszW hL
  go_wp2_with fail
  refine wp_loop_rounds 5 ?_
  rw [rounds_succ]
  have ej : wa0.cell? ⟨rb, 0, none⟩ = some (.string ⟨#[110]⟩) := (World.cell?_of_block (a := ⟨rb, 0, none⟩) T0.out.row).trans R0.out
  have ez : rb < wa0.heap.size := Nat.lt_of_lt_of_le HRB.out.2 T0.out.size
  go_wp2_with fail
  refine (TakeN_any L (fun b => b < wa0.heap.size) _ k0 wa0 (HV.out.same (fun b hb => Nat.lt_of_lt_of_le (HF.out b hb) T0.out.below.size) fun b hb => T0.out.below.block b (HF.out b hb)) (fun _ h => h) (by have := HLN.out; omega) HKL0.out).mono ?_
  rintro e wb0 ⟨rfl, hb0⟩
  have TB0 := Lib.hid (T0.out.next HRB.out.2 hb0)
  have hbz0 := Lib.hid hb0
  clear ej ez hb0
  cases hq0 : takeNum (L.drop k0) with
  | error c =>
    have hc := takeNum_fair hq0
    have ht : takeN L k0 = .tuple #[.agg #[.int .u64 0, .slice none 0 0, .slice none 0 0], .int .i64 (k0 : Int), .int .i64 c] := by unfold takeN; rw [hq0]
    rw [ht]
    clear ht
    have H3 : Hid (snParts (L.drop k) = .error c) := Lib.hid (by unfold snParts; rw [← HK0.out, hq0])
    obtain ⟨c0, c1, c2, f0, f1, f2, cz⟩ := block3 TB0.out.res
    clear hq0
    go_wp2_with fail
    refine bodyPost_ret (v := .tuple #[.agg #[.int .u64 0, .slice none 0 0, .slice none 0 0], .int .i64 (k0 : Int), .int .i64 c]) (by simp [results, Tryz.results76, go_sem, c0, c1, c2, cz]) rfl ?_
    refine ⟨by
      first
        | exact (((TB0.out.below.alloc (TB0.out.below.size) _).setCell (by simp) _).setCell (by simp) _).setCell (by simp) _
        | exact (((TB0.out.below.setCell (by simp) _).setCell (by simp) _).setCell (by simp) _).alloc (by simpa using TB0.out.below.size) _, ?_⟩
    rw [H3.out]
    exact ⟨_, rfl⟩
  | ok p0 =>
    obtain ⟨x0, r0⟩ := p0
    obtain ⟨m0, hm0, hd0⟩ := takeNum_drop hq0
    obtain ⟨k1, hk1⟩ : ∃ q, q = L.length - r0.length := ⟨_, rfl⟩
    have ht : takeN L k0 = .tuple #[.agg #[.int .u64 (x0 : Int), .slice none 0 0, .slice none 0 0], .int .i64 (k1 : Int), .int .i64 0] := by unfold takeN; rw [hq0, hk1]
    rw [ht]
    clear ht
    have HQ0 : Hid (takeNum (L.drop k0) = .ok (x0, r0)) := Lib.hid hq0
    rw [List.length_drop] at hm0 hd0
    have HD0 : Hid (L.drop k1 = r0) := Lib.hid (by
      rw [List.drop_drop] at hd0
      have := HKL0.out
      rw [hk1, show L.length - r0.length = k0 + (L.length - k0 - r0.length) by omega]
      exact hd0)
    have HKK0 := Lib.hid hk1
    have HKL1 : Hid (k1 ≤ L.length) := Lib.hid (by omega)
    have hval := TB0.out.val
    obtain ⟨-, -, vc2, -, -, vd2, cz⟩ := block3 hval
    obtain ⟨wc, hwc⟩ : ∃ wc, wc = (wb0.alloc (.cells #[.int .u64 (x0 : Int), .slice none 0 0, .slice none 0 0] 132)).alloc (.cells #[.int .u64 (x0 : Int), .slice none 0 0, .slice none 0 0] 132) := ⟨_, rfl⟩
    have hbc : Below wb0.heap.size wb0 wc := by rw [hwc]; exact (below_alloc _ _).trans ((below_alloc _ _).mono (by simp))
    have TC : Hid (TkAt w w1 rb 0 (.slice none 0 0) [] wc) := Lib.hid (TB0.out.next HRB.out.2 hbc)
    have HY : Hid (Yields wc (.slice (some ⟨wb0.heap.size + 1, 0, none⟩) 1 1) 1 3 [.int .u64 (x0 : Int), .slice none 0 0, .slice none 0 0]) := Lib.hid ⟨rfl, fun u hu => by
      simp at hu
      rcases hu with rfl | rfl | rfl <;> rfl, .inr ⟨_, _, rfl, fun i u hi => by rw [hwc]; exact three_new (w := wb0.alloc _) (by simp) i u hi⟩⟩
    have HWC := Lib.hid hwc
    clear hq0 hm0 hd0 hk1 hval hwc hbc
    go_wp2_with (at_builtin; rw [← HWC.out]; refine wpList_append_any _ rfl (.tmp 52) (.tmp 54) 130 rfl w1.heap.size 132 iv (.agg #[.int .u64 0, .slice none 0 0, .slice none 0 0]) 3 56 Tryz.underlying130 hiv hiv0 hiv1 hiv2 rfl (by decide) _ 0 [] rfl TC.out.own _ rfl 1 [.int .u64 (x0 : Int), .slice none 0 0, .slice none 0 0] HY.out (by unfold maxLen; omega) (by omega) TC.out.size ?_)
    intro lv1 wd1 happ
    have hpush := TC.out.push HRB.out.2 HRB.out.1 happ
    have hgv := (happ.2.1.block (w.heap.size + 1) (lt_of_heap TC.out.val) (fun e => by have := (TC.out.own.lt _ e.symm).1; have := HRB.out; omega)).trans TC.out.val
    obtain ⟨-, -, v2, -, -, vf2, vz⟩ := block3 hgv
    obtain ⟨la1, d1, hlv⟩ := owned_slice hpush.own
    subst hlv
    clear vc2 vd2 cz happ hgv
    go_wp2_with fail
    obtain ⟨wa1, hwa⟩ : ∃ wa, wa = wd1.setCell ⟨w.heap.size + 1, 2, none⟩ (.slice la1 1 d1) := ⟨_, rfl⟩
    have T1 : Hid (TkAt w w1 rb 1 (.slice la1 1 d1) [.int .u64 (x0 : Int), .slice none 0 0, .slice none 0 0] wa1) := Lib.hid (by rw [hwa]; exact hpush)
    rw [← hwa]
    clear hwa hpush v2 vf2 vz
    rw [rounds_succ]
    have ej : wa1.cell? ⟨rb, 1, none⟩ = some (.string ⟨#[110]⟩) := (World.cell?_of_block (a := ⟨rb, 1, none⟩) T1.out.row).trans R1.out
    have ez : rb < wa1.heap.size := Nat.lt_of_lt_of_le HRB.out.2 T1.out.size
    go_wp2_with fail
    refine (TakeN_any L (fun b => b < wa1.heap.size) _ k1 wa1 (HV.out.same (fun b hb => Nat.lt_of_lt_of_le (HF.out b hb) T1.out.below.size) fun b hb => T1.out.below.block b (HF.out b hb)) (fun _ h => h) (by have := HLN.out; omega) HKL1.out).mono ?_
    rintro e wb1 ⟨rfl, hb1⟩
    have TB1 := Lib.hid (T1.out.next HRB.out.2 hb1)
    have hbz1 := Lib.hid hb1
    clear ej ez hb1
    cases hq1 : takeNum (L.drop k1) with
    | error c =>
      have hc := takeNum_fair hq1
      have ht : takeN L k1 = .tuple #[.agg #[.int .u64 0, .slice none 0 0, .slice none 0 0], .int .i64 (k1 : Int), .int .i64 c] := by unfold takeN; rw [hq1]
      rw [ht]
      clear ht
      have H3 : Hid (snParts (L.drop k) = .error c) := Lib.hid (by unfold snParts; rw [← HK0.out, HQ0.out]; simp only; rw [show r0 = L.drop k1 from HD0.out.symm, hq1])
      obtain ⟨c0, c1, c2, f0, f1, f2, cz⟩ := block3 TB1.out.res
      clear hq1
      go_wp2_with fail
      refine bodyPost_ret (v := .tuple #[.agg #[.int .u64 0, .slice none 0 0, .slice none 0 0], .int .i64 (k1 : Int), .int .i64 c]) (by simp [results, Tryz.results76, go_sem, c0, c1, c2, cz]) rfl ?_
      refine ⟨by
        first
          | exact (((TB1.out.below.alloc (TB1.out.below.size) _).setCell (by simp) _).setCell (by simp) _).setCell (by simp) _
          | exact (((TB1.out.below.setCell (by simp) _).setCell (by simp) _).setCell (by simp) _).alloc (by simpa using TB1.out.below.size) _, ?_⟩
      rw [H3.out]
      exact ⟨_, rfl⟩
    | ok p1 =>
      obtain ⟨x1, r1⟩ := p1
      obtain ⟨m1, hm1, hd1⟩ := takeNum_drop hq1
      obtain ⟨k2, hk2⟩ : ∃ q, q = L.length - r1.length := ⟨_, rfl⟩
      have ht : takeN L k1 = .tuple #[.agg #[.int .u64 (x1 : Int), .slice none 0 0, .slice none 0 0], .int .i64 (k2 : Int), .int .i64 0] := by unfold takeN; rw [hq1, hk2]
      rw [ht]
      clear ht
      have HQ1 : Hid (takeNum (L.drop k1) = .ok (x1, r1)) := Lib.hid hq1
      rw [List.length_drop] at hm1 hd1
      have HD1 : Hid (L.drop k2 = r1) := Lib.hid (by
        rw [List.drop_drop] at hd1
        have := HKL1.out
        rw [hk2, show L.length - r1.length = k1 + (L.length - k1 - r1.length) by omega]
        exact hd1)
      have HKK1 := Lib.hid hk2
      have HKL2 : Hid (k2 ≤ L.length) := Lib.hid (by omega)
      have hval := TB1.out.val
      obtain ⟨-, -, vc2, -, -, vd2, cz⟩ := block3 hval
      obtain ⟨wc, hwc⟩ : ∃ wc, wc = (wb1.alloc (.cells #[.int .u64 (x1 : Int), .slice none 0 0, .slice none 0 0] 132)).alloc (.cells #[.int .u64 (x1 : Int), .slice none 0 0, .slice none 0 0] 132) := ⟨_, rfl⟩
      have hbc : Below wb1.heap.size wb1 wc := by rw [hwc]; exact (below_alloc _ _).trans ((below_alloc _ _).mono (by simp))
      have TC : Hid (TkAt w w1 rb 1 (.slice la1 1 d1) [.int .u64 (x0 : Int), .slice none 0 0, .slice none 0 0] wc) := Lib.hid (TB1.out.next HRB.out.2 hbc)
      have HY : Hid (Yields wc (.slice (some ⟨wb1.heap.size + 1, 0, none⟩) 1 1) 1 3 [.int .u64 (x1 : Int), .slice none 0 0, .slice none 0 0]) := Lib.hid ⟨rfl, fun u hu => by
        simp at hu
        rcases hu with rfl | rfl | rfl <;> rfl, .inr ⟨_, _, rfl, fun i u hi => by rw [hwc]; exact three_new (w := wb1.alloc _) (by simp) i u hi⟩⟩
      have HWC := Lib.hid hwc
      clear hq1 hm1 hd1 hk2 hval hwc hbc
      go_wp2_with (at_builtin; rw [← HWC.out]; refine wpList_append_any _ rfl (.tmp 52) (.tmp 54) 130 rfl w1.heap.size 132 iv (.agg #[.int .u64 0, .slice none 0 0, .slice none 0 0]) 3 56 Tryz.underlying130 hiv hiv0 hiv1 hiv2 rfl (by decide) _ 1 [.int .u64 (x0 : Int), .slice none 0 0, .slice none 0 0] rfl TC.out.own _ rfl 1 [.int .u64 (x1 : Int), .slice none 0 0, .slice none 0 0] HY.out (by unfold maxLen; omega) (by omega) TC.out.size ?_)
      intro lv2 wd2 happ
      have hpush := TC.out.push HRB.out.2 HRB.out.1 happ
      have hgv := (happ.2.1.block (w.heap.size + 1) (lt_of_heap TC.out.val) (fun e => by have := (TC.out.own.lt _ e.symm).1; have := HRB.out; omega)).trans TC.out.val
      obtain ⟨-, -, v2, -, -, vf2, vz⟩ := block3 hgv
      obtain ⟨la2, d2, hlv⟩ := owned_slice hpush.own
      subst hlv
      clear vc2 vd2 cz happ hgv
      go_wp2_with fail
      obtain ⟨wa2, hwa⟩ : ∃ wa, wa = wd2.setCell ⟨w.heap.size + 1, 2, none⟩ (.slice la2 2 d2) := ⟨_, rfl⟩
      have T2 : Hid (TkAt w w1 rb 2 (.slice la2 2 d2) [.int .u64 (x0 : Int), .slice none 0 0, .slice none 0 0, .int .u64 (x1 : Int), .slice none 0 0, .slice none 0 0] wa2) := Lib.hid (by rw [hwa]; exact hpush)
      rw [← hwa]
      clear hwa hpush v2 vf2 vz
      rw [rounds_succ]
      have ej : wa2.cell? ⟨rb, 2, none⟩ = some (.string ⟨#[98]⟩) := (World.cell?_of_block (a := ⟨rb, 2, none⟩) T2.out.row).trans R2.out
      have ez : rb < wa2.heap.size := Nat.lt_of_lt_of_le HRB.out.2 T2.out.size
      go_wp2_with fail
      refine (TakeB_any L (fun b => b < wa2.heap.size) _ k2 wa2 (HV.out.same (fun b hb => Nat.lt_of_lt_of_le (HF.out b hb) T2.out.below.size) fun b hb => T2.out.below.block b (HF.out b hb)) (fun _ h => h) HLN.out HKL2.out).mono ?_
      rintro e wb2 ⟨hb2, hp2⟩
      have TB2 := Lib.hid (T2.out.next HRB.out.2 hb2)
      have hbz2 := Lib.hid hb2
      clear ej ez hb2
      cases hq2 : takeB (L.drop k2) with
      | error c =>
        have hc := takeB_fair hq2
        rw [hq2] at hp2
        obtain ⟨z, rfl⟩ := hp2
        have H3 : Hid (snParts (L.drop k) = .error c) := Lib.hid (by unfold snParts; rw [← HK0.out, HQ0.out]; simp only; rw [show r0 = L.drop k1 from HD0.out.symm, HQ1.out]; simp only; rw [show r1 = L.drop k2 from HD1.out.symm, hq2])
        obtain ⟨c0, c1, c2, f0, f1, f2, cz⟩ := block3 TB2.out.res
        clear hq2
        go_wp2_with fail
        refine bodyPost_ret (v := .tuple #[.agg #[.int .u64 0, .slice none 0 0, .slice none 0 0], .int .i64 (k2 : Int), .int .i64 c]) (by simp [results, Tryz.results76, go_sem, c0, c1, c2, cz]) rfl ?_
        refine ⟨by
          first
            | exact (((TB2.out.below.alloc (TB2.out.below.size) _).setCell (by simp) _).setCell (by simp) _).setCell (by simp) _
            | exact (((TB2.out.below.setCell (by simp) _).setCell (by simp) _).setCell (by simp) _).alloc (by simpa using TB2.out.below.size) _, ?_⟩
        rw [H3.out]
        exact ⟨_, rfl⟩
      | ok p2 =>
        obtain ⟨c2, r2⟩ := p2
        obtain ⟨hm2, hd2⟩ := takeB_drop hq2
        obtain ⟨k3, hk3⟩ : ∃ q, q = L.length - r2.length := ⟨_, rfl⟩
        rw [hq2] at hp2
        obtain ⟨u2, rfl, hr2⟩ := hp2
        rw [← hk3]
        obtain ⟨a2, e2, rfl, -⟩ := hr2.slice
        have TR2 : Hid (RepB wb2 (Apt w wb2 (.slice la2 2 d2)) c2 (.slice a2 c2.length e2)) := Lib.hid (apt_new T2.out HW2.out hr2)
        have HCZ2 := Lib.hid hm2
        clear hr2
        have HQ2 : Hid (takeB (L.drop k2) = .ok (c2, r2)) := Lib.hid hq2
        rw [List.length_drop] at hm2 hd2
        have HD2 : Hid (L.drop k3 = r2) := Lib.hid (by
          rw [List.drop_drop] at hd2
          have := HKL2.out
          rw [hk3, show L.length - r2.length = k2 + (L.length - k2 - r2.length) by omega]
          exact hd2)
        have HKK2 := Lib.hid hk3
        have HKL3 : Hid (k3 ≤ L.length) := Lib.hid (by omega)
        have hval := TB2.out.val
        obtain ⟨-, -, vc2, -, -, vd2, cz⟩ := block3 hval
        obtain ⟨wc, hwc⟩ : ∃ wc, wc = (wb2.alloc (.cells #[.int .u64 0, .slice a2 c2.length e2, .slice none 0 0] 132)).alloc (.cells #[.int .u64 0, .slice a2 c2.length e2, .slice none 0 0] 132) := ⟨_, rfl⟩
        have hbc : Below wb2.heap.size wb2 wc := by rw [hwc]; exact (below_alloc _ _).trans ((below_alloc _ _).mono (by simp))
        have TC : Hid (TkAt w w1 rb 2 (.slice la2 2 d2) [.int .u64 (x0 : Int), .slice none 0 0, .slice none 0 0, .int .u64 (x1 : Int), .slice none 0 0, .slice none 0 0] wc) := Lib.hid (TB2.out.next HRB.out.2 hbc)
        have TS2 := Lib.hid (apt_next TR2.out hbc)
        have HY : Hid (Yields wc (.slice (some ⟨wb2.heap.size + 1, 0, none⟩) 1 1) 1 3 [.int .u64 0, .slice a2 c2.length e2, .slice none 0 0]) := Lib.hid ⟨rfl, fun u hu => by
          simp at hu
          rcases hu with rfl | rfl | rfl <;> rfl, .inr ⟨_, _, rfl, fun i u hi => by rw [hwc]; exact three_new (w := wb2.alloc _) (by simp) i u hi⟩⟩
        have HWC := Lib.hid hwc
        clear hq2 hm2 hd2 hk3 hval hwc hbc
        go_wp2_with (at_builtin; rw [← HWC.out]; refine wpList_append_any _ rfl (.tmp 52) (.tmp 54) 130 rfl w1.heap.size 132 iv (.agg #[.int .u64 0, .slice none 0 0, .slice none 0 0]) 3 56 Tryz.underlying130 hiv hiv0 hiv1 hiv2 rfl (by decide) _ 2 [.int .u64 (x0 : Int), .slice none 0 0, .slice none 0 0, .int .u64 (x1 : Int), .slice none 0 0, .slice none 0 0] rfl TC.out.own _ rfl 1 [.int .u64 0, .slice a2 c2.length e2, .slice none 0 0] HY.out (by unfold maxLen; omega) (by omega) TC.out.size ?_)
        intro lv3 wd3 happ
        have hpush := TC.out.push HRB.out.2 HRB.out.1 happ
        have hapt2 := apt_push TC.out TS2.out happ
        have hgv := (happ.2.1.block (w.heap.size + 1) (lt_of_heap TC.out.val) (fun e => by have := (TC.out.own.lt _ e.symm).1; have := HRB.out; omega)).trans TC.out.val
        obtain ⟨-, -, v2, -, -, vf2, vz⟩ := block3 hgv
        obtain ⟨la3, d3, hlv⟩ := owned_slice hpush.own
        subst hlv
        clear vc2 vd2 cz happ hgv
        go_wp2_with fail
        obtain ⟨wa3, hwa⟩ : ∃ wa, wa = wd3.setCell ⟨w.heap.size + 1, 2, none⟩ (.slice la3 3 d3) := ⟨_, rfl⟩
        have T3 : Hid (TkAt w w1 rb 3 (.slice la3 3 d3) [.int .u64 (x0 : Int), .slice none 0 0, .slice none 0 0, .int .u64 (x1 : Int), .slice none 0 0, .slice none 0 0, .int .u64 0, .slice a2 c2.length e2, .slice none 0 0] wa3) := Lib.hid (by rw [hwa]; exact hpush)
        have HR2 : Hid (RepB wa3 (Apt w wa3 (.slice la3 3 d3)) c2 (.slice a2 c2.length e2)) := Lib.hid (by rw [hwa]; exact hapt2)
        rw [← hwa]
        clear hwa hpush v2 vf2 vz hapt2
        rw [rounds_succ]
        have ej : wa3.cell? ⟨rb, 3, none⟩ = some (.string ⟨#[98]⟩) := (World.cell?_of_block (a := ⟨rb, 3, none⟩) T3.out.row).trans R3.out
        have ez : rb < wa3.heap.size := Nat.lt_of_lt_of_le HRB.out.2 T3.out.size
        go_wp2_with fail
        refine (TakeB_any L (fun b => b < wa3.heap.size) _ k3 wa3 (HV.out.same (fun b hb => Nat.lt_of_lt_of_le (HF.out b hb) T3.out.below.size) fun b hb => T3.out.below.block b (HF.out b hb)) (fun _ h => h) HLN.out HKL3.out).mono ?_
        rintro e wb3 ⟨hb3, hp3⟩
        have TB3 := Lib.hid (T3.out.next HRB.out.2 hb3)
        have TR2 := Lib.hid (apt_next HR2.out hb3)
        have hbz3 := Lib.hid hb3
        clear ej ez hb3
        cases hq3 : takeB (L.drop k3) with
        | error c =>
          have hc := takeB_fair hq3
          rw [hq3] at hp3
          obtain ⟨z, rfl⟩ := hp3
          have H3 : Hid (snParts (L.drop k) = .error c) := Lib.hid (by unfold snParts; rw [← HK0.out, HQ0.out]; simp only; rw [show r0 = L.drop k1 from HD0.out.symm, HQ1.out]; simp only; rw [show r1 = L.drop k2 from HD1.out.symm, HQ2.out]; simp only; rw [show r2 = L.drop k3 from HD2.out.symm, hq3])
          obtain ⟨c0, c1, c2, f0, f1, f2, cz⟩ := block3 TB3.out.res
          clear hq3
          go_wp2_with fail
          refine bodyPost_ret (v := .tuple #[.agg #[.int .u64 0, .slice none 0 0, .slice none 0 0], .int .i64 (k3 : Int), .int .i64 c]) (by simp [results, Tryz.results76, go_sem, c0, c1, c2, cz]) rfl ?_
          refine ⟨by
            first
              | exact (((TB3.out.below.alloc (TB3.out.below.size) _).setCell (by simp) _).setCell (by simp) _).setCell (by simp) _
              | exact (((TB3.out.below.setCell (by simp) _).setCell (by simp) _).setCell (by simp) _).alloc (by simpa using TB3.out.below.size) _, ?_⟩
          rw [H3.out]
          exact ⟨_, rfl⟩
        | ok p3 =>
          obtain ⟨c3, r3⟩ := p3
          obtain ⟨hm3, hd3⟩ := takeB_drop hq3
          obtain ⟨k4, hk4⟩ : ∃ q, q = L.length - r3.length := ⟨_, rfl⟩
          rw [hq3] at hp3
          obtain ⟨u3, rfl, hr3⟩ := hp3
          rw [← hk4]
          obtain ⟨a3, e3, rfl, -⟩ := hr3.slice
          have TR3 : Hid (RepB wb3 (Apt w wb3 (.slice la3 3 d3)) c3 (.slice a3 c3.length e3)) := Lib.hid (apt_new T3.out HW2.out hr3)
          have HCZ3 := Lib.hid hm3
          clear hr3
          have HQ3 : Hid (takeB (L.drop k3) = .ok (c3, r3)) := Lib.hid hq3
          rw [List.length_drop] at hm3 hd3
          have HD3 : Hid (L.drop k4 = r3) := Lib.hid (by
            rw [List.drop_drop] at hd3
            have := HKL3.out
            rw [hk4, show L.length - r3.length = k3 + (L.length - k3 - r3.length) by omega]
            exact hd3)
          have HKK3 := Lib.hid hk4
          have HKL4 : Hid (k4 ≤ L.length) := Lib.hid (by omega)
          have hval := TB3.out.val
          obtain ⟨-, -, vc2, -, -, vd2, cz⟩ := block3 hval
          obtain ⟨wc, hwc⟩ : ∃ wc, wc = (wb3.alloc (.cells #[.int .u64 0, .slice a3 c3.length e3, .slice none 0 0] 132)).alloc (.cells #[.int .u64 0, .slice a3 c3.length e3, .slice none 0 0] 132) := ⟨_, rfl⟩
          have hbc : Below wb3.heap.size wb3 wc := by rw [hwc]; exact (below_alloc _ _).trans ((below_alloc _ _).mono (by simp))
          have TC : Hid (TkAt w w1 rb 3 (.slice la3 3 d3) [.int .u64 (x0 : Int), .slice none 0 0, .slice none 0 0, .int .u64 (x1 : Int), .slice none 0 0, .slice none 0 0, .int .u64 0, .slice a2 c2.length e2, .slice none 0 0] wc) := Lib.hid (TB3.out.next HRB.out.2 hbc)
          have TS2 := Lib.hid (apt_next TR2.out hbc)
          have TS3 := Lib.hid (apt_next TR3.out hbc)
          have HY : Hid (Yields wc (.slice (some ⟨wb3.heap.size + 1, 0, none⟩) 1 1) 1 3 [.int .u64 0, .slice a3 c3.length e3, .slice none 0 0]) := Lib.hid ⟨rfl, fun u hu => by
            simp at hu
            rcases hu with rfl | rfl | rfl <;> rfl, .inr ⟨_, _, rfl, fun i u hi => by rw [hwc]; exact three_new (w := wb3.alloc _) (by simp) i u hi⟩⟩
          have HWC := Lib.hid hwc
          clear hq3 hm3 hd3 hk4 hval hwc hbc
          go_wp2_with (at_builtin; rw [← HWC.out]; refine wpList_append_any _ rfl (.tmp 52) (.tmp 54) 130 rfl w1.heap.size 132 iv (.agg #[.int .u64 0, .slice none 0 0, .slice none 0 0]) 3 56 Tryz.underlying130 hiv hiv0 hiv1 hiv2 rfl (by decide) _ 3 [.int .u64 (x0 : Int), .slice none 0 0, .slice none 0 0, .int .u64 (x1 : Int), .slice none 0 0, .slice none 0 0, .int .u64 0, .slice a2 c2.length e2, .slice none 0 0] rfl TC.out.own _ rfl 1 [.int .u64 0, .slice a3 c3.length e3, .slice none 0 0] HY.out (by unfold maxLen; omega) (by omega) TC.out.size ?_)
          intro lv4 wd4 happ
          have hpush := TC.out.push HRB.out.2 HRB.out.1 happ
          have hapt2 := apt_push TC.out TS2.out happ
          have hapt3 := apt_push TC.out TS3.out happ
          have hgv := (happ.2.1.block (w.heap.size + 1) (lt_of_heap TC.out.val) (fun e => by have := (TC.out.own.lt _ e.symm).1; have := HRB.out; omega)).trans TC.out.val
          obtain ⟨-, -, v2, -, -, vf2, vz⟩ := block3 hgv
          obtain ⟨la4, d4, hlv⟩ := owned_slice hpush.own
          subst hlv
          clear vc2 vd2 cz happ hgv
          go_wp2_with fail
          obtain ⟨wa4, hwa⟩ : ∃ wa, wa = wd4.setCell ⟨w.heap.size + 1, 2, none⟩ (.slice la4 4 d4) := ⟨_, rfl⟩
          have T4 : Hid (TkAt w w1 rb 4 (.slice la4 4 d4) [.int .u64 (x0 : Int), .slice none 0 0, .slice none 0 0, .int .u64 (x1 : Int), .slice none 0 0, .slice none 0 0, .int .u64 0, .slice a2 c2.length e2, .slice none 0 0, .int .u64 0, .slice a3 c3.length e3, .slice none 0 0] wa4) := Lib.hid (by rw [hwa]; exact hpush)
          have HR2 : Hid (RepB wa4 (Apt w wa4 (.slice la4 4 d4)) c2 (.slice a2 c2.length e2)) := Lib.hid (by rw [hwa]; exact hapt2)
          have HR3 : Hid (RepB wa4 (Apt w wa4 (.slice la4 4 d4)) c3 (.slice a3 c3.length e3)) := Lib.hid (by rw [hwa]; exact hapt3)
          rw [← hwa]
          clear hwa hpush v2 vf2 vz hapt2 hapt3
          rw [rounds_succ]
          have H3 : Hid (snParts (L.drop k) = .ok ((x0, x1, c2, c3), r3)) := Lib.hid (by
            unfold snParts
            rw [← HK0.out, HQ0.out]
            simp only
            rw [show r0 = L.drop k1 from HD0.out.symm, HQ1.out]
            simp only
            rw [show r1 = L.drop k2 from HD1.out.symm, HQ2.out]
            simp only
            rw [show r2 = L.drop k3 from HD2.out.symm, HQ3.out])
          obtain ⟨g, hg, hgz, h0, h1, h2, h3⟩ : ∃ g, la4 = some ⟨g, 0, none⟩ ∧ (w1.heap.size ≤ g ∧ g < wa4.heap.size) ∧ wa4.cell? ⟨g, 0, none⟩ = some (.int .u64 (x0 : Int)) ∧ wa4.cell? ⟨g, 3, none⟩ = some (.int .u64 (x1 : Int)) ∧ wa4.cell? ⟨g, 7, none⟩ = some (.slice a2 c2.length e2) ∧ wa4.cell? ⟨g, 10, none⟩ = some (.slice a3 c3.length e3) := by
            have ho := T4.out.own
            rcases ho.2 with ⟨-, h⟩ | ⟨g, cap, cur, hv, hgb, hcur, hn, hm, hs, ht⟩
            · cases h
            · cases hv
              have hc := fun j => cell_of_row wa4 g j _ _ _ hcur
              have hget : ∀ j x, j < 12 → ([.int .u64 (x0 : Int), .slice none 0 0, .slice none 0 0, .int .u64 (x1 : Int), .slice none 0 0, .slice none 0 0, .int .u64 0, .slice a2 c2.length e2, .slice none 0 0, .int .u64 0, .slice a3 c3.length e3, .slice none 0 0] : List Value)[j]? = some x → wa4.cell? ⟨g, j, none⟩ = some x := fun j x hj hx => by
                rw [hc j, ← hx, ← ht, List.getElem?_take, if_pos (by omega), Array.getElem?_toList]
              exact ⟨g, rfl, ⟨hgb, lt_of_heap hcur⟩, hget 0 _ (by omega) rfl, hget 3 _ (by omega) rfl, hget 7 _ (by omega) rfl, hget 10 _ (by omega) rfl⟩
          subst hg
          obtain ⟨z0, z1, z2, f0, f1, f2, cz⟩ := block3 T4.out.res
          obtain ⟨v0, v1, v2, -, -, -, vz⟩ := block3 T4.out.val
          go_wp2_with fail
          refine bodyPost_ret (v := .tuple #[.agg #[.int .u64 0, .slice none 0 0, .slice (some ⟨g, 0, none⟩) 4 d4], .int .i64 (k4 : Int), .int .i64 0]) (by simp [results, Tryz.results76, go_sem, z0, z1, z2, cz]) rfl ?_
          refine ⟨((T4.out.below.setCell (by simp) _).setCell (by simp) _).setCell (by simp) _, ?_⟩
          rw [H3.out]
          have hne : g ≠ w.heap.size := by have := HW2.out; omega
          have hst : ∀ i, i ≠ w.heap.size → (((wa4.setCell ⟨w.heap.size, 0, none⟩ (.int .u64 0)).setCell ⟨w.heap.size, 1, none⟩ (.slice none 0 0)).setCell ⟨w.heap.size, 2, none⟩ (.slice (some ⟨g, 0, none⟩) 4 d4)).heap[i]? = wa4.heap[i]? := fun i hi => by
            rw [Below.heap_setCell _ _ _ _ (by simpa using hi), Below.heap_setCell _ _ _ _ (by simpa using hi), Below.heap_setCell _ _ _ _ (by simpa using hi)]
          have hcl := fun o => World.cell?_of_block (w := wa4) (a := ⟨g, o, none⟩) (hst g hne)
          have hre : ∀ (L' : List UInt8) (u : Value), RepB wa4 (Apt w wa4 (.slice (some ⟨g, 0, none⟩) 4 d4)) L' u → RepB (((wa4.setCell ⟨w.heap.size, 0, none⟩ (.int .u64 0)).setCell ⟨w.heap.size, 1, none⟩ (.slice none 0 0)).setCell ⟨w.heap.size, 2, none⟩ (.slice (some ⟨g, 0, none⟩) 4 d4)) (fun j => w.heap.size ≤ j ∧ j < (((wa4.setCell ⟨w.heap.size, 0, none⟩ (.int .u64 0)).setCell ⟨w.heap.size, 1, none⟩ (.slice none 0 0)).setCell ⟨w.heap.size, 2, none⟩ (.slice (some ⟨g, 0, none⟩) 4 d4)).heap.size) L' u := fun L' u hr =>
            hr.same (fun j hj => ⟨by have := hj.1; omega, by simpa using hj.2.1⟩) fun j hj => hst j (by have := hj.1; omega)
          exact ⟨g, d4, _, _, by rw [HKK3.out], ⟨by have := HW2.out; omega, by simpa using hgz.2⟩, ⟨(hcl _).trans h0, (hcl _).trans h1, (hcl _).trans h2, (hcl _).trans h3⟩, hre _ _ HR2.out, hre _ _ HR3.out⟩
end Go.Proofs.YtbcpcopapbgcdaaGreatDoor.M
