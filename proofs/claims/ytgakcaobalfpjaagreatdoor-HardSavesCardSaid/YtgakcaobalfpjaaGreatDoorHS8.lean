/- The document's Take of a number, and of a row of three. Package hard: Follows, none. Package hard: a sum as four bytes; a slot's bytes. The program's disk in a law's own memory; the document's examples. Arrays of four bytes compared. Package hard: a slot read. -/
import Derived.Test.YtgakcaobalfpjaaGreatDoorHS7
import Derived.LoopN
import Derived.Test.YtgakcaobalfpjaaGreatDoorHS2
import Derived.Test.YtgakcaobalfpjaaGreatDoorHS1
import Derived.Test.YtgakcaobalfpjaaGreatDoorHS3
import Derived.ChangeKeysEq
import Derived.Laws.Cover3
import Derived.Deep.QuietTactic
/- Part: Hard4. -/
namespace Go.Proofs.YtgakcaobalfpjaaGreatDoor.M
open Go.RowKit

def nilS : Value := .slice none 0 0

/-- What Take of a number answers. -/
def takeN (L : List UInt8) (k : Nat) : Value :=
  match takeNum (L.drop k) with
  | .error c => .tuple #[.agg #[.int .u64 0, .slice none 0 0, .slice none 0 0], .int .i64 (k : Int), .int .i64 c]
  | .ok (n, r) => .tuple #[.agg #[.int .u64 (n : Int), .slice none 0 0, .slice none 0 0], .int .i64 ((L.length - r.length : Nat) : Int), .int .i64 0]

theorem takeNum_fair {b : List UInt8} {e : Int} (h : takeNum b = .error e) : (e != 0) = true := by
  cases b with
  | nil => rw [takeNum] at h; cases h; rfl
  | cons c r =>
    rw [takeNum] at h
    split at h
    · cases h; rfl
    · split at h
      · cases h; rfl
      · split at h
        · cases h; rfl
        · cases h

set_option maxRecDepth 20000 in
set_option maxHeartbeats 1600000 in
theorem TakeN_any (L : List UInt8) (F : Nat → Prop) (v : Value) (k : Nat) (w : World) (hv : RepB w F L v) (hF : ∀ b, F b → b < w.heap.size) (hL : L.length ≤ 1099511627776) (hk : k ≤ L.length) :
    Calls Tryz.prog 90 #[.string ⟨#[110]⟩, v, .int .i64 (k : Int)] w fun e w' => e = .returned (takeN L k) ∧ Below w.heap.size w w' := by
  obtain ⟨W, hW⟩ : ∃ W, W = (w.alloc (.cells #[.int .u64 0, .slice none 0 0, .slice none 0 0] 149)).alloc (.cells #[.int .u64 0, .slice none 0 0, .slice none 0 0] 149) := ⟨_, rfl⟩
  have HB : Hid (Below w.heap.size w W) := Lib.hid (by rw [hW]; exact ((Below.refl _ w).alloc (Nat.le_refl _) _).alloc (by simp) _)
  have hx0 : W.heap[w.heap.size]? = some (.cells #[.int .u64 0, .slice none 0 0, .slice none 0 0] 149) := by rw [hW]; exact old_alloc (heap_new _ _ _ rfl)
  have hx1 : W.heap[w.heap.size + 1]? = some (.cells #[.int .u64 0, .slice none 0 0, .slice none 0 0] 149) := by rw [hW]; exact heap_new _ _ _ (by simp)
  have HN := Lib.hid (RefNum_any L F v k W (hv.same (fun _ h => h) fun b hb => HB.out.block b (hF b hb)) hL hk)
  have HW := Lib.hid hW
  obtain ⟨c0, c1, c2, f0, f1, f2, cz⟩ := block3 hx0
  obtain ⟨d0, d1, d2, g0, g1, g2, dz⟩ := block3 hx1
  obtain ⟨va, vc, rfl, -⟩ := hv.slice
  clear hW hx0 hx1 hv hF
  go_enter Tryz.func90, Tryz.ntmps90
  go_wp2_with fail
  rw [← HW.out]
  refine HN.out.mono ?_
  rintro e w1 ⟨rfl, rfl⟩
  cases hq : takeNum (L.drop k) with
  | error c =>
    rw [numR_err hq]
    have hc := takeNum_fair hq
    have HT : Hid (takeN L k = .tuple #[.agg #[.int .u64 0, .slice none 0 0, .slice none 0 0], .int .i64 (k : Int), .int .i64 c]) := Lib.hid (by unfold takeN; rw [hq])
    clear hq
    go_wp2_with fail
    refine bodyPost_ret (v := .tuple #[.agg #[.int .u64 0, .slice none 0 0, .slice none 0 0], .int .i64 (k : Int), .int .i64 c]) (by simp [results, Tryz.results90, go_sem, c0, c1, c2, cz]) rfl ?_
    rw [HT.out]
    exact ⟨rfl, ((HB.out.setCell (by simp) _).setCell (by simp) _).setCell (by simp) _⟩
  | ok p =>
    obtain ⟨n, r⟩ := p
    rw [numR_ok hq]
    have HT : Hid (takeN L k = .tuple #[.agg #[.int .u64 (n : Int), .slice none 0 0, .slice none 0 0], .int .i64 ((L.length - r.length : Nat) : Int), .int .i64 0]) := Lib.hid (by unfold takeN; rw [hq])
    obtain ⟨m, hm⟩ : ∃ m, m = L.length - r.length := ⟨_, rfl⟩
    rw [← hm] at HT ⊢
    clear hq hm
    go_wp2_with fail
    refine bodyPost_ret (v := .tuple #[.agg #[.int .u64 (n : Int), .slice none 0 0, .slice none 0 0], .int .i64 (m : Int), .int .i64 0]) (by simp [results, Tryz.results90, go_sem, c0, c1, c2, cz]) rfl ?_
    rw [HT.out]
    exact ⟨rfl, by
      first
        | exact ((((HB.out.setCell (by simp) _).setCell (by simp) _).setCell (by simp) _).setCell (by simp) _)⟩

theorem fits_row : Fits 1 [[110], [110], [110]] [.num, .num, .num] := by
  have one : Exact 1 [110] .num := fun r => rfl
  exact ⟨_, _, rfl, one, _, _, rfl, one, _, _, rfl, one, rfl⟩

theorem takeNum_drop {b r : List UInt8} {n : Nat} (h : takeNum b = .ok (n, r)) : n < 18446744073709551616 ∧ r.length ≤ b.length ∧ b.drop (b.length - r.length) = r := by
  cases b with
  | nil => rw [takeNum] at h; cases h
  | cons c q =>
    rw [takeNum] at h
    split at h
    · cases h
    · rename_i h8
      split at h
      · cases h
      · split at h
        · cases h
        · rename_i hl
          cases h
          have hlt := nf_lt q c.toNat
          have h256 : 256 ^ c.toNat ≤ 256 ^ 8 := Nat.pow_le_pow_right (by omega) (by omega)
          refine ⟨?_, by simp; omega, ?_⟩
          · unfold nf at hlt
            exact Nat.lt_of_lt_of_le hlt h256
          · rw [List.length_drop, List.length_cons, show q.length + 1 - (q.length - c.toNat) = c.toNat + 1 by omega]
            rfl

/-- The state between two numbers. -/
structure TkAt (w w1 : World) (rb j : Nat) (lv : Value) (xs : List Value) (wr : World) : Prop where
  below : Below w.heap.size w wr
  size : w1.heap.size ≤ wr.heap.size
  res : wr.heap[w.heap.size]? = some (.cells #[.int .u64 0, .slice none 0 0, .slice none 0 0] 149)
  val : wr.heap[w.heap.size + 1]? = some (.cells #[.int .u64 0, .slice none 0 0, lv] 149)
  row : wr.heap[rb]? = w1.heap[rb]?
  own : wr.ownsRow w1.heap.size 149 3 lv j xs

theorem TkAt.next {w w1 wr w' : World} {rb j : Nat} {lv : Value} {xs : List Value} (h : TkAt w w1 rb j lv xs wr) (hr : rb < w1.heap.size) (hb : Below wr.heap.size wr w') : TkAt w w1 rb j lv xs w' :=
  ⟨h.below.trans (hb.mono h.below.size), Nat.le_trans h.size hb.size, old_below h.res hb, old_below h.val hb, (hb.block rb (Nat.lt_of_lt_of_le hr h.size)).trans h.row, h.own.kept (grown_of_below hb) (by cases lv.ownBlock <;> simp)⟩

theorem TkAt.push {w w1 wr w' : World} {rb j : Nat} {lv lv' x y z : Value} {xs : List Value} (h : TkAt w w1 rb j lv xs wr) (hr : rb < w1.heap.size) (hrb : w.heap.size + 2 ≤ rb)
    (ha : AppLeft wr w1.heap.size 149 3 lv j 1 xs [x, y, z] lv' w') : TkAt w w1 rb (j + 1) lv' (xs ++ [x, y, z]) (w'.setCell ⟨w.heap.size + 1, 2, none⟩ lv') := by
  obtain ⟨ho, hg, -⟩ := ha
  have old : ∀ k, k < w1.heap.size → w'.heap[k]? = wr.heap[k]? := fun k hk => hg.block k (Nat.lt_of_lt_of_le hk h.size) fun e => by
    have := (h.own.lt k e.symm).1
    omega
  have hv : w'.heap[w.heap.size + 1]? = some (.cells #[.int .u64 0, .slice none 0 0, lv] 149) := (old _ (by omega)).trans h.val
  refine ⟨⟨hg.os.trans h.below.os, hg.tape.trans h.below.tape, hg.output.trans h.below.output, ?_, fun k hk => ?_⟩, ?_, ?_, ?_, ?_, ?_⟩
  · rw [World.size_setCell]; exact Nat.le_trans h.below.size hg.size
  · rw [Below.heap_setCell _ _ _ _ (by simp; omega), old k (by omega)]
    exact h.below.block k hk
  · rw [World.size_setCell]; exact Nat.le_trans h.size hg.size
  · rw [Below.heap_setCell _ _ _ _ (by simp), old _ (by omega)]
    exact h.res
  · simp [World.setCell, Array.getElem?_modify, hv]
  · rw [Below.heap_setCell _ _ _ _ (by simp; omega), old _ hr]
    exact h.row
  · exact ownsRow_setCell_below ho (by simp; omega) _

/-- What Take of a row of three numbers leaves. -/
def Take3Post (L : List UInt8) (k : Nat) (w : World) (e : Ending) (w' : World) : Prop :=
  Below w.heap.size w w' ∧ match three (L.drop k) with
  | .error c => ∃ z : Int, e = .returned (.tuple #[.agg #[.int .u64 0, .slice none 0 0, .slice none 0 0], .int .i64 z, .int .i64 c])
  | .ok ((x, y, z), r) => ∃ g c, e = .returned (.tuple #[.agg #[.int .u64 0, .slice none 0 0, .slice (some ⟨g, 0, none⟩) 3 c], .int .i64 ((L.length - r.length : Nat) : Int), .int .i64 0]) ∧ g < w'.heap.size ∧
      w'.cell? ⟨g, 0, none⟩ = some (.int .u64 (x : Int)) ∧ w'.cell? ⟨g, 3, none⟩ = some (.int .u64 (y : Int)) ∧ w'.cell? ⟨g, 6, none⟩ = some (.int .u64 (z : Int))

set_option maxRecDepth 20000 in
set_option maxHeartbeats 3200000 in
theorem TakeRow_any (L : List UInt8) (F : Nat → Prop) (v : Value) (k : Nat) (w : World) (hv : RepB w F L v) (hF : ∀ b, F b → b < w.heap.size) (hL : L.length ≤ 1099511627776) (hk : k ≤ L.length) :
    Calls Tryz.prog 90 #[.string ⟨#[91, 110, 110, 110, 93]⟩, v, .int .i64 (k : Int)] w (Take3Post L k w) := by
  obtain ⟨W, hW⟩ : ∃ W, W = (w.alloc (.cells #[.int .u64 0, .slice none 0 0, .slice none 0 0] 149)).alloc (.cells #[.int .u64 0, .slice none 0 0, .slice none 0 0] 149) := ⟨_, rfl⟩
  have HB : Hid (Below w.heap.size w W) := Lib.hid (by rw [hW]; exact ((Below.refl _ w).alloc (Nat.le_refl _) _).alloc (by simp) _)
  have hx0 : W.heap[w.heap.size]? = some (.cells #[.int .u64 0, .slice none 0 0, .slice none 0 0] 149) := by rw [hW]; exact old_alloc (heap_new _ _ _ rfl)
  have hx1 : W.heap[w.heap.size + 1]? = some (.cells #[.int .u64 0, .slice none 0 0, .slice none 0 0] 149) := by rw [hW]; exact heap_new _ _ _ (by simp)
  have HX0 := Lib.hid hx0
  have HX1 := Lib.hid hx1
  have HW := Lib.hid hW
  have HV := Lib.hid hv
  have HF := Lib.hid hF
  obtain ⟨va, vc, rfl, -⟩ := hv.slice
  clear hW hx0 hx1 hv hF
  go_enter Tryz.func90, Tryz.ntmps90
  go_wp2_with fail
  rw [← HW.out]
  refine (rows_any ⟨#[91, 110, 110, 110, 93]⟩ 1 [[110], [110], [110]] [.num, .num, .num] W (by decide) rfl fits_row (by omega)).mono ?_
  rintro e w1 ⟨u, rfl, hb1, hown⟩
  have hsz1 := hb1.size
  have hszW : w.heap.size + 2 = W.heap.size := by rw [HW.out]; simp
  obtain ⟨rb, rc, rfl, hrb, hrz, r0⟩ := owned_str hown rfl 0 (by decide)
  obtain ⟨_, _, he1, -, -, r1⟩ := owned_str hown rfl 1 (by decide)
  cases he1
  obtain ⟨_, _, he2, -, -, r2⟩ := owned_str hown rfl 2 (by decide)
  cases he2
  replace r0 : w1.cell? ⟨rb, 0, none⟩ = some (.string ⟨#[110]⟩) := r0
  replace r1 : w1.cell? ⟨rb, 1, none⟩ = some (.string ⟨#[110]⟩) := r1
  replace r2 : w1.cell? ⟨rb, 2, none⟩ = some (.string ⟨#[110]⟩) := r2
  have R0 := Lib.hid r0
  have R1 := Lib.hid r1
  have R2 := Lib.hid r2
  have HRB : Hid (w.heap.size + 2 ≤ rb ∧ rb < w1.heap.size) := Lib.hid ⟨by omega, hrz⟩
  have T0 : Hid (TkAt w w1 rb 0 (.slice none 0 0) [] w1) := Lib.hid ⟨HB.out.trans (hb1.mono HB.out.size), Nat.le_refl _, old_below HX0.out hb1, old_below HX1.out hb1, rfl, World.ownsRow_nil _ _ _ _⟩
  have HLN := Lib.hid hL
  obtain ⟨iv, hiv, hiv0, hiv1, hiv2⟩ := info_parts infoVal
  obtain ⟨k0, hk0⟩ : ∃ k0, k0 = k := ⟨_, rfl⟩
  have HK0 := Lib.hid hk0
  rw [← hk0]
  have hkl0 : k0 ≤ L.length := by rw [hk0]; exact hk
  obtain ⟨wa0, hwa0⟩ : ∃ wa0, wa0 = w1 := ⟨_, rfl⟩
  have HWA := Lib.hid hwa0
  rw [← hwa0]
  have T0 : Hid (TkAt w w1 rb 0 (.slice none 0 0) [] wa0) := by rw [hwa0]; exact T0
  clear r0 r1 r2 hown hb1 hrb hrz hk0 hk hwa0 hsz1 hszW
  go_wp2_with fail
  refine wp_loop_rounds 4 ?_
  rw [rounds_succ]
  have ej : wa0.cell? ⟨rb, 0, none⟩ = some (.string ⟨#[110]⟩) := (World.cell?_of_block (a := ⟨rb, 0, none⟩) T0.out.row).trans R0.out
  have ez : rb < wa0.heap.size := Nat.lt_of_lt_of_le HRB.out.2 T0.out.size
  go_wp2_with fail
  refine (TakeN_any L (fun b => b < wa0.heap.size) _ k0 wa0 (HV.out.same (fun b hb => Nat.lt_of_lt_of_le (HF.out b hb) T0.out.below.size) fun b hb => T0.out.below.block b (HF.out b hb)) (fun _ h => h) HLN.out hkl0).mono ?_
  rintro e wb0 ⟨rfl, hb0⟩
  have TB0 := Lib.hid (T0.out.next HRB.out.2 hb0)
  clear ej ez hb0
  cases hq0 : takeNum (L.drop k0) with
  | error c =>
    have hc := takeNum_fair hq0
    have ht : takeN L k0 = .tuple #[.agg #[.int .u64 0, .slice none 0 0, .slice none 0 0], .int .i64 (k0 : Int), .int .i64 c] := by unfold takeN; rw [hq0]
    rw [ht]
    have H3 : Hid (three (L.drop k) = .error c) := Lib.hid (by unfold three; rw [← HK0.out, hq0])
    obtain ⟨c0, c1, c2, f0, f1, f2, cz⟩ := block3 TB0.out.res
    clear ht hq0
    go_wp2_with fail
    refine bodyPost_ret (v := .tuple #[.agg #[.int .u64 0, .slice none 0 0, .slice none 0 0], .int .i64 (k0 : Int), .int .i64 c]) (by simp [results, Tryz.results90, go_sem, c0, c1, c2, cz]) rfl ?_
    refine ⟨by
      first
        | exact (((TB0.out.below.alloc (TB0.out.below.size) _).setCell (by simp) _).setCell (by simp) _).setCell (by simp) _
        | exact (((TB0.out.below.setCell (by simp) _).setCell (by simp) _).setCell (by simp) _).alloc (by simpa using TB0.out.below.size) _, ?_⟩
    rw [H3.out]
    exact ⟨_, rfl⟩
  | ok p0 =>
    obtain ⟨x0, r0⟩ := p0
    obtain ⟨m0, hm0, hd0⟩ := takeNum_drop hq0
    obtain ⟨k1, hk1⟩ : ∃ q, q = L.length - r0.length := ⟨_, rfl⟩
    have ht : takeN L k0 = .tuple #[.agg #[.int .u64 (x0 : Int), .slice none 0 0, .slice none 0 0], .int .i64 (k1 : Int), .int .i64 0] := by unfold takeN; rw [hq0, hk1]
    rw [ht]
    have HQ0 : Hid (takeNum (L.drop k0) = .ok (x0, r0)) := Lib.hid hq0
    have HD0 : Hid (L.drop k1 = r0) := Lib.hid (by
      rw [List.length_drop] at hm0 hd0
      rw [List.drop_drop] at hd0
      rw [hk1, show L.length - r0.length = k0 + (L.length - k0 - r0.length) by omega]
      exact hd0)
    have HKK0 := Lib.hid hk1
    have hkl1 : k1 ≤ L.length := by omega
    have hval := TB0.out.val
    obtain ⟨-, -, c2, -, -, f2, cz⟩ := block3 hval
    obtain ⟨wc, hwc⟩ : ∃ wc, wc = (wb0.alloc (.cells #[.int .u64 (x0 : Int), .slice none 0 0, .slice none 0 0] 149)).alloc (.cells #[.int .u64 (x0 : Int), .slice none 0 0, .slice none 0 0] 149) := ⟨_, rfl⟩
    have TC : Hid (TkAt w w1 rb 0 (.slice none 0 0) [] wc) := Lib.hid (TB0.out.next HRB.out.2 (by rw [hwc]; exact (below_alloc _ _).trans ((below_alloc _ _).mono (by simp))))
    have HY : Hid (Yields wc (.slice (some ⟨wb0.heap.size + 1, 0, none⟩) 1 1) 1 3 [.int .u64 (x0 : Int), .slice none 0 0, .slice none 0 0]) := Lib.hid ⟨rfl, fun u hu => by
      simp at hu
      rcases hu with rfl | rfl <;> rfl, .inr ⟨_, _, rfl, fun i u hi => by rw [hwc]; exact three_new (w := wb0.alloc _) (by simp) i u hi⟩⟩
    have HWC := Lib.hid hwc
    clear ht hq0 hm0 hd0 hk1 hval hwc
    go_wp2_with (at_builtin; rw [← HWC.out]; refine wpList_append_any _ rfl (.tmp 52) (.tmp 54) 147 rfl w1.heap.size 149 iv (.agg #[.int .u64 0, .slice none 0 0, .slice none 0 0]) 3 56 Tryz.underlying147 hiv hiv0 hiv1 hiv2 rfl (by decide) _ 0 [] rfl TC.out.own _ rfl 1 [.int .u64 (x0 : Int), .slice none 0 0, .slice none 0 0] HY.out (by unfold maxLen; omega) (by omega) TC.out.size ?_)
    intro lv1 wd1 happ
    have hpush := TC.out.push HRB.out.2 HRB.out.1 happ
    have hgv := (happ.2.1.block (w.heap.size + 1) (lt_of_heap TC.out.val) (fun e => by have := (TC.out.own.lt _ e.symm).1; have := HRB.out; omega)).trans TC.out.val
    obtain ⟨-, -, v2, -, -, vf2, vz⟩ := block3 hgv
    obtain ⟨la1, d1, hlv⟩ := owned_slice hpush.own
    subst hlv
    clear c2 f2 cz happ hgv
    go_wp2_with fail
    obtain ⟨wa1, hwa⟩ : ∃ wa, wa = wd1.setCell ⟨w.heap.size + 1, 2, none⟩ (.slice la1 1 d1) := ⟨_, rfl⟩
    have T1 : Hid (TkAt w w1 rb 1 (.slice la1 1 d1) [.int .u64 (x0 : Int), .slice none 0 0, .slice none 0 0] wa1) := Lib.hid (by rw [hwa]; exact hpush)
    rw [← hwa]
    clear hwa hpush v2 vf2 vz
    rw [rounds_succ]
    have ej : wa1.cell? ⟨rb, 1, none⟩ = some (.string ⟨#[110]⟩) := (World.cell?_of_block (a := ⟨rb, 1, none⟩) T1.out.row).trans R1.out
    have ez : rb < wa1.heap.size := Nat.lt_of_lt_of_le HRB.out.2 T1.out.size
    go_wp2_with fail
    refine (TakeN_any L (fun b => b < wa1.heap.size) _ k1 wa1 (HV.out.same (fun b hb => Nat.lt_of_lt_of_le (HF.out b hb) T1.out.below.size) fun b hb => T1.out.below.block b (HF.out b hb)) (fun _ h => h) HLN.out hkl1).mono ?_
    rintro e wb1 ⟨rfl, hb1⟩
    have TB1 := Lib.hid (T1.out.next HRB.out.2 hb1)
    clear ej ez hb1
    cases hq1 : takeNum (L.drop k1) with
    | error c =>
      have hc := takeNum_fair hq1
      have ht : takeN L k1 = .tuple #[.agg #[.int .u64 0, .slice none 0 0, .slice none 0 0], .int .i64 (k1 : Int), .int .i64 c] := by unfold takeN; rw [hq1]
      rw [ht]
      have H3 : Hid (three (L.drop k) = .error c) := Lib.hid (by unfold three; rw [← HK0.out, HQ0.out]; simp only; rw [show r0 = L.drop k1 from HD0.out.symm, hq1])
      obtain ⟨c0, c1, c2, f0, f1, f2, cz⟩ := block3 TB1.out.res
      clear ht hq1
      go_wp2_with fail
      refine bodyPost_ret (v := .tuple #[.agg #[.int .u64 0, .slice none 0 0, .slice none 0 0], .int .i64 (k1 : Int), .int .i64 c]) (by simp [results, Tryz.results90, go_sem, c0, c1, c2, cz]) rfl ?_
      refine ⟨by
        first
          | exact (((TB1.out.below.alloc (TB1.out.below.size) _).setCell (by simp) _).setCell (by simp) _).setCell (by simp) _
          | exact (((TB1.out.below.setCell (by simp) _).setCell (by simp) _).setCell (by simp) _).alloc (by simpa using TB1.out.below.size) _, ?_⟩
      rw [H3.out]
      exact ⟨_, rfl⟩
    | ok p1 =>
      obtain ⟨x1, r1⟩ := p1
      obtain ⟨m1, hm1, hd1⟩ := takeNum_drop hq1
      obtain ⟨k2, hk2⟩ : ∃ q, q = L.length - r1.length := ⟨_, rfl⟩
      have ht : takeN L k1 = .tuple #[.agg #[.int .u64 (x1 : Int), .slice none 0 0, .slice none 0 0], .int .i64 (k2 : Int), .int .i64 0] := by unfold takeN; rw [hq1, hk2]
      rw [ht]
      have HQ1 : Hid (takeNum (L.drop k1) = .ok (x1, r1)) := Lib.hid hq1
      have HD1 : Hid (L.drop k2 = r1) := Lib.hid (by
        rw [List.length_drop] at hm1 hd1
        rw [List.drop_drop] at hd1
        rw [hk2, show L.length - r1.length = k1 + (L.length - k1 - r1.length) by omega]
        exact hd1)
      have HKK1 := Lib.hid hk2
      have hkl2 : k2 ≤ L.length := by omega
      have hval := TB1.out.val
      obtain ⟨-, -, c2, -, -, f2, cz⟩ := block3 hval
      obtain ⟨wc, hwc⟩ : ∃ wc, wc = (wb1.alloc (.cells #[.int .u64 (x1 : Int), .slice none 0 0, .slice none 0 0] 149)).alloc (.cells #[.int .u64 (x1 : Int), .slice none 0 0, .slice none 0 0] 149) := ⟨_, rfl⟩
      have TC : Hid (TkAt w w1 rb 1 (.slice la1 1 d1) [.int .u64 (x0 : Int), .slice none 0 0, .slice none 0 0] wc) := Lib.hid (TB1.out.next HRB.out.2 (by rw [hwc]; exact (below_alloc _ _).trans ((below_alloc _ _).mono (by simp))))
      have HY : Hid (Yields wc (.slice (some ⟨wb1.heap.size + 1, 0, none⟩) 1 1) 1 3 [.int .u64 (x1 : Int), .slice none 0 0, .slice none 0 0]) := Lib.hid ⟨rfl, fun u hu => by
        simp at hu
        rcases hu with rfl | rfl <;> rfl, .inr ⟨_, _, rfl, fun i u hi => by rw [hwc]; exact three_new (w := wb1.alloc _) (by simp) i u hi⟩⟩
      have HWC := Lib.hid hwc
      clear ht hq1 hm1 hd1 hk2 hval hwc
      go_wp2_with (at_builtin; rw [← HWC.out]; refine wpList_append_any _ rfl (.tmp 52) (.tmp 54) 147 rfl w1.heap.size 149 iv (.agg #[.int .u64 0, .slice none 0 0, .slice none 0 0]) 3 56 Tryz.underlying147 hiv hiv0 hiv1 hiv2 rfl (by decide) _ 1 [.int .u64 (x0 : Int), .slice none 0 0, .slice none 0 0] rfl TC.out.own _ rfl 1 [.int .u64 (x1 : Int), .slice none 0 0, .slice none 0 0] HY.out (by unfold maxLen; omega) (by omega) TC.out.size ?_)
      intro lv2 wd2 happ
      have hpush := TC.out.push HRB.out.2 HRB.out.1 happ
      have hgv := (happ.2.1.block (w.heap.size + 1) (lt_of_heap TC.out.val) (fun e => by have := (TC.out.own.lt _ e.symm).1; have := HRB.out; omega)).trans TC.out.val
      obtain ⟨-, -, v2, -, -, vf2, vz⟩ := block3 hgv
      obtain ⟨la2, d2, hlv⟩ := owned_slice hpush.own
      subst hlv
      clear c2 f2 cz happ hgv
      go_wp2_with fail
      obtain ⟨wa2, hwa⟩ : ∃ wa, wa = wd2.setCell ⟨w.heap.size + 1, 2, none⟩ (.slice la2 2 d2) := ⟨_, rfl⟩
      have T2 : Hid (TkAt w w1 rb 2 (.slice la2 2 d2) [.int .u64 (x0 : Int), .slice none 0 0, .slice none 0 0, .int .u64 (x1 : Int), .slice none 0 0, .slice none 0 0] wa2) := Lib.hid (by rw [hwa]; exact hpush)
      rw [← hwa]
      clear hwa hpush v2 vf2 vz
      rw [rounds_succ]
      have ej : wa2.cell? ⟨rb, 2, none⟩ = some (.string ⟨#[110]⟩) := (World.cell?_of_block (a := ⟨rb, 2, none⟩) T2.out.row).trans R2.out
      have ez : rb < wa2.heap.size := Nat.lt_of_lt_of_le HRB.out.2 T2.out.size
      go_wp2_with fail
      refine (TakeN_any L (fun b => b < wa2.heap.size) _ k2 wa2 (HV.out.same (fun b hb => Nat.lt_of_lt_of_le (HF.out b hb) T2.out.below.size) fun b hb => T2.out.below.block b (HF.out b hb)) (fun _ h => h) HLN.out hkl2).mono ?_
      rintro e wb2 ⟨rfl, hb2⟩
      have TB2 := Lib.hid (T2.out.next HRB.out.2 hb2)
      clear ej ez hb2
      cases hq2 : takeNum (L.drop k2) with
      | error c =>
        have hc := takeNum_fair hq2
        have ht : takeN L k2 = .tuple #[.agg #[.int .u64 0, .slice none 0 0, .slice none 0 0], .int .i64 (k2 : Int), .int .i64 c] := by unfold takeN; rw [hq2]
        rw [ht]
        have H3 : Hid (three (L.drop k) = .error c) := Lib.hid (by unfold three; rw [← HK0.out, HQ0.out]; simp only; rw [show r0 = L.drop k1 from HD0.out.symm, HQ1.out]; simp only; rw [show r1 = L.drop k2 from HD1.out.symm, hq2])
        obtain ⟨c0, c1, c2, f0, f1, f2, cz⟩ := block3 TB2.out.res
        clear ht hq2
        go_wp2_with fail
        refine bodyPost_ret (v := .tuple #[.agg #[.int .u64 0, .slice none 0 0, .slice none 0 0], .int .i64 (k2 : Int), .int .i64 c]) (by simp [results, Tryz.results90, go_sem, c0, c1, c2, cz]) rfl ?_
        refine ⟨by
          first
            | exact (((TB2.out.below.alloc (TB2.out.below.size) _).setCell (by simp) _).setCell (by simp) _).setCell (by simp) _
            | exact (((TB2.out.below.setCell (by simp) _).setCell (by simp) _).setCell (by simp) _).alloc (by simpa using TB2.out.below.size) _, ?_⟩
        rw [H3.out]
        exact ⟨_, rfl⟩
      | ok p2 =>
        obtain ⟨x2, r2⟩ := p2
        obtain ⟨m2, hm2, hd2⟩ := takeNum_drop hq2
        obtain ⟨k3, hk3⟩ : ∃ q, q = L.length - r2.length := ⟨_, rfl⟩
        have ht : takeN L k2 = .tuple #[.agg #[.int .u64 (x2 : Int), .slice none 0 0, .slice none 0 0], .int .i64 (k3 : Int), .int .i64 0] := by unfold takeN; rw [hq2, hk3]
        rw [ht]
        have HQ2 : Hid (takeNum (L.drop k2) = .ok (x2, r2)) := Lib.hid hq2
        have HD2 : Hid (L.drop k3 = r2) := Lib.hid (by
          rw [List.length_drop] at hm2 hd2
          rw [List.drop_drop] at hd2
          rw [hk3, show L.length - r2.length = k2 + (L.length - k2 - r2.length) by omega]
          exact hd2)
        have HKK2 := Lib.hid hk3
        have hkl3 : k3 ≤ L.length := by omega
        have hval := TB2.out.val
        obtain ⟨-, -, c2, -, -, f2, cz⟩ := block3 hval
        obtain ⟨wc, hwc⟩ : ∃ wc, wc = (wb2.alloc (.cells #[.int .u64 (x2 : Int), .slice none 0 0, .slice none 0 0] 149)).alloc (.cells #[.int .u64 (x2 : Int), .slice none 0 0, .slice none 0 0] 149) := ⟨_, rfl⟩
        have TC : Hid (TkAt w w1 rb 2 (.slice la2 2 d2) [.int .u64 (x0 : Int), .slice none 0 0, .slice none 0 0, .int .u64 (x1 : Int), .slice none 0 0, .slice none 0 0] wc) := Lib.hid (TB2.out.next HRB.out.2 (by rw [hwc]; exact (below_alloc _ _).trans ((below_alloc _ _).mono (by simp))))
        have HY : Hid (Yields wc (.slice (some ⟨wb2.heap.size + 1, 0, none⟩) 1 1) 1 3 [.int .u64 (x2 : Int), .slice none 0 0, .slice none 0 0]) := Lib.hid ⟨rfl, fun u hu => by
          simp at hu
          rcases hu with rfl | rfl <;> rfl, .inr ⟨_, _, rfl, fun i u hi => by rw [hwc]; exact three_new (w := wb2.alloc _) (by simp) i u hi⟩⟩
        have HWC := Lib.hid hwc
        clear ht hq2 hm2 hd2 hk3 hval hwc
        go_wp2_with (at_builtin; rw [← HWC.out]; refine wpList_append_any _ rfl (.tmp 52) (.tmp 54) 147 rfl w1.heap.size 149 iv (.agg #[.int .u64 0, .slice none 0 0, .slice none 0 0]) 3 56 Tryz.underlying147 hiv hiv0 hiv1 hiv2 rfl (by decide) _ 2 [.int .u64 (x0 : Int), .slice none 0 0, .slice none 0 0, .int .u64 (x1 : Int), .slice none 0 0, .slice none 0 0] rfl TC.out.own _ rfl 1 [.int .u64 (x2 : Int), .slice none 0 0, .slice none 0 0] HY.out (by unfold maxLen; omega) (by omega) TC.out.size ?_)
        intro lv3 wd3 happ
        have hpush := TC.out.push HRB.out.2 HRB.out.1 happ
        have hgv := (happ.2.1.block (w.heap.size + 1) (lt_of_heap TC.out.val) (fun e => by have := (TC.out.own.lt _ e.symm).1; have := HRB.out; omega)).trans TC.out.val
        obtain ⟨-, -, v2, -, -, vf2, vz⟩ := block3 hgv
        obtain ⟨la3, d3, hlv⟩ := owned_slice hpush.own
        subst hlv
        clear c2 f2 cz happ hgv
        go_wp2_with fail
        obtain ⟨wa3, hwa⟩ : ∃ wa, wa = wd3.setCell ⟨w.heap.size + 1, 2, none⟩ (.slice la3 3 d3) := ⟨_, rfl⟩
        have T3 : Hid (TkAt w w1 rb 3 (.slice la3 3 d3) [.int .u64 (x0 : Int), .slice none 0 0, .slice none 0 0, .int .u64 (x1 : Int), .slice none 0 0, .slice none 0 0, .int .u64 (x2 : Int), .slice none 0 0, .slice none 0 0] wa3) := Lib.hid (by rw [hwa]; exact hpush)
        rw [← hwa]
        clear hwa hpush v2 vf2 vz
        rw [rounds_succ]
        have H3 : Hid (three (L.drop k) = .ok ((x0, x1, x2), r2)) := Lib.hid (by
          unfold three
          rw [← HK0.out, HQ0.out]
          simp only
          rw [show r0 = L.drop k1 from HD0.out.symm, HQ1.out]
          simp only
          rw [show r1 = L.drop k2 from HD1.out.symm, HQ2.out])
        obtain ⟨g, hg, hgz, h0, h1, h2⟩ : ∃ g, la3 = some ⟨g, 0, none⟩ ∧ (w1.heap.size ≤ g ∧ g < wa3.heap.size) ∧ wa3.cell? ⟨g, 0, none⟩ = some (.int .u64 (x0 : Int)) ∧ wa3.cell? ⟨g, 3, none⟩ = some (.int .u64 (x1 : Int)) ∧ wa3.cell? ⟨g, 6, none⟩ = some (.int .u64 (x2 : Int)) := by
          have ho := T3.out.own
          rcases ho.2 with ⟨-, h⟩ | ⟨g, cap, cur, hv, hgb, hcur, hn, hm, hs, ht⟩
          · cases h
          · cases hv
            have hc := fun j => cell_of_row wa3 g j _ _ _ hcur
            have hget : ∀ j x, j < 9 → ([.int .u64 (x0 : Int), .slice none 0 0, .slice none 0 0, .int .u64 (x1 : Int), .slice none 0 0, .slice none 0 0, .int .u64 (x2 : Int), .slice none 0 0, .slice none 0 0] : List Value)[j]? = some x → wa3.cell? ⟨g, j, none⟩ = some x := fun j x hj hx => by
              rw [hc j, ← hx, ← ht, List.getElem?_take, if_pos (by omega), Array.getElem?_toList]
            exact ⟨g, rfl, ⟨hgb, lt_of_heap hcur⟩, hget 0 _ (by omega) rfl, hget 3 _ (by omega) rfl, hget 6 _ (by omega) rfl⟩
        subst hg
        obtain ⟨c0, c1, c2, f0, f1, f2, cz⟩ := block3 T3.out.res
        obtain ⟨v0, v1, v2, -, -, -, vz⟩ := block3 T3.out.val
        go_wp2_with fail
        refine bodyPost_ret (v := .tuple #[.agg #[.int .u64 0, .slice none 0 0, .slice (some ⟨g, 0, none⟩) 3 d3], .int .i64 (k3 : Int), .int .i64 0]) (by simp [results, Tryz.results90, go_sem, c0, c1, c2, cz]) rfl ?_
        refine ⟨((T3.out.below.setCell (by simp) _).setCell (by simp) _).setCell (by simp) _, ?_⟩
        rw [H3.out]
        have hne : g ≠ w.heap.size := by have := HRB.out; omega
        refine ⟨g, d3, by rw [HKK2.out], by simpa using hgz.2, ?_, ?_, ?_⟩
        all_goals
          rw [World.cell?_of_block (w := wa3) (by rw [Below.heap_setCell _ _ _ _ (by simpa using hne), Below.heap_setCell _ _ _ _ (by simpa using hne), Below.heap_setCell _ _ _ _ (by simpa using hne)])]
        · exact h0
        · exact h1
        · exact h2
end Go.Proofs.YtgakcaobalfpjaaGreatDoor.M

/- Part: PHard1. -/
namespace Go.Proofs.YtgakcaobalfpjaaGreatDoor.M
open Go.RowKit

theorem none_any (w : World) : Calls Tryz.prog 85 #[] w fun e w' => e = .returned (.agg #[.int .i64 0, .int .i64 0, .int .i64 (-1)]) ∧ Below w.heap.size w w' := by
  go_enter Tryz.func85, Tryz.ntmps85
  go_wp2_with fail
  refine bodyPost_ret (v := .agg #[.int .i64 0, .int .i64 0, .int .i64 (-1)]) (by simp [results, Tryz.results85, go_sem]) rfl ?_
  exact ⟨rfl, by first | exact Below.refl _ _ | exact below_alloc _ _⟩

def may (s e : Int × Int) : Bool := decide (s = e ∨ e.1 < s.1 ∨ (s.1 = e.1 ∧ e.2 = -1))

theorem mayFollow_any (s e : Int × Int) (w : World) :
    Calls Tryz.prog 84 #[.agg #[.int .i64 s.1, .int .i64 s.2], .agg #[.int .i64 e.1, .int .i64 e.2]] w fun r w' => r = .returned (.bool (may s e)) ∧ Below w.heap.size w w' := by
  obtain ⟨st, sv⟩ := s
  obtain ⟨et, ev⟩ := e
  obtain ⟨W, hW⟩ : ∃ W, W = (w.alloc (.cells #[.int .i64 st, .int .i64 sv] 33)).alloc (.cells #[.int .i64 et, .int .i64 ev] 33) := ⟨_, rfl⟩
  have HB : Hid (Below w.heap.size w W) := Lib.hid (by rw [hW]; exact ((Below.refl _ w).alloc (Nat.le_refl _) _).alloc (by simp) _)
  have HR : ∀ r : Bool, may (st, sv) (et, ev) = r → (Ending.returned (.bool r) = .returned (.bool (may (st, sv) (et, ev))) ∧ Below w.heap.size w W) := fun r h => ⟨by rw [h], HB.out⟩
  by_cases h : st = et ∧ sv = ev
  · obtain ⟨rfl, rfl⟩ := h
    have HF := Lib.hid (HR true (by unfold may; simp))
    clear HR
    go_enter Tryz.func84, Tryz.ntmps84
    go_wp2_with fail
    go_ret
    rw [← hW]
    exact HF.out
  · have q0 : (st == et && sv == ev) = false := by
      rw [Bool.eq_false_iff]; intro h2; simp at h2; exact h h2
    rcases (show et < st ∨ (¬ et < st ∧ (st ≠ et ∨ (st = et ∧ (ev = -1 ∨ ev ≠ -1)))) by omega) with h2 | ⟨h2, h3 | ⟨h3, h4 | h4⟩⟩
    · have HF := Lib.hid (HR true (by unfold may; simp; omega))
      clear HR h
      go_enter Tryz.func84, Tryz.ntmps84
      go_wp2_with fail
      go_ret
      rw [← hW]
      exact HF.out
    · have HF := Lib.hid (HR false (by unfold may; simp; omega))
      have q2 : decide (et < st) = false := by simp; omega
      have q4 : (st == et) = false := beq_eq_false_iff_ne.2 h3
      clear HR h
      go_enter Tryz.func84, Tryz.ntmps84
      go_wp2_with fail
      go_ret
      rw [← hW]
      exact HF.out
    · have HF := Lib.hid (HR true (by unfold may; simp; omega))
      have q2 : decide (et < st) = false := by simp; omega
      have q4 : (st == et) = true := by simp [h3]
      have q6 : (sv == ev) = false := beq_eq_false_iff_ne.2 fun e => h ⟨h3, e⟩
      have q5 : (ev == -1) = true := by simp [h4]
      clear HR h h3 h4
      go_enter Tryz.func84, Tryz.ntmps84
      go_wp2_with fail
      go_ret
      rw [← hW]
      exact HF.out
    · have HF := Lib.hid (HR false (by unfold may; simp; omega))
      have q2 : decide (et < st) = false := by simp; omega
      have q4 : (st == et) = true := by simp [h3]
      have q6 : (sv == ev) = false := beq_eq_false_iff_ne.2 fun e => h ⟨h3, e⟩
      have q5 : (ev == -1) = false := beq_eq_false_iff_ne.2 h4
      clear HR h h3 h4
      go_enter Tryz.func84, Tryz.ntmps84
      go_wp2_with fail
      go_ret
      rw [← hW]
      exact HF.out

/-- A slice of states. -/
def RepSts (w : World) (F : Nat → Prop) (l : List (Int × Int)) (v : Value) : Prop :=
  (l = [] ∧ Bare v) ∨ ∃ b off c, v = .slice (some ⟨b, off, none⟩) l.length c ∧ F b ∧ l.length ≤ c ∧ c ≤ 9223372036854775807 ∧
    ∀ (i : Nat) (hi : i < l.length), w.cell? ⟨b, off + i * 2, none⟩ = some (.int .i64 l[i].1) ∧ w.cell? ⟨b, off + i * 2 + 1, none⟩ = some (.int .i64 l[i].2)

theorem RepSts.slice {w : World} {F : Nat → Prop} {l : List (Int × Int)} {v : Value} (h : RepSts w F l v) : ∃ a c, v = .slice a l.length c ∧ l.length ≤ 9223372036854775807 := by
  rcases h with ⟨rfl, a, c, rfl, h1, -⟩ | ⟨b, off, c, rfl, -, h1, h2, -⟩
  · exact ⟨a, c, rfl, by simp⟩
  · exact ⟨_, _, rfl, by omega⟩

theorem RepSts.elem {w : World} {F : Nat → Prop} {l : List (Int × Int)} {a : Option Addr} {n c : Nat} (h : RepSts w F l (.slice a n c)) (i : Nat) (hi : i < l.length) :
    ∃ b off, a = some ⟨b, off, none⟩ ∧ F b ∧ w.cell? ⟨b, off + i * 2, none⟩ = some (.int .i64 l[i].1) ∧ w.cell? ⟨b, off + i * 2 + 1, none⟩ = some (.int .i64 l[i].2) := by
  rcases h with ⟨rfl, -⟩ | ⟨b, off, c', hv, hF, h1, h2, hc⟩
  · simp at hi
  · cases hv
    exact ⟨b, off, rfl, hF, (hc i hi).1, (hc i hi).2⟩

theorem RepSts.same {w w' : World} {F G : Nat → Prop} (hF : ∀ k, F k → G k) (hw : ∀ k, F k → w'.heap[k]? = w.heap[k]?) {l : List (Int × Int)} {v : Value} (h : RepSts w F l v) : RepSts w' G l v := by
  rcases h with h | ⟨b, off, c, hs, hb, h1, h2, hc⟩
  · exact .inl h
  · exact .inr ⟨b, off, c, hs, hF b hb, h1, h2, fun i hi => ⟨by rw [World.cell?_of_block (by exact hw b hb)]; exact (hc i hi).1, by rw [World.cell?_of_block (by exact hw b hb)]; exact (hc i hi).2⟩⟩

def isState (s : Int × Int) : Bool := decide (0 ≤ s.1 ∧ -1 ≤ s.2)

def followsAll (s : Int × Int) (l : List (Int × Int)) : Bool := isState s && l.all (may s)

set_option maxRecDepth 20000 in
set_option maxHeartbeats 1600000 in
theorem Follows_any (s : Int × Int) (l : List (Int × Int)) (F : Nat → Prop) (v : Value) (w : World) (hv : RepSts w F l v) (hF : ∀ k, F k → k < w.heap.size) :
    Calls Tryz.prog 36 #[.agg #[.int .i64 s.1, .int .i64 s.2], v] w fun r w' => r = .returned (.bool (followsAll s l)) ∧ Below w.heap.size w w' := by
  obtain ⟨st, sv⟩ := s
  obtain ⟨va, vc, rfl, hl⟩ := hv.slice
  obtain ⟨w0, hW⟩ : ∃ w0, w0 = w := ⟨_, rfl⟩
  have HB : Hid (Below w.heap.size w w) := Lib.hid (Below.refl _ _)
  have HV := Lib.hid hv
  have HF := Lib.hid hF
  clear hW hv hF
  rcases (show st < 0 ∨ (¬ st < 0 ∧ (sv < -1 ∨ ¬ sv < -1)) by omega) with h | ⟨h, h2 | h2⟩
  · have HE : Hid (followsAll (st, sv) l = false) := Lib.hid (by unfold followsAll isState; simp; omega)
    go_enter Tryz.func36, Tryz.ntmps36
    go_wp2_with fail
    go_ret
    rw [HE.out]
    exact ⟨rfl, by first | exact Below.refl _ _ | exact below_alloc _ _⟩
  · have HE : Hid (followsAll (st, sv) l = false) := Lib.hid (by unfold followsAll isState; simp; omega)
    have q1 : decide (st < 0) = false := by simp; omega
    go_enter Tryz.func36, Tryz.ntmps36
    go_wp2_with fail
    go_ret
    rw [HE.out]
    exact ⟨rfl, by first | exact Below.refl _ _ | exact below_alloc _ _⟩
  · have HE : Hid (followsAll (st, sv) l = l.all (may (st, sv))) := Lib.hid (by unfold followsAll isState; simp; omega)
    have q1 : decide (st < 0) = false := by simp; omega
    have q2 : decide (sv < -1) = false := by simp; omega
    clear h h2
    obtain ⟨W, hW⟩ : ∃ W, W = w.alloc (.cells #[.int .i64 st, .int .i64 sv] 33) := ⟨_, rfl⟩
    have HB1 : Hid (Below w.heap.size w W) := Lib.hid (by rw [hW]; exact below_alloc _ _)
    obtain ⟨g, hg⟩ : ∃ g, g = w.heap.size := ⟨_, rfl⟩
    have HC : Hid (∀ w' : World, Below W.heap.size W w' → w'.cell? ⟨g, 0, none⟩ = some (.int .i64 st) ∧ w'.cell? ⟨g, 1, none⟩ = some (.int .i64 sv) ∧ g < w'.heap.size) := Lib.hid fun w' hb => by
      have h0 := fun j => cell_of_row W w.heap.size j _ _ _ (by rw [hW]; exact heap_alloc_new w (.cells #[.int .i64 st, .int .i64 sv] 33))
      have hz : g < W.heap.size := by rw [hW, hg]; simp
      have e := hb.block g hz
      rw [← hg] at h0
      exact ⟨(World.cell?_of_block (a := ⟨g, 0, none⟩) e).trans (h0 0), (World.cell?_of_block (a := ⟨g, 1, none⟩) e).trans (h0 1), Nat.lt_of_lt_of_le hz hb.size⟩
    have HWZ : Hid (w.heap.size ≤ W.heap.size) := Lib.hid (by rw [hW]; simp)
    have HG := Lib.hid hg
    have HW := Lib.hid hW
    clear hg hW
    go_enter Tryz.func36, Tryz.ntmps36
    go_wp2_with fail
    rw [← HG.out, ← HW.out]
    go_loopw [17] (fun i wr => ∃ k : Nat, k ≤ l.length ∧ i = .int .i64 (k : Int) ∧ Hid (Below W.heap.size W wr) ∧ Hid ((l.take k).all (may (st, sv)) = true)) (fun i _ => l.length - (intOf i).toNat)
    case atStart => exact ⟨0, Nat.zero_le _, rfl, Lib.hid (Below.refl _ _), Lib.hid rfl⟩
    case round =>
      obtain ⟨k, hk, rfl, HBW, HK⟩ := hrel
      by_cases hlt : k < l.length
      · have hkk : (k : Int) < (l.length : Int) := by omega
        obtain ⟨b, off, rfl, hFb, e0, e1⟩ := (HV.out.same (w' := wr) (fun _ h => h) fun j hj => (HBW.out.block j (Nat.lt_of_lt_of_le (HF.out j hj) HWZ.out)).trans (HB1.out.block j (HF.out j hj))).elem k hlt
        obtain ⟨f0, f1, fz⟩ := HC.out wr HBW.out
        have HST : Hid ((l.take (k + 1)).all (may (st, sv)) = may (st, sv) l[k]) := Lib.hid (by rw [List.take_succ_eq_append_getElem hlt, List.all_append, HK.out]; simp)
        have HAL : Hid (may (st, sv) l[k] = false → l.all (may (st, sv)) = false) := Lib.hid fun h => by
          rw [Bool.eq_false_iff]
          intro h2
          rw [List.all_eq_true] at h2
          rw [h2 _ (List.getElem_mem hlt)] at h
          cases h
        obtain ⟨⟨et, ev⟩, he⟩ : ∃ e, e = l[k] := ⟨_, rfl⟩
        rw [← he] at e0 e1 HST HAL
        have hbz : b < wr.heap.size := Nat.lt_of_lt_of_le (Nat.lt_of_lt_of_le (HF.out b hFb) HWZ.out) HBW.out.size
        clear he hFb
        simp only at e0 e1
        go_wp2_with fail
        refine (mayFollow_any (st, sv) (et, ev) _).mono ?_
        rintro e w2 ⟨rfl, hb2⟩
        have HB2 : Hid (Below W.heap.size W w2) := Lib.hid (HBW.out.trans ((below_alloc _ _).trans (hb2.mono (by simp)) |>.mono HBW.out.size))
        clear hb2 e0 e1 f0 f1 fz
        cases hm : may (st, sv) (et, ev) with
        | true =>
          rw [hm] at HST
          clear HAL hm
          go_wp2_with fail
          go_roundw
          case rel => exact ⟨k + 1, by omega, by go_num, HB2, HST⟩
          case measure => simp [intOf]; omega
        | false =>
          have HE2 : Hid (followsAll (st, sv) l = false) := Lib.hid (by rw [HE.out, HAL.out hm])
          clear HAL HST hm
          go_wp2_with fail
          go_ret
          exact ⟨by rw [HE2.out]; rfl, HB1.out.trans (HB2.out.mono HWZ.out)⟩
      · have hkk : ¬ (k : Int) < (l.length : Int) := by omega
        have HE2 : Hid (followsAll (st, sv) l = true) := Lib.hid (by rw [HE.out, ← HK.out, List.take_of_length_le (by omega)])
        go_wp2_with fail
        go_ret
        exact ⟨by rw [HE2.out]; rfl, HB1.out.trans (HBW.out.mono HWZ.out)⟩
end Go.Proofs.YtgakcaobalfpjaaGreatDoor.M

/- Part: PHard2. -/
namespace Go.Proofs.YtgakcaobalfpjaaGreatDoor.M
open Go.RowKit

theorem RepB.elem2 {w : World} {F : Nat → Prop} {L : List UInt8} {a : Option Addr} {n c : Nat} (h : RepB w F L (.slice a n c)) {i : Nat} (hi : i < L.length) :
    ∃ b off, a = some ⟨b, off, none⟩ ∧ F b ∧ ∀ (j : Nat) (hj : j < L.length), w.cell? ⟨b, off + j, none⟩ = some (.int .u8 (L[j].toNat : Int)) := by
  rcases h with ⟨h, _⟩ | ⟨b, off, c', h, hb, _, _, hc⟩
  · rw [h] at hi; simp at hi
  · cases h
    exact ⟨b, off, rfl, hb, hc⟩

/-- A sum's four bytes as a value. -/
def fourV (cs : Nat) : Value := .agg #[.int .u8 ((cs : Int) / 16777216), .int .u8 ((cs : Int) / 65536 % 256), .int .u8 ((cs : Int) / 256 % 256), .int .u8 ((cs : Int) % 256)]

set_option maxRecDepth 20000 in
set_option maxHeartbeats 1600000 in
theorem sumOf_any (L : List UInt8) (F : Nat → Prop) (v : Value) (w : World) (hv : RepB w F L v) (hF : ∀ k, F k → k < w.heap.size) (ht : Hid (Tab w)) :
    Calls Tryz.prog 115 #[v] w fun r w' => r = .returned (fourV (C.sumOf L)) ∧ Below w.heap.size w w' := by
  obtain ⟨va, vc, rfl, hl⟩ := hv.slice
  have HV := Lib.hid hv
  have HF := Lib.hid hF
  clear hv hF
  have hcs : C.sumOf L < 4294967296 := C.sumOf_lt L
  go_enter Tryz.func115, Tryz.ntmps115
  go_wp2_with fail
  have hu : RepB (w.alloc (.cells #[.int .u8 0, .int .u8 0, .int .u8 0, .int .u8 0] 170)) (fun k => k < w.heap.size) L (.slice va L.length vc) := HV.out.same HF.out fun k hk => Below.heap_alloc _ _ _ (HF.out k hk)
  refine (Of_any [L] _ _ _ (RepBl.one hu (by simp) (fun k hk => by simp; omega)) (Lib.hid (ht.out.next ((below_alloc _ _).trans ((below_alloc _ _).mono (by simp)))))).mono ?_
  rintro e w1 ⟨rfl, rfl⟩
  rw [show [L].flatten = L by simp]
  obtain ⟨cs, hcs2⟩ : ∃ cs, cs = C.sumOf L := ⟨_, rfl⟩
  rw [← hcs2] at hcs ⊢
  have HCS := Lib.hid hcs2
  clear hu hcs2
  go_wp2_with fail
  refine bodyPost_ret (v := fourV cs) (by simp [results, Tryz.results115, go_sem]; rfl) rfl ?_
  refine ⟨by rw [← HCS.out], ?_⟩
  exact (below_alloc _ _).trans ((below_alloc _ _).mono (by simp))

def slotV (c : Nat) (s : Int × Int) : Value := .agg #[.int .i64 (c : Int), .int .i64 s.1, .int .i64 s.2]

def nmRow : ByteArray := ⟨#[91, 110, 110, 110, 93]⟩

theorem shape_row : shape nmRow.data.toList = some (.row [.num, .num, .num]) := by kernel_rfl

def rowOf (c t v : Nat) : V := .mk 0 [] [.mk c [] [], .mk t [] [], .mk v [] []]

theorem put_row (c t v : Nat) : putAll nmRow.data.toList [rowOf c t v] = .ok (num c ++ (num t ++ num v)) := by
  unfold putAll
  rw [shape_row]
  simp only
  rw [if_pos (by simp [rowOf, isV, isVs, V.l])]
  simp [rowOf, putV, putVs, V.l, V.n]

theorem rep_row {w : World} {c t v : Nat} {g : Nat} (hg : g = w.heap.size) (hc : c < 18446744073709551616) (ht : t < 18446744073709551616) (hv : v < 18446744073709551616) {T1 T2 : TypeId} :
    RepVl ((w.alloc (.cells #[.int .u64 (c : Int), .slice none 0 0, .slice none 0 0, .int .u64 (t : Int), .slice none 0 0, .slice none 0 0, .int .u64 (v : Int), .slice none 0 0, .slice none 0 0] T1)).alloc
      (.cells #[.int .u64 0, .slice none 0 0, .slice (some ⟨g, 0, none⟩) 3 3] T2)) (fun k => g ≤ k ∧ k < g + 2) [rowOf c t v] (.slice (some ⟨g + 1, 0, none⟩) 1 1) := by
  subst hg
  obtain ⟨W, hW⟩ : ∃ W, W = (w.alloc (.cells #[.int .u64 (c : Int), .slice none 0 0, .slice none 0 0, .int .u64 (t : Int), .slice none 0 0, .slice none 0 0, .int .u64 (v : Int), .slice none 0 0, .slice none 0 0] T1)).alloc
      (.cells #[.int .u64 0, .slice none 0 0, .slice (some ⟨w.heap.size, 0, none⟩) 3 3] T2) := ⟨_, rfl⟩
  have b0 : W.heap[w.heap.size]? = some (.cells #[.int .u64 (c : Int), .slice none 0 0, .slice none 0 0, .int .u64 (t : Int), .slice none 0 0, .slice none 0 0, .int .u64 (v : Int), .slice none 0 0, .slice none 0 0] T1) := by
    rw [hW]; exact old_alloc (heap_new w _ _ rfl)
  have b1 : W.heap[w.heap.size + 1]? = some (.cells #[.int .u64 0, .slice none 0 0, .slice (some ⟨w.heap.size, 0, none⟩) 3 3] T2) := by
    rw [hW]; exact heap_new _ _ _ (by simp)
  rw [← hW]
  clear hW
  have c0 := fun j => cell_of_row W w.heap.size j _ T1 _ b0
  have c1 := fun j => cell_of_row W (w.heap.size + 1) j _ T2 _ b1
  have one : ∀ n : Nat, n < 18446744073709551616 → RepV W (fun k => w.heap.size ≤ k ∧ k < w.heap.size + 2) (.mk n [] []) (.agg #[.int .u64 (n : Int), .slice none 0 0, .slice none 0 0]) := fun n hn =>
    RepV_mk.2 ⟨_, _, rfl, hn, .inl ⟨rfl, Bare.nil⟩, .inl ⟨rfl, Bare.nil⟩⟩
  refine .inr ⟨w.heap.size + 1, 0, 1, rfl, ⟨by omega, by omega⟩, Nat.le_refl _, by omega, ?_⟩
  refine RepVs.of _ fun i hi => ?_
  obtain rfl : i = 0 := by simpa using hi
  refine ⟨.agg #[.int .u64 0, .slice none 0 0, .slice (some ⟨w.heap.size, 0, none⟩) 3 3], ⟨_, _, _, rfl, c1 0, c1 1, c1 2⟩, ?_⟩
  refine RepV_mk.2 ⟨.slice none 0 0, .slice (some ⟨w.heap.size, 0, none⟩) 3 3, rfl, by omega, .inl ⟨rfl, Bare.nil⟩, .inr ⟨w.heap.size, 0, 3, rfl, ⟨by omega, by omega⟩, Nat.le_refl _, by omega, ?_⟩⟩
  refine RepVs.of _ fun i hi => ?_
  match i, hi with
  | 0, _ => exact ⟨_, ⟨_, _, _, rfl, c0 0, c0 1, c0 2⟩, one c hc⟩
  | 1, _ => exact ⟨_, ⟨_, _, _, rfl, c0 3, c0 4, c0 5⟩, one t ht⟩
  | 2, _ => exact ⟨_, ⟨_, _, _, rfl, c0 6, c0 7, c0 8⟩, one v hv⟩

theorem row_size (c t v : Nat) : vsizes [rowOf c t v] ≤ 1099511627776 := by
  simp [vsizes, vsize, rowOf]

set_option maxRecDepth 20000 in
set_option maxHeartbeats 1600000 in
theorem bytes_any (c t v : Nat) (w : World) (hc : c ≤ 4611686018427387904) (ht : t < 4611686018427387904) (hv : v ≤ 4611686018427387904) (hT : Hid (Tab w)) :
    Calls Tryz.prog 87 #[.agg #[.int .i64 (c : Int), .int .i64 (t : Int), .int .i64 ((v : Int) - 1)]] w fun e w' => ∃ u, e = .returned u ∧ Own w (slotForm c ((t : Int), (v : Int) - 1)) u w' := by
  go_enter Tryz.func87, Tryz.ntmps87
  go_wp2_with fail
  refine (Put_any nmRow _ _ _ _ (by decide) (rep_row (c := c) (t := t) (v := v) (by simp) (by omega) (by omega) (by omega)) (fun k hk => by simp at hk ⊢; omega) (row_size _ _ _)).mono ?_
  rintro e w1 ⟨hb, hr⟩
  rw [put_row] at hr
  obtain ⟨u, rfl, hu⟩ := hr
  have HB1 : Hid (Below w.heap.size w w1) := Lib.hid ((below_alloc _ _).trans (((below_alloc _ _).trans (((below_alloc _ _).trans (hb.mono (by simp))).mono (by simp))).mono (by simp)))
  have HU : Hid (RepB w1 (fun k => k < w1.heap.size) (num c ++ (num t ++ num v)) u) := Lib.hid ((RepB.of_own hu).weak fun k hk => hk.2)
  obtain ⟨L, hL⟩ : ∃ L, L = num c ++ (num t ++ num v) := ⟨_, rfl⟩
  rw [← hL] at HU
  have HL := Lib.hid hL
  have hlen : 3 ≤ L.length ∧ L.length ≤ 27 := by
    rw [hL]
    have h1 := num_le c
    have h2 := num_le t
    have h3 := num_le v
    simp only [List.length_append]
    simp only [num, List.length_cons] at h1 h2 h3 ⊢
    omega
  have hcs : C.sumOf L < 4294967296 := C.sumOf_lt L
  obtain ⟨ub, uo, uc, rfl⟩ : ∃ ub uo uc, u = .slice (some ⟨ub, uo, none⟩) L.length uc := by
    rcases HU.out with ⟨h, -⟩ | ⟨b, off, c', h, -⟩
    · rw [h] at hlen; simp at hlen
    · exact ⟨_, _, _, h⟩
  clear hb hu hL
  go_wp2_with fail
  refine (sumOf_any L _ _ w1 HU.out (fun _ h => h) (Lib.hid (hT.out.next HB1.out))).mono ?_
  rintro e w2 ⟨rfl, hb2⟩
  obtain ⟨cs, hcs2⟩ : ∃ cs, cs = C.sumOf L := ⟨_, rfl⟩
  rw [← hcs2] at hcs ⊢
  have HCS := Lib.hid hcs2
  have HB2 : Hid (Below w.heap.size w w2) := Lib.hid (HB1.out.trans (hb2.mono HB1.out.size))
  have HU2 : Hid (RepB w2 (fun k => k < w2.heap.size) L (.slice (some ⟨ub, uo, none⟩) L.length uc)) := Lib.hid (HU.out.same (fun k hk => Nat.lt_of_lt_of_le hk hb2.size) fun k hk => hb2.block k hk)
  clear hcs2 hb2
  unfold fourV
  obtain ⟨ib, hib, hib0, hib1, hib2⟩ := info_parts infoByte
  go_wp2_with (at_builtin; refine wpList_append_grows _ rfl (.tmp 30) (.tmp 31) 35 rfl 5 ib (.int .u8 0) 1 1 Tryz.underlying35 hib hib0 hib1 hib2 rfl (by decide) (some ⟨w2.heap.size, 0, none⟩) 4 4 [.int .u8 ((cs : Int) / 16777216), .int .u8 ((cs : Int) / 65536 % 256), .int .u8 ((cs : Int) / 256 % 256), .int .u8 ((cs : Int) % 256)] rfl (fun h => by cases h) rfl ?c1 ⟨ub, uo, none⟩ L.length uc (L.map byteV) rfl ?c2 ?c3 ?c4 ?c5 ?c6 ?c7 ?_)
  case c1 => 
    intro b hb j u hj
    cases hb
    have h := cell_of_row _ w2.heap.size j _ 170 _ (heap_alloc_new w2 (.cells #[.int .u8 ((cs : Int) / 16777216), .int .u8 ((cs : Int) / 65536 % 256), .int .u8 ((cs : Int) / 256 % 256), .int .u8 ((cs : Int) % 256)] 170))
    rw [addr_add, Nat.zero_add, h]
    simpa using hj
  case c2 => simp
  case c3 =>
    intro j u hj
    rw [List.getElem?_map] at hj
    cases he : L[j]? with
    | none => rw [he] at hj; cases hj
    | some x =>
      rw [he] at hj
      cases hj
      obtain ⟨hjl, rfl⟩ := List.getElem?_eq_some_iff.1 he
      obtain ⟨b, off, h1, hF, h2⟩ := RepB.elem2 HU2.out hjl
      cases h1
      have := h2 j hjl
      rw [addr_add]
      exact ((below_alloc w2 _).cell (p := ⟨ub, uo + j, none⟩) hF).trans this
  case c4 =>
    intro u hu
    obtain ⟨x, -, rfl⟩ := List.mem_map.1 hu
    rfl
  case c5 => omega
  case c6 => unfold maxLen; omega
  case c7 => omega
  intro v' w' hown hgr
  have HO : Hid (Own w (slotForm c ((t : Int), (v : Int) - 1)) v' w') := Lib.hid (by
    have e : (slotForm c ((t : Int), (v : Int) - 1)) = four cs ++ L := by
      unfold slotForm stForm
      simp only [Int.toNat_natCast, show ((v : Int) - 1 + 1).toNat = v by omega]
      rw [← HL.out, ← HCS.out]
    rw [e]
    have e4 : (four cs).map byteV = [.int .u8 ((cs : Int) / 16777216), .int .u8 ((cs : Int) / 65536 % 256), .int .u8 ((cs : Int) / 256 % 256), .int .u8 ((cs : Int) % 256)] := by
      unfold four
      simp only [List.map_cons, List.map_nil, byteV, UInt8.toNat_ofNat']
      congr 2 <;> omega
    have hz := HB2.out.size
    have hg2 := hgr.size
    simp only [World.size_alloc] at hg2
    refine ⟨⟨hgr.os.trans HB2.out.os, hgr.tape.trans HB2.out.tape, hgr.output.trans HB2.out.output, by omega, fun k hk => ?_⟩, ?_⟩
    · rw [hgr.block k (by simp; omega) (by simp), Below.heap_alloc _ _ _ (by omega)]
      exact HB2.out.block k hk
    · rw [List.length_append, List.map_append, e4, four_length]
      refine ⟨?_, ?_⟩
      · exact hown.1
      · rcases hown.2 with h1 | ⟨g, cap, cur, h1, h2, h3⟩
        · exact .inl h1
        · exact .inr ⟨g, cap, cur, h1, by omega, h3⟩)
  clear hown hgr
  go_wp2_with fail
  go_ret
  exact ⟨_, rfl, HO.out⟩
end Go.Proofs.YtgakcaobalfpjaaGreatDoor.M

/- Part: DiskLaw. -/
namespace Go.Proofs.YtgakcaobalfpjaaGreatDoor.M
open Go.RowKit Go.Maps
open D (Fl Dk)

/-- A disk that a call has made, since the world w. -/
structure DS (w : World) (X : Nat → Prop) (gd : Nat) (d : Dk) (wr : World) : Prop where
  below : Below w.heap.size w wr
  own : ∀ k, X k → w.heap.size ≤ k
  dsk : PDskIn wr X gd d
  well : Well d

theorem PDskIn.next {w w' : World} {X : Nat → Prop} {gd : Nat} {d : Dk} (h : PDskIn w X gd d) (hb : Below w.heap.size w w') : PDskIn w' X gd d := ⟨h.1.same (fun _ h => h) fun k hk => hb.block k (h.2 k hk), fun k hk => Nat.lt_of_lt_of_le (h.2 k hk) hb.size⟩

theorem DS.next {w wr w' : World} {X : Nat → Prop} {gd : Nat} {d : Dk} (h : DS w X gd d wr) (hb : Below wr.heap.size wr w') : DS w X gd d w' :=
  ⟨h.below.trans (hb.mono h.below.size), h.own, h.dsk.next hb, h.well⟩

theorem DS.alloc {w wr : World} {X : Nat → Prop} {gd : Nat} {d : Dk} (h : DS w X gd d wr) (o : Obj) : DS w X gd d (wr.alloc o) := h.next (below_alloc _ _)

theorem DS.lt {w wr : World} {X : Nat → Prop} {gd : Nat} {d : Dk} (h : DS w X gd d wr) : ∀ k, X k → k < wr.heap.size := h.dsk.2

/-- Behind a call on it. -/
theorem DS.call {w wr w' : World} {X : Nat → Prop} {gd : Nat} {d : Dk} {r : Int × Dk} {e : Ending} (h : DS w X gd d wr) (hp : PPost wr X gd r e w') (hw : Well r.2) : DS w (More X wr w') gd r.2 w' := by
  obtain ⟨-, ho, hd⟩ := hp
  refine ⟨⟨ho.os.trans h.below.os, ho.tape.trans h.below.tape, ho.output.trans h.below.output, Nat.le_trans h.below.size ho.size, fun k hk => ?_⟩, fun k hk => ?_, ⟨hd, fun k hk => ?_⟩, hw⟩
  · rw [ho.block k (Nat.lt_of_lt_of_le hk h.below.size) fun hx => by have := h.own k hx; omega]
    exact h.below.block k hk
  · rcases hk with hk | hk
    · exact h.own k hk
    · exact Nat.le_trans h.below.size hk.1
  · rcases hk with hk | hk
    · exact Nat.lt_of_lt_of_le (h.lt k hk) ho.size
    · exact hk.2

/-- What a call on it leaves. -/
def DPost (w : World) (X : Nat → Prop) (gd : Nat) (wr : World) (r : Int × Dk) (e : Ending) (w' : World) : Prop :=
  e = .returned (.int .i64 r.1) ∧ Only X wr w' ∧ ∃ X', (∀ k, X' k → X k ∨ wr.heap.size ≤ k) ∧ DS w X' gd r.2 w'

theorem DS.post {w wr w' : World} {X : Nat → Prop} {gd : Nat} {d : Dk} {r : Int × Dk} {e : Ending} (h : DS w X gd d wr) (hw : Well r.2) (hp : PPost wr X gd r e w') : DPost w X gd wr r e w' :=
  ⟨hp.1, hp.2.1, _, fun k hk => by
    rcases hk with hk | hk
    · exact .inl hk
    · exact .inr hk.1, h.call hp hw⟩

section
variable {w : World} {X : Nat → Prop} {gd : Nat} {d : Dk} {wr : World} (h : DS w X gd d wr)
include h

theorem DAppend (s : ByteArray) (bs : List (List UInt8)) (F : Nat → Prop) (vb : Value) (hs : s.size ≤ 9223372036854775807) (hv : RepBl wr F bs vb) (hF : ∀ k, F k → k < wr.heap.size ∧ ¬ X k) (hu : D.used d.fs + bs.flatten.length ≤ 1099511627776) :
    Calls Tryz.prog 18 #[.pointer (some ⟨gd, 0, none⟩), .string s, vb] wr (DPost w X gd wr (D.append d s bs)) :=
  (PAppend_any d X gd s bs F vb wr h.dsk h.well.1 hs hv hF hu).mono fun _ _ hp => h.post (append_well h.well s bs).1 hp

theorem DSync (names : List ByteArray) (F : Nat → Prop) (vn : Value) (hs : ∀ s ∈ names, s.size ≤ 9223372036854775807) (hv : RepSl wr F names vn) (hF : ∀ k, F k → k < wr.heap.size ∧ ¬ X k) :
    Calls Tryz.prog 72 #[.pointer (some ⟨gd, 0, none⟩), vn] wr (DPost w X gd wr (D.sync d names)) :=
  (PSync_any d X gd names F vn wr h.dsk h.well.1 hs hv hF).mono fun _ _ hp => h.post (sync_well h.well names).1 hp

theorem DRemove (names : List ByteArray) (F : Nat → Prop) (vn : Value) (hs : ∀ s ∈ names, s.size ≤ 9223372036854775807) (hv : RepSl wr F names vn) (hF : ∀ k, F k → k < wr.heap.size ∧ ¬ X k) :
    Calls Tryz.prog 16 #[.pointer (some ⟨gd, 0, none⟩), vn] wr (DPost w X gd wr (D.remove d names)) :=
  (PRemove_any d X gd names F vn wr h.dsk h.well.1 hs hv hF).mono fun _ _ hp => h.post (remove_well h.well names).1 hp

theorem DCut (s : ByteArray) (n : Int) (hs : s.size ≤ 9223372036854775807) (h1 : -9223372036854775808 ≤ n) (h2 : n ≤ 9223372036854775807) :
    Calls Tryz.prog 121 #[.pointer (some ⟨gd, 0, none⟩), .string s, .int .i64 n] wr (DPost w X gd wr (D.cut d s n)) :=
  (PCut_any d X gd s n wr h.dsk h.well.1 hs h1 h2).mono fun _ _ hp => h.post (cut_well h.well s n).1 hp

theorem DCrash (ks : List Int) (F : Nat → Prop) (vk : Value) (hv : RepI wr F ks vk) (hF : ∀ k, F k → k < wr.heap.size ∧ ¬ X k) :
    Calls Tryz.prog 13 #[.pointer (some ⟨gd, 0, none⟩), vk] wr (DPost w X gd wr ((((D.crash d ks).1 : Nat) : Int), (D.crash d ks).2)) :=
  (PCrash_any d X gd ks F vk wr h.dsk h.well.1 h.well.names hv hF).mono fun _ _ hp => h.post (crash_well h.well ks).1 hp
end

theorem RepSl.new {w : World} {ls : List ByteArray} {t : TypeId} {g n : Nat} (hg : g = w.heap.size) (hn : n = ls.length) (hl : ls.length ≤ 9223372036854775807) :
    RepSl (w.alloc (.cells (ls.map Value.string).toArray t)) (fun b => b = g) ls (.slice (some ⟨g, 0, none⟩) n n) := by
  subst hg hn
  refine .inr ⟨w.heap.size, 0, ls.length, rfl, rfl, Nat.le_refl _, hl, fun i hi => ?_⟩
  have := cell_of_row _ w.heap.size (0 + i) _ t _ (heap_alloc_new w (.cells (ls.map Value.string).toArray t))
  rw [this]
  simp [hi]

theorem RepI.new {w : World} {ls : List Int} {t : TypeId} {g n : Nat} (hg : g = w.heap.size) (hn : n = ls.length) (hl : ls.length ≤ 9223372036854775807) (hb : ∀ i ∈ ls, -9223372036854775808 ≤ i ∧ i ≤ 9223372036854775807) :
    RepI (w.alloc (.cells (ls.map (Value.int .i64)).toArray t)) (fun b => b = g) ls (.slice (some ⟨g, 0, none⟩) n n) := by
  subst hg hn
  refine .inr ⟨w.heap.size, 0, ls.length, rfl, rfl, Nat.le_refl _, hl, fun i hi => ⟨?_, hb _ (List.getElem_mem hi)⟩⟩
  have := cell_of_row _ w.heap.size (0 + i) _ t _ (heap_alloc_new w (.cells (ls.map (Value.int .i64)).toArray t))
  rw [this]
  simp [hi]

def nmA : ByteArray := ⟨#[97]⟩
def nmB : ByteArray := ⟨#[98]⟩
def x1 : Dk := fresh 10
def x2 : Dk := (D.append x1 nmA [[120, 121, 122]]).2
def x3 : Dk := (D.sync x2 [nmA]).2
def x4 : Dk := (D.append x3 nmA [[117], [118, 119]]).2
def x5 : Dk := (D.append x4 nmB [[49, 50, 51, 52, 53]]).2
def x6 : Dk := (D.crash x5 [1]).2

theorem ex_2 : (D.append x1 nmA [[120, 121, 122]]).1 = 0 ∧ D.used x2.fs = 3 := by decide +kernel
theorem ex_3 : (D.sync x2 [nmA]).1 = 0 ∧ D.used x3.fs = 3 := by decide +kernel
theorem ex_4 : (D.append x3 nmA [[117], [118, 119]]).1 = 0 ∧ D.used x4.fs = 6 := by decide +kernel
theorem ex_5 : (D.append x4 nmB [[49, 50, 51, 52, 53]]).1 = 31 ∧ D.used x5.fs = 6 := by decide +kernel
theorem ex_6 : (D.crash x5 [1]).1 = 2 ∧ D.used x6.fs = 4 := by decide +kernel
theorem ex_7 : bytesOf x6.fs nmA = [120, 121, 122, 117] ∧ D.isThere x6.fs nmA = true := by decide +kernel
end Go.Proofs.YtgakcaobalfpjaaGreatDoor.M

/- Part: Eq4. -/
namespace Go.Proofs.YtgakcaobalfpjaaGreatDoor.M
open Go.RowKit

theorem cells_u8 : Tryz.prog.cellsOf 5 = 1 := by kernel_rfl

set_option maxRecDepth 20000 in
theorem eq4_any (a b c d a' b' c' d' : Int) (w : World) :
    (Op.equalIn 10000 170 (.agg #[.int .u8 a, .int .u8 b, .int .u8 c, .int .u8 d]) (.agg #[.int .u8 a', .int .u8 b', .int .u8 c', .int .u8 d'])).run Tryz.prog w = .ok (a == a' && (b == b' && (c == c' && d == d'))) w := by
  have u5 := Tryz.underlying5
  have a5 := Tryz.isAgg5
  obtain ⟨ib, hib, hib0, hib1, hib2⟩ := info_parts infoByte
  rw [show (10000 : Nat) = 9999 + 1 from rfl, Go.run_equalIn_array w 9999 _ _ Tryz.underlying170 hib, cells_u8]
  simp only [show List.range 4 = [0, 1, 2, 3] from rfl, Op.eqItems]
  go_simp
  by_cases h1 : a = a' <;> by_cases h2 : b = b' <;> by_cases h3 : c = c' <;> by_cases h4 : d = d' <;> simp [h1, h2, h3, h4]
end Go.Proofs.YtgakcaobalfpjaaGreatDoor.M

/- Part: PHard3. -/
namespace Go.Proofs.YtgakcaobalfpjaaGreatDoor.M
open Go.RowKit Go.Maps
open D (Fl Dk)

/-- What a read answers: a slot that isn't whole is nobody's. -/
def pslot (L : List UInt8) : Nat × (Int × Int) := if (slot L).1 = 0 then (0, (0, -1)) else slot L

theorem take_row (b : List UInt8) : takeAt nmRow.data.toList b = match three b with
    | .error e => .error e
    | .ok ((x, y, z), []) => .ok (rowOf x y z)
    | .ok (_, _ :: _) => .error 12 := by
  unfold takeAt
  rw [shape_row]
  simp only [takeV, takeVs]
  unfold three
  cases h1 : takeNum b with
  | error e => rfl
  | ok p =>
    obtain ⟨x, b1⟩ := p
    simp only
    cases h2 : takeNum b1 with
    | error e => rfl
    | ok p =>
      obtain ⟨y, b2⟩ := p
      simp only
      cases h3 : takeNum b2 with
      | error e => rfl
      | ok p =>
        obtain ⟨z, b3⟩ := p
        cases b3 <;> rfl

theorem takeNum_err {b : List UInt8} {e : Int} (h : takeNum b = .error e) : e = 11 ∨ e = 13 := by
  cases b with
  | nil => rw [takeNum] at h; cases h; exact .inl rfl
  | cons c r =>
    rw [takeNum] at h
    split at h
    · cases h; exact .inr rfl
    · split at h
      · cases h; exact .inr rfl
      · split at h
        · cases h; exact .inl rfl
        · cases h

theorem three_err {b : List UInt8} {e : Int} (h : three b = .error e) : e = 11 ∨ e = 13 := by
  unfold three at h
  cases h1 : takeNum b with
  | error e => rw [h1] at h; cases h; exact takeNum_err h1
  | ok p =>
    obtain ⟨x, b1⟩ := p
    rw [h1] at h
    simp only at h
    cases h2 : takeNum b1 with
    | error e => rw [h2] at h; cases h; exact takeNum_err h2
    | ok p =>
      obtain ⟨y, b2⟩ := p
      rw [h2] at h
      simp only at h
      cases h3 : takeNum b2 with
      | error e => rw [h3] at h; cases h; exact takeNum_err h3
      | ok p => rw [h3] at h; cases h

/-- What Take answers of bytes behind a sum. -/
theorem takeAt_err {b : List UInt8} {e : Int} (h : takeAt nmRow.data.toList b = .error e) : (e == 0) = false := by
  rw [take_row] at h
  cases h3 : three b with
  | error c => rw [h3] at h; cases h; rcases three_err h3 with rfl | rfl <;> rfl
  | ok p =>
    obtain ⟨⟨x, y, z⟩, q⟩ := p
    rw [h3] at h
    cases q with
    | nil => cases h
    | cons a q => cases h; rfl

theorem pslot_none {L : List UInt8} {x y z : Nat} (h : slot L = if x < top ∧ y < top ∧ z ≤ top then (x, ((y : Int), (z : Int) - 1)) else (0, (0, 0))) (h2 : x < 1 ∨ top ≤ x ∨ top ≤ y ∨ top < z) : pslot L = (0, (0, -1)) := by
  have h1 : (slot L).1 = 0 := by
    rw [h]
    split
    · rename_i h3; simp only; omega
    · rfl
  unfold pslot
  rw [if_pos h1]

theorem pslot_some {L : List UInt8} {x y z : Nat} (h : slot L = if x < top ∧ y < top ∧ z ≤ top then (x, ((y : Int), (z : Int) - 1)) else (0, (0, 0))) (h2 : 1 ≤ x ∧ x < top ∧ y < top ∧ z ≤ top) : pslot L = (x, ((y : Int), (z : Int) - 1)) := by
  rw [if_pos h2.2] at h
  unfold pslot
  rw [h, if_neg (by simp only; omega)]

theorem rep_three {w : World} {F : Nat → Prop} {x y z : Nat} {v : Value} (h : RepVl w F [.mk x [] [], .mk y [] [], .mk z [] []] v) :
    ∃ b off c, v = .slice (some ⟨b, off, none⟩) 3 c ∧ F b ∧ x < 18446744073709551616 ∧ y < 18446744073709551616 ∧ z < 18446744073709551616 ∧
      w.cell? ⟨b, off, none⟩ = some (.int .u64 (x : Int)) ∧ w.cell? ⟨b, off + 3, none⟩ = some (.int .u64 (y : Int)) ∧ w.cell? ⟨b, off + 6, none⟩ = some (.int .u64 (z : Int)) := by
  rcases h with ⟨h, -⟩ | ⟨b, off, c, hv, hb, h1, h2, hl⟩
  · cases h
  · have one : ∀ (n : Nat) (o : Nat) (u : Value), At3 w b o u → RepV w F (.mk n [] []) u → n < 18446744073709551616 ∧ w.cell? ⟨b, o, none⟩ = some (.int .u64 (n : Int)) := fun n o u ha hr => by
      obtain ⟨p, q, r, rfl, a0, -, -⟩ := ha
      obtain ⟨vb, vl, he, hn, -, -⟩ := RepV_mk.1 hr
      simp only [Value.agg.injEq, Array.mk.injEq, List.cons.injEq] at he
      exact ⟨hn, by rw [a0, he.1]⟩
    obtain ⟨u0, a0, r0⟩ := RepVs.get _ hl 0 (by simp)
    obtain ⟨u1, a1, r1⟩ := RepVs.get _ hl 1 (by simp)
    obtain ⟨u2, a2, r2⟩ := RepVs.get _ hl 2 (by simp)
    have e0 := one x _ _ a0 r0
    have e1 := one y _ _ a1 r1
    have e2 := one z _ _ a2 r2
    exact ⟨b, off, c, hv, hb, e0.1, e1.1, e2.1, e0.2, e1.2, e2.2⟩

theorem four_test {L : List UInt8} {cs : Nat} (hc : cs < 4294967296) (h4 : 4 ≤ L.length) :
    ((cs : Int) / (16777216 : Int) == (L[0].toNat : Int) && ((cs : Int) / (65536 : Int) % (256 : Int) == (L[1].toNat : Int) && ((cs : Int) / (256 : Int) % (256 : Int) == (L[2].toNat : Int) && (cs : Int) % (256 : Int) == (L[3].toNat : Int)))) = decide (L.take 4 = four cs) := by
  match L, h4 with
  | a :: b :: c :: d :: r, _ =>
    have ha := a.toNat_lt
    have hb := b.toNat_lt
    have hcc := c.toNat_lt
    have hd := d.toNat_lt
    rw [Bool.eq_iff_iff]
    simp only [Bool.and_eq_true, beq_iff_eq, decide_eq_true_eq, List.getElem_cons_zero, List.getElem_cons_succ, List.take_succ_cons, List.take_zero, four, List.cons.injEq, and_true, ← UInt8.toNat_inj, UInt8.toNat_ofNat']
    omega

theorem bytes_le (fs : List Fl) (s : ByteArray) : (bytesOf fs s).length ≤ D.used fs := by
  unfold bytesOf
  cases h : fs.find? (fun f => decide (f.nm = s)) with
  | none => simp
  | some f => exact D.used_mem (List.mem_of_find?_eq_some h)

theorem RepB.drop4 {w : World} {F : Nat → Prop} {L : List UInt8} {g c : Nat} (hF : F g) (hc : ∀ (j : Nat) (hj : j < L.length), w.cell? ⟨g, j, none⟩ = some (.int .u8 (L[j].toNat : Int))) (h4 : 4 ≤ L.length) (hl : L.length ≤ c) (hm : c ≤ 9223372036854775807) :
    RepB w F (L.drop 4) (.slice (if c = 4 then some ⟨g, 0, none⟩ else some ⟨g, 4, none⟩) (L.length - 4) (c - 4)) := by
  by_cases h : c = 4
  · rw [if_pos h]
    have e : L.length = 4 := by omega
    refine .inl ⟨List.drop_of_length_le (by omega), _, c - 4, by rw [e], by omega, fun h => by cases h⟩
  · rw [if_neg h]
    refine .inr ⟨g, 4, c - 4, by rw [List.length_drop], hF, by rw [List.length_drop]; omega, by omega, fun i hi => ?_⟩
    have := hc (4 + i) (by rw [List.length_drop] at hi; omega)
    rw [this]
    simp

set_option maxRecDepth 20000 in
set_option maxHeartbeats 6400000 in
theorem read_any (d : Dk) (X : Nat → Prop) (gd : Nat) (s : ByteArray) (w : World) (hd : PDskIn w X gd d) (hr : D.Rising d.fs) (hs : s.size ≤ 9223372036854775807) (hu : D.used d.fs ≤ 1099511627776) (hT : Hid (Tab w)) :
    Calls Tryz.prog 86 #[.pointer (some ⟨gd, 0, none⟩), .string s] w fun e w' => e = .returned (slotV (pslot (bytesOf d.fs s)).1 (pslot (bytesOf d.fs s)).2) ∧ Below w.heap.size w w' := by
  obtain ⟨L, hL⟩ : ∃ L, L = bytesOf d.fs s := ⟨_, rfl⟩
  have hLl : L.length ≤ 1099511627776 := by
    rw [hL]
    exact Nat.le_trans (bytes_le d.fs s) hu
  have HLL := Lib.hid hLl
  obtain ⟨W, hW⟩ : ∃ W, W = w.alloc (.cells #[.int .i64 0, .int .i64 0, .int .i64 0] 87) := ⟨_, rfl⟩
  have HB1 : Hid (Below w.heap.size w W) := Lib.hid (by rw [hW]; exact below_alloc _ _)
  have hcall := PRead_any d X gd s W (hd.next (by rw [hW]; exact below_alloc _ _)) hr hs (by omega)
  rw [← hL] at hcall ⊢
  have HCALL := Lib.hid hcall
  have HW := Lib.hid hW
  have hbox : W.heap[w.heap.size]? = some (.cells #[.int .i64 0, .int .i64 0, .int .i64 0] 87) := by rw [hW]; exact heap_new _ _ _ rfl
  have HBOX := Lib.hid hbox
  clear hd hr hs hu hL hW hcall hbox hLl
  go_enter Tryz.func86, Tryz.ntmps86
  go_wp2_with fail
  rw [← HW.out]
  refine HCALL.out.mono ?_
  rintro e w1 ⟨v, rfl, hown⟩
  have HO := Lib.hid hown
  obtain ⟨va, vc, rfl⟩ := hown.slice
  have hbox1 : w1.heap[w.heap.size]? = some (.cells #[.int .i64 0, .int .i64 0, .int .i64 0] 87) := old_below HBOX.out hown.1
  have HX1 := Lib.hid hbox1
  have HB2 : Hid (Below w.heap.size w w1) := Lib.hid (HB1.out.trans (HO.out.1.mono HB1.out.size))
  clear hown hbox1
  by_cases h4 : L.length < 4
  · have h4i : (L.length : Int) < 4 := by omega
    have HP : Hid (pslot L = (0, (0, -1))) := Lib.hid (by unfold pslot slot; rw [if_pos h4]; rfl)
    clear h4
    have hS : Below w1.heap.size w1 w1.drew := (Below.refl _ _).drew
    go_wp2_with fail
    refine wp_region_held (S := fun w' => Below w1.heap.size w1 w') (by kernel_rfl) ?_
    refine H_take (i := 0) (v := ?_) rfl (by as_aux_lemma => kernel_rfl) (by as_aux_lemma => kernel_rfl) (by as_aux_lemma => kernel_rfl) (fun _ _ _ h => h) (by rfl) hS ?_ ?_
    rotate_left
    · intro w' hw'; go_simp; with_reducible rfl
    go_simp
    refine H_take (i := 1) (v := ?_) rfl (by as_aux_lemma => kernel_rfl) (by as_aux_lemma => kernel_rfl) (by as_aux_lemma => kernel_rfl) (fun _ _ _ h => h) (by rfl) hS ?_ ?_
    rotate_left
    · intro w' hw'; go_simp; with_reducible rfl
    go_simp
    refine H_take (i := 2) (v := ?_) rfl (by as_aux_lemma => kernel_rfl) (by as_aux_lemma => kernel_rfl) (by as_aux_lemma => kernel_rfl) (fun _ _ _ h => h) (by rfl) hS ?_ ?_
    rotate_left
    · intro w' hw'; go_simp; with_reducible rfl
    go_simp
    refine H_take (i := 3) (v := ?_) rfl (by as_aux_lemma => kernel_rfl) (by as_aux_lemma => kernel_rfl) (by as_aux_lemma => kernel_rfl) (fun _ _ _ h => h) (by rfl) hS ?_ ?_
    rotate_left
    · intro w' hw'; go_simp; with_reducible rfl
    go_simp
    refine H_skip (i := 4) rfl (by as_aux_lemma => kernel_rfl) (by as_aux_lemma => kernel_rfl) (by as_aux_lemma => kernel_rfl) (fun _ _ _ h => h) (by rfl) hS ?_
    go_simp
    refine H_skip (i := 5) rfl (by as_aux_lemma => kernel_rfl) (by as_aux_lemma => kernel_rfl) (by as_aux_lemma => kernel_rfl) (fun _ _ _ h => h) (by rfl) hS ?_
    go_simp
    refine H_skip (i := 6) rfl (by as_aux_lemma => kernel_rfl) (by as_aux_lemma => kernel_rfl) (by as_aux_lemma => kernel_rfl) (fun _ _ _ h => h) (by rfl) hS ?_
    go_simp
    refine H_skip (i := 7) rfl (by as_aux_lemma => kernel_rfl) (by as_aux_lemma => kernel_rfl) (by as_aux_lemma => kernel_rfl) (fun _ _ _ h => h) (by rfl) hS ?_
    go_simp
    refine H_skip (i := 8) rfl (by as_aux_lemma => kernel_rfl) (by as_aux_lemma => kernel_rfl) (by as_aux_lemma => kernel_rfl) (fun _ _ _ h => h) (by rfl) hS ?_
    go_simp
    refine H_skip (i := 9) rfl (by as_aux_lemma => kernel_rfl) (by as_aux_lemma => kernel_rfl) (by as_aux_lemma => kernel_rfl) (fun _ _ _ h => h) (by rfl) hS ?_
    go_simp
    refine H_skip (i := 10) rfl (by as_aux_lemma => kernel_rfl) (by as_aux_lemma => kernel_rfl) (by as_aux_lemma => kernel_rfl) (fun _ _ _ h => h) (by rfl) hS ?_
    go_simp
    refine H_take (i := 11) (v := ?_) rfl (by as_aux_lemma => kernel_rfl) (by as_aux_lemma => kernel_rfl) (by as_aux_lemma => kernel_rfl) (fun _ _ _ h => h) (by rfl) hS ?_ ?_
    rotate_left
    · intro w' hw'; go_simp; with_reducible rfl
    go_simp
    refine wpAnyH_done (by as_aux_lemma => kernel_rfl) ?_ _
    clear hS
    go_wp2_with fail
    refine (none_any _).mono ?_
    rintro e w2 ⟨rfl, hb2⟩
    have hb3 : Below w1.heap.size w1 w2 := (Below.refl _ _).drew.trans hb2
    have HB3 : Hid (Below w.heap.size w w2) := Lib.hid (HB2.out.trans (hb3.mono HB2.out.size))
    obtain ⟨c0, c1, c2, f0, f1, f2, hz⟩ := block3 (old_below HX1.out hb3)
    clear hb2 hb3
    go_wp2_with fail
    refine bodyPost_ret (v := slotV 0 (0, -1)) (by simp [results, Tryz.results86, go_sem, c0, c1, c2, hz, slotV]) rfl ?_
    rw [HP.out]
    exact ⟨rfl, ((HB3.out.setCell (by simp) _).setCell (by simp) _).setCell (by simp) _⟩
  · have h4i : decide ((L.length : Int) < 4) = false := by simp; omega
    obtain ⟨g, rfl, hg1, hg2⟩ := HO.out.head (by omega)
    have hS : Below w1.heap.size w1 w1.drew := (Below.refl _ _).drew
    have hat := fun j hj => (HO.out.at rfl j hj).1
    have r0 : ∀ w', Below w1.heap.size w1 w' → w'.cell? ⟨g, 0, none⟩ = some (.int .u8 (L[0].toNat : Int)) := fun w' hw' => (hw'.cell hg2).trans (hat 0 (by omega))
    have r1 : ∀ w', Below w1.heap.size w1 w' → w'.cell? ⟨g, 1, none⟩ = some (.int .u8 (L[1].toNat : Int)) := fun w' hw' => (hw'.cell hg2).trans (hat 1 (by omega))
    have r2 : ∀ w', Below w1.heap.size w1 w' → w'.cell? ⟨g, 2, none⟩ = some (.int .u8 (L[2].toNat : Int)) := fun w' hw' => (hw'.cell hg2).trans (hat 2 (by omega))
    have r3 : ∀ w', Below w1.heap.size w1 w' → w'.cell? ⟨g, 3, none⟩ = some (.int .u8 (L[3].toNat : Int)) := fun w' hw' => (hw'.cell hg2).trans (hat 3 (by omega))
    have hlc : L.length ≤ vc ∧ vc ≤ 9223372036854775807 := by
      rcases HO.out.rep with ⟨h, -⟩ | ⟨b, off, c, h, -, h1, h2, -⟩
      · rw [h] at h4; simp at h4
      · cases h; exact ⟨h1, h2⟩
    have HD : Hid (∀ w' : World, Below w1.heap.size w1 w' → RepB w' (fun k => k < w'.heap.size) (L.drop 4) (.slice (if vc = 4 then some ⟨g, 0, none⟩ else some ⟨g, 4, none⟩) (L.length - 4) (vc - 4))) := Lib.hid fun w' hw' => by
      have h1 := hw'.size
      refine RepB.drop4 (by omega) (fun j hj => ?_) (by omega) hlc.1 hlc.2
      have h2 := hw'.cell (p := ⟨g, j, none⟩) hg2
      rw [h2]
      exact hat j hj
    clear hat hlc
    have h4b : (4 : Int) ≤ (L.length : Int) := by omega
    have har : ∀ w' : World, (Instr.arrayAt 170 (.slice (some ⟨g, 0, none⟩) L.length vc)).run Tryz.prog w' = .ok (.pointer (some ⟨g, 0, none⟩)) w' := fun w' => run_arrayAt w' 170 _ 4 _ L.length vc Tryz.underlying170 (by omega)
    go_wp2_with fail
    refine wp_region_held (S := fun w' => Below w1.heap.size w1 w') (by kernel_rfl) ?_
    refine H_take (i := 0) (v := ?_) rfl (by as_aux_lemma => kernel_rfl) (by as_aux_lemma => kernel_rfl) (by as_aux_lemma => kernel_rfl) (fun _ _ _ h => h) (by rfl) hS ?_ ?_
    rotate_left
    · intro w' hw'; go_simp; with_reducible rfl
    go_simp
    refine H_take (i := 1) (v := ?_) rfl (by as_aux_lemma => kernel_rfl) (by as_aux_lemma => kernel_rfl) (by as_aux_lemma => kernel_rfl) (fun _ _ _ h => h) (by rfl) hS ?_ ?_
    rotate_left
    · intro w' hw'; go_simp; with_reducible rfl
    go_simp
    refine H_take (i := 2) (v := ?_) rfl (by as_aux_lemma => kernel_rfl) (by as_aux_lemma => kernel_rfl) (by as_aux_lemma => kernel_rfl) (fun _ _ _ h => h) (by rfl) hS ?_ ?_
    rotate_left
    · intro w' hw'; go_simp; with_reducible rfl
    go_simp
    refine H_take (i := 3) (v := ?_) rfl (by as_aux_lemma => kernel_rfl) (by as_aux_lemma => kernel_rfl) (by as_aux_lemma => kernel_rfl) (fun _ _ _ h => h) (by rfl) hS ?_ ?_
    rotate_left
    · intro w' hw'; go_simp; with_reducible rfl
    go_simp
    refine H_take (i := 4) (v := ?_) rfl (by as_aux_lemma => kernel_rfl) (by as_aux_lemma => kernel_rfl) (by as_aux_lemma => kernel_rfl) (fun _ _ _ h => h) (by rfl) hS ?_ ?_
    rotate_left
    · intro w' hw'; go_simp; with_reducible rfl
    go_simp
    refine H_take (i := 5) (v := ?_) rfl (by as_aux_lemma => kernel_rfl) (by as_aux_lemma => kernel_rfl) (by as_aux_lemma => kernel_rfl) (fun _ _ _ h => h) (by rfl) hS ?_ ?_
    rotate_left
    · intro w' hw'; go_simp; with_reducible rfl
    go_simp
    refine H_take (i := 7) (v := ?_) rfl (by as_aux_lemma => kernel_rfl) (by as_aux_lemma => kernel_rfl) (by as_aux_lemma => kernel_rfl) (fun _ _ _ h => h) (by rfl) hS ?_ ?_
    rotate_left
    · intro w' hw'; go_simp; with_reducible rfl
    go_simp
    refine H_take (i := 8) (v := ?_) rfl (by as_aux_lemma => kernel_rfl) (by as_aux_lemma => kernel_rfl) (by as_aux_lemma => kernel_rfl) (fun _ _ _ h => h) (by rfl) hS ?_ ?_
    rotate_left
    · intro w' hw'; go_simp; with_reducible rfl
    go_simp
    refine H_take (i := 9) (v := ?_) rfl (by as_aux_lemma => kernel_rfl) (by as_aux_lemma => kernel_rfl) (by as_aux_lemma => kernel_rfl) (fun _ _ _ h => h) (by rfl) hS ?_ ?_
    rotate_left
    · intro w' hw'; go_simp; with_reducible rfl
    go_simp
    refine H_one (i := 6) (by as_aux_lemma => kernel_rfl) rfl (by rfl) ?_
    go_simp
    have HT1 : Hid (Tab w1) := Lib.hid (hT.out.next (HB1.out.trans (HO.out.1.mono HB1.out.size)))
    refine (sumOf_any (L.drop 4) _ _ w1.drew (HD.out _ hS) (fun _ h => h) (Lib.hid (HT1.out.next (Below.refl _ _).drew))).mono ?_
    rintro e w2 ⟨rfl, hb2⟩
    have hcs : C.sumOf (L.drop 4) < 4294967296 := C.sumOf_lt _
    obtain ⟨cs, hcs2⟩ : ∃ cs, cs = C.sumOf (L.drop 4) := ⟨_, rfl⟩
    rw [← hcs2] at hcs ⊢
    have HCS := Lib.hid hcs2
    obtain ⟨tb, htb⟩ : ∃ tb, tb = decide (L.take 4 = four cs) := ⟨_, rfl⟩
    have heq : ∀ w' : World, (Op.equalIn 10000 170 (.agg #[.int .u8 ((cs : Int) / 16777216), .int .u8 ((cs : Int) / 65536 % 256), .int .u8 ((cs : Int) / 256 % 256), .int .u8 ((cs : Int) % 256)]) (.agg #[.int .u8 (L[0].toNat : Int), .int .u8 (L[1].toNat : Int), .int .u8 (L[2].toNat : Int), .int .u8 (L[3].toNat : Int)])).run Tryz.prog w' = .ok tb w' := fun w' => by
      rw [eq4_any, four_test hcs (show 4 ≤ L.length by omega), htb]
    have HTB := Lib.hid htb
    clear hcs2 htb
    have hS2 : Below w1.heap.size w1 w2 := (Below.refl _ _).drew.trans hb2
    unfold fourV
    refine ⟨hS2, ?_⟩
    go_simp
    refine H_take (i := 10) (v := ?_) rfl (by as_aux_lemma => kernel_rfl) (by as_aux_lemma => kernel_rfl) (by as_aux_lemma => kernel_rfl) (fun _ _ _ h => h) (by rfl) hS2 ?_ ?_
    rotate_left
    · intro w' hw'; go_simp; with_reducible rfl
    go_simp
    refine H_take (i := 11) (v := ?_) rfl (by as_aux_lemma => kernel_rfl) (by as_aux_lemma => kernel_rfl) (by as_aux_lemma => kernel_rfl) (fun _ _ _ h => h) (by rfl) hS2 ?_ ?_
    rotate_left
    · intro w' hw'; go_simp; with_reducible rfl
    go_simp
    refine wpAnyH_done (by as_aux_lemma => kernel_rfl) ?_ _
    have HS2 := Lib.hid hS2
    have HBW2 : Hid (Below w.heap.size w w2) := Lib.hid (HB2.out.trans (hS2.mono HB2.out.size))
    clear r0 r1 r2 r3 hS hS2 heq hb2 h4i
    cases tb with
    | true =>
      have HF4 : Hid (L.take 4 = four cs) := Lib.hid (of_decide_eq_true HTB.out.symm)
      clear hcs
      obtain ⟨sa, sc, HDD, hsa⟩ : ∃ sa sc, Hid (RepB w2 (fun k => k < w2.heap.size) (L.drop 4) (.slice sa (L.length - 4) sc)) ∧ ((vc = 4 ∧ sa = some ⟨g, 0, none⟩ ∧ sc = 0) ∨ (¬ vc = 4 ∧ sa = some ⟨g, 4, none⟩ ∧ sc = vc - 4)) := by
        have h1 := HD.out _ HS2.out
        by_cases hv : vc = 4
        · rw [if_pos hv, hv] at h1
          exact ⟨_, _, Lib.hid h1, .inl ⟨hv, rfl, rfl⟩⟩
        · rw [if_neg hv] at h1
          exact ⟨_, _, Lib.hid h1, .inr ⟨hv, rfl, rfl⟩⟩
      rcases hsa with ⟨hv, rfl, rfl⟩ | ⟨hv, rfl, rfl⟩
      all_goals
        first | subst hv | skip
        go_wp2_with fail
        refine (Take_any nmRow (L.drop 4) _ _ w2 (by decide) HDD.out (fun _ h => h) (by rw [List.length_drop]; have := HLL.out; omega)).mono ?_
        rintro e w3 ⟨hb3, hr3⟩
        have HS3 := Lib.hid (HS2.out.trans (hb3.mono HS2.out.size))
        have HBW3 : Hid (Below w.heap.size w w3) := Lib.hid (HBW2.out.trans (hb3.mono HBW2.out.size))
        have hz3 := HS3.out.size
        clear hb3
        cases hq : takeAt nmRow.data.toList (L.drop 4) with
        | error c =>
          rw [hq] at hr3
          subst hr3
          have hc0 : (c != 0) = true := by
            have := takeAt_err hq
            simp only [bne, this]; rfl
          have HP : Hid (pslot L = (0, (0, -1))) := Lib.hid (by
            have h1 : slot L = (0, (0, 0)) := by
              unfold slot
              rw [if_neg h4, if_neg (by rw [← HCS.out]; exact fun h => h HF4.out)]
              rw [take_row] at hq
              cases h3 : three (L.drop 4) with
              | error e => rfl
              | ok p =>
                obtain ⟨⟨x, y, z⟩, q⟩ := p
                rw [h3] at hq
                cases q with
                | nil => cases hq
                | cons a q => rfl
            unfold pslot; rw [h1]; rfl)
          clear hq
          go_wp2_with fail
          refine (none_any _).mono ?_
          rintro e w4 ⟨rfl, hb4⟩
          have HB4 : Hid (Below w.heap.size w w4) := Lib.hid (HBW3.out.trans ((below_alloc _ _).trans (hb4.mono (by simp)) |>.mono HBW3.out.size))
          obtain ⟨c0, c1, c2, f0, f1, f2, hz⟩ := block3 (old_below (old_alloc (old_below HX1.out HS3.out)) hb4)
          clear hb4
          go_wp2_with fail
          refine bodyPost_ret (v := slotV 0 (0, -1)) (by simp [results, Tryz.results86, go_sem, c0, c1, c2, hz, slotV]) rfl ?_
          rw [HP.out]
          exact ⟨rfl, ((HB4.out.setCell (by simp) _).setCell (by simp) _).setCell (by simp) _⟩
        | ok dd =>
          rw [hq] at hr3
          obtain ⟨u, rfl, hu⟩ := hr3
          rw [take_row] at hq
          cases h3 : three (L.drop 4) with
          | error e => rw [h3] at hq; cases hq
          | ok p =>
            obtain ⟨⟨x, y, z⟩, q⟩ := p
            rw [h3] at hq
            cases q with
            | cons a q => cases hq
            | nil =>
              cases hq
              obtain ⟨vb, vl, rfl, -, hvb, hvl⟩ := RepV_mk.1 hu
              obtain ⟨lb, lo, lc, rfl, hlb, hx, hy, hzz, e0, e1, e2⟩ := rep_three hvl
              have hlb2 := hlb.2
              have HSL : Hid (slot L = if x < top ∧ y < top ∧ z ≤ top then (x, ((y : Int), (z : Int) - 1)) else (0, (0, 0))) := Lib.hid (by
                unfold slot
                rw [if_neg h4, if_neg (by rw [← HCS.out]; exact fun h => h HF4.out), h3])
              obtain ⟨bba, bbn, bbc, rfl⟩ : ∃ a n c, vb = .slice a n c := by
                obtain ⟨a, c, h, -⟩ := hvb.slice
                exact ⟨a, _, c, h⟩
              have HX3 : Hid (w3.heap[w.heap.size]? = some (.cells #[.int .i64 0, .int .i64 0, .int .i64 0] 87)) := Lib.hid (old_below HX1.out HS3.out)
              clear hu hvb hvl hlb h3
              simp only [Int.natCast_zero]
              go_wp2_with fail
              obtain ⟨wr, hwr⟩ : ∃ wr, wr = w3.alloc (.cells #[.int .u64 0, .slice bba bbn bbc, .slice (some ⟨lb, lo, none⟩) 3 lc] 149) := ⟨_, rfl⟩
              have hb4 : Below w3.heap.size w3 wr := by rw [hwr]; exact below_alloc _ _
              have hbx : wr.heap[w3.heap.size]? = some (.cells #[.int .u64 0, .slice bba bbn bbc, .slice (some ⟨lb, lo, none⟩) 3 lc] 149) := by rw [hwr]; exact heap_new _ _ _ rfl
              obtain ⟨-, -, bx2, -, -, -, bxz⟩ := block3 hbx
              have e0' := (hb4.cell (p := ⟨lb, lo, none⟩) hlb2).trans e0
              have e1' := (hb4.cell (p := ⟨lb, lo + 3, none⟩) hlb2).trans e1
              have e2' := (hb4.cell (p := ⟨lb, lo + 6, none⟩) hlb2).trans e2
              have hlb4 := Nat.lt_of_lt_of_le hlb2 hb4.size
              have q2 : ∀ w', Below wr.heap.size wr w' → w'.cell? ⟨w3.heap.size, 2, none⟩ = some (.slice (some ⟨lb, lo, none⟩) 3 lc) := fun w' hw' => (hw'.cell bxz).trans bx2
              have r0 : ∀ w', Below wr.heap.size wr w' → w'.cell? ⟨lb, lo, none⟩ = some (.int .u64 (x : Int)) := fun w' hw' => (hw'.cell hlb4).trans e0'
              have r1 : ∀ w', Below wr.heap.size wr w' → w'.cell? ⟨lb, lo + 3, none⟩ = some (.int .u64 (y : Int)) := fun w' hw' => (hw'.cell hlb4).trans e1'
              have r2 : ∀ w', Below wr.heap.size wr w' → w'.cell? ⟨lb, lo + 6, none⟩ = some (.int .u64 (z : Int)) := fun w' hw' => (hw'.cell hlb4).trans e2'
              have HBR : Hid (Below w.heap.size w wr) := Lib.hid (HBW3.out.trans (hb4.mono HBW3.out.size))
              have HXR : Hid (wr.heap[w.heap.size]? = some (.cells #[.int .i64 0, .int .i64 0, .int .i64 0] 87)) := Lib.hid (old_below HX3.out hb4)
              rw [← hwr]
              have hS : Below wr.heap.size wr wr.drew := (Below.refl _ _).drew
              clear hwr hb4 hbx bx2 e0 e1 e2 e0' e1' e2'
              refine wp_region_held (S := fun w' => Below wr.heap.size wr w') (by kernel_rfl) ?_
              refine H_take (i := 0) (v := ?_) rfl (by as_aux_lemma => kernel_rfl) (by as_aux_lemma => kernel_rfl) (by as_aux_lemma => kernel_rfl) (fun _ _ _ h => h) (by rfl) hS ?_ ?_
              rotate_left
              · intro w' hw'; go_simp; with_reducible rfl
              go_simp
              refine H_take (i := 1) (v := ?_) rfl (by as_aux_lemma => kernel_rfl) (by as_aux_lemma => kernel_rfl) (by as_aux_lemma => kernel_rfl) (fun _ _ _ h => h) (by rfl) hS ?_ ?_
              rotate_left
              · intro w' hw'; go_simp; with_reducible rfl
              go_simp
              refine H_take (i := 2) (v := ?_) rfl (by as_aux_lemma => kernel_rfl) (by as_aux_lemma => kernel_rfl) (by as_aux_lemma => kernel_rfl) (fun _ _ _ h => h) (by rfl) hS ?_ ?_
              rotate_left
              · intro w' hw'; go_simp; with_reducible rfl
              go_simp
              refine H_take (i := 3) (v := ?_) rfl (by as_aux_lemma => kernel_rfl) (by as_aux_lemma => kernel_rfl) (by as_aux_lemma => kernel_rfl) (fun _ _ _ h => h) (by rfl) hS ?_ ?_
              rotate_left
              · intro w' hw'; go_simp; with_reducible rfl
              go_simp
              refine H_take (i := 4) (v := ?_) rfl (by as_aux_lemma => kernel_rfl) (by as_aux_lemma => kernel_rfl) (by as_aux_lemma => kernel_rfl) (fun _ _ _ h => h) (by rfl) hS ?_ ?_
              rotate_left
              · intro w' hw'; go_simp; with_reducible rfl
              go_simp
              refine H_take (i := 5) (v := ?_) rfl (by as_aux_lemma => kernel_rfl) (by as_aux_lemma => kernel_rfl) (by as_aux_lemma => kernel_rfl) (fun _ _ _ h => h) (by rfl) hS ?_ ?_
              rotate_left
              · intro w' hw'; go_simp; with_reducible rfl
              go_simp
              refine H_take (i := 6) (v := ?_) rfl (by as_aux_lemma => kernel_rfl) (by as_aux_lemma => kernel_rfl) (by as_aux_lemma => kernel_rfl) (fun _ _ _ h => h) (by rfl) hS ?_ ?_
              rotate_left
              · intro w' hw'; go_simp; with_reducible rfl
              go_simp
              refine H_take (i := 7) (v := ?_) rfl (by as_aux_lemma => kernel_rfl) (by as_aux_lemma => kernel_rfl) (by as_aux_lemma => kernel_rfl) (fun _ _ _ h => h) (by rfl) hS ?_ ?_
              rotate_left
              · intro w' hw'; go_simp; with_reducible rfl
              go_simp
              refine H_take (i := 8) (v := ?_) rfl (by as_aux_lemma => kernel_rfl) (by as_aux_lemma => kernel_rfl) (by as_aux_lemma => kernel_rfl) (fun _ _ _ h => h) (by rfl) hS ?_ ?_
              rotate_left
              · intro w' hw'; go_simp; with_reducible rfl
              go_simp
              refine H_take (i := 9) (v := ?_) rfl (by as_aux_lemma => kernel_rfl) (by as_aux_lemma => kernel_rfl) (by as_aux_lemma => kernel_rfl) (fun _ _ _ h => h) (by rfl) hS ?_ ?_
              rotate_left
              · intro w' hw'; go_simp; with_reducible rfl
              go_simp
              refine H_take (i := 10) (v := ?_) rfl (by as_aux_lemma => kernel_rfl) (by as_aux_lemma => kernel_rfl) (by as_aux_lemma => kernel_rfl) (fun _ _ _ h => h) (by rfl) hS ?_ ?_
              rotate_left
              · intro w' hw'; go_simp; with_reducible rfl
              go_simp
              refine H_take (i := 11) (v := ?_) rfl (by as_aux_lemma => kernel_rfl) (by as_aux_lemma => kernel_rfl) (by as_aux_lemma => kernel_rfl) (fun _ _ _ h => h) (by rfl) hS ?_ ?_
              rotate_left
              · intro w' hw'; go_simp; with_reducible rfl
              go_simp
              refine H_take (i := 12) (v := ?_) rfl (by as_aux_lemma => kernel_rfl) (by as_aux_lemma => kernel_rfl) (by as_aux_lemma => kernel_rfl) (fun _ _ _ h => h) (by rfl) hS ?_ ?_
              rotate_left
              · intro w' hw'; go_simp; with_reducible rfl
              go_simp
              refine H_take (i := 13) (v := ?_) rfl (by as_aux_lemma => kernel_rfl) (by as_aux_lemma => kernel_rfl) (by as_aux_lemma => kernel_rfl) (fun _ _ _ h => h) (by rfl) hS ?_ ?_
              rotate_left
              · intro w' hw'; go_simp; with_reducible rfl
              go_simp
              refine H_take (i := 14) (v := ?_) rfl (by as_aux_lemma => kernel_rfl) (by as_aux_lemma => kernel_rfl) (by as_aux_lemma => kernel_rfl) (fun _ _ _ h => h) (by rfl) hS ?_ ?_
              rotate_left
              · intro w' hw'; go_simp; with_reducible rfl
              go_simp
              refine H_take (i := 15) (v := ?_) rfl (by as_aux_lemma => kernel_rfl) (by as_aux_lemma => kernel_rfl) (by as_aux_lemma => kernel_rfl) (fun _ _ _ h => h) (by rfl) hS ?_ ?_
              rotate_left
              · intro w' hw'; go_simp; with_reducible rfl
              go_simp
              refine H_take (i := 16) (v := ?_) rfl (by as_aux_lemma => kernel_rfl) (by as_aux_lemma => kernel_rfl) (by as_aux_lemma => kernel_rfl) (fun _ _ _ h => h) (by rfl) hS ?_ ?_
              rotate_left
              · intro w' hw'; go_simp; with_reducible rfl
              go_simp
              refine H_take (i := 17) (v := ?_) rfl (by as_aux_lemma => kernel_rfl) (by as_aux_lemma => kernel_rfl) (by as_aux_lemma => kernel_rfl) (fun _ _ _ h => h) (by rfl) hS ?_ ?_
              rotate_left
              · intro w' hw'; go_simp; with_reducible rfl
              go_simp
              refine wpAnyH_done (by as_aux_lemma => kernel_rfl) ?_ _
              clear q2 r0 r1 r2 hS
              have HPN : Hid ((x < 1 ∨ top ≤ x ∨ top ≤ y ∨ top < z) → pslot L = (0, (0, -1))) := Lib.hid fun h => pslot_none HSL.out h
              rcases (show (x : Int) < 1 ∨ (¬ (x : Int) < 1 ∧ ((4611686018427387904 : Int) ≤ (x : Int) ∨ (¬ (4611686018427387904 : Int) ≤ (x : Int) ∧ ((4611686018427387904 : Int) ≤ (y : Int) ∨ (¬ (4611686018427387904 : Int) ≤ (y : Int) ∧ ((4611686018427387904 : Int) < (z : Int) ∨ ¬ (4611686018427387904 : Int) < (z : Int))))))) by omega) with k1 | ⟨k1, k2 | ⟨k2, k3 | ⟨k3, k4 | k4⟩⟩⟩
              · have HP := Lib.hid (HPN.out (.inl (by omega)))
                clear HPN
                go_wp2_with fail
                refine (none_any _).mono ?_
                rintro e w4 ⟨rfl, hb5⟩
                have HB5 : Hid (Below w.heap.size w w4) := Lib.hid (HBR.out.trans (((Below.refl _ _).drew.trans hb5).mono HBR.out.size))
                obtain ⟨c0, c1, c2, f0, f1, f2, hz⟩ := block3 (old_below HXR.out ((Below.refl _ _).drew.trans hb5))
                clear hb5
                go_wp2_with fail
                refine bodyPost_ret (v := slotV 0 (0, -1)) (by simp [results, Tryz.results86, go_sem, c0, c1, c2, hz, slotV]) rfl ?_
                rw [HP.out]
                exact ⟨rfl, ((HB5.out.setCell (by simp) _).setCell (by simp) _).setCell (by simp) _⟩
              · have HP := Lib.hid (HPN.out (.inr (.inl (by unfold top; omega))))
                have t1 : decide ((x : Int) < 1) = false := by simp; omega
                clear HPN
                go_wp2_with fail
                refine (none_any _).mono ?_
                rintro e w4 ⟨rfl, hb5⟩
                have HB5 : Hid (Below w.heap.size w w4) := Lib.hid (HBR.out.trans (((Below.refl _ _).drew.trans hb5).mono HBR.out.size))
                obtain ⟨c0, c1, c2, f0, f1, f2, hz⟩ := block3 (old_below HXR.out ((Below.refl _ _).drew.trans hb5))
                clear hb5
                go_wp2_with fail
                refine bodyPost_ret (v := slotV 0 (0, -1)) (by simp [results, Tryz.results86, go_sem, c0, c1, c2, hz, slotV]) rfl ?_
                rw [HP.out]
                exact ⟨rfl, ((HB5.out.setCell (by simp) _).setCell (by simp) _).setCell (by simp) _⟩
              · have HP := Lib.hid (HPN.out (.inr (.inr (.inl (by unfold top; omega)))))
                have t1 : decide ((x : Int) < 1) = false := by simp; omega
                have t2 : decide ((4611686018427387904 : Int) ≤ (x : Int)) = false := by simp; omega
                clear HPN
                go_wp2_with fail
                refine (none_any _).mono ?_
                rintro e w4 ⟨rfl, hb5⟩
                have HB5 : Hid (Below w.heap.size w w4) := Lib.hid (HBR.out.trans (((Below.refl _ _).drew.trans hb5).mono HBR.out.size))
                obtain ⟨c0, c1, c2, f0, f1, f2, hz⟩ := block3 (old_below HXR.out ((Below.refl _ _).drew.trans hb5))
                clear hb5
                go_wp2_with fail
                refine bodyPost_ret (v := slotV 0 (0, -1)) (by simp [results, Tryz.results86, go_sem, c0, c1, c2, hz, slotV]) rfl ?_
                rw [HP.out]
                exact ⟨rfl, ((HB5.out.setCell (by simp) _).setCell (by simp) _).setCell (by simp) _⟩
              · have HP := Lib.hid (HPN.out (.inr (.inr (.inr (by unfold top; omega)))))
                have t1 : decide ((x : Int) < 1) = false := by simp; omega
                have t2 : decide ((4611686018427387904 : Int) ≤ (x : Int)) = false := by simp; omega
                have t3 : decide ((4611686018427387904 : Int) ≤ (y : Int)) = false := by simp; omega
                clear HPN
                go_wp2_with fail
                refine (none_any _).mono ?_
                rintro e w4 ⟨rfl, hb5⟩
                have HB5 : Hid (Below w.heap.size w w4) := Lib.hid (HBR.out.trans (((Below.refl _ _).drew.trans hb5).mono HBR.out.size))
                obtain ⟨c0, c1, c2, f0, f1, f2, hz⟩ := block3 (old_below HXR.out ((Below.refl _ _).drew.trans hb5))
                clear hb5
                go_wp2_with fail
                refine bodyPost_ret (v := slotV 0 (0, -1)) (by simp [results, Tryz.results86, go_sem, c0, c1, c2, hz, slotV]) rfl ?_
                rw [HP.out]
                exact ⟨rfl, ((HB5.out.setCell (by simp) _).setCell (by simp) _).setCell (by simp) _⟩
              · have HP : Hid (pslot L = (x, ((y : Int), (z : Int) - 1))) := Lib.hid (pslot_some HSL.out (by unfold top; omega))
                have t1 : decide ((x : Int) < 1) = false := by simp; omega
                have t2 : decide ((4611686018427387904 : Int) ≤ (x : Int)) = false := by simp; omega
                have t3 : decide ((4611686018427387904 : Int) ≤ (y : Int)) = false := by simp; omega
                have t4 : decide ((4611686018427387904 : Int) < (z : Int)) = false := by simp; omega
                have t5 : (x : Int) < 4611686018427387904 := by omega
                have t6 : (y : Int) < 4611686018427387904 := by omega
                have t7 : (z : Int) ≤ 4611686018427387904 := by omega
                obtain ⟨c0, c1, c2, f0, f1, f2, hz⟩ := block3 HXR.out
                clear HPN k1 k2 k3 k4
                go_wp2_with fail
                refine bodyPost_ret (v := slotV x ((y : Int), (z : Int) - 1)) (by simp [results, Tryz.results86, go_sem, c0, c1, c2, hz, slotV]) rfl ?_
                rw [HP.out]
                exact ⟨rfl, ((HBR.out.drew.setCell (by simp) _).setCell (by simp) _).setCell (by simp) _⟩
    | false =>
      have hfo : ¬ L.take 4 = four cs := of_decide_eq_false HTB.out.symm
      have HP : Hid (pslot L = (0, (0, -1))) := Lib.hid (by
        have h1 : slot L = (0, (0, 0)) := by
          unfold slot
          rw [if_neg h4, if_pos (by rw [← HCS.out]; exact hfo)]
        unfold pslot; rw [h1]; rfl)
      clear hfo
      obtain ⟨sa, hsa⟩ : ∃ sa, sa = (if vc = 4 then some (⟨g, 0, none⟩ : Addr) else some ⟨g, 4, none⟩) := ⟨_, rfl⟩
      rw [← hsa]
      clear hsa
      go_wp2_with fail
      refine (none_any _).mono ?_
      rintro e w3 ⟨rfl, hb3⟩
      have HB3 : Hid (Below w.heap.size w w3) := Lib.hid (HBW2.out.trans (hb3.mono HBW2.out.size))
      obtain ⟨c0, c1, c2, f0, f1, f2, hz⟩ := block3 (old_below (old_below HX1.out HS2.out) hb3)
      clear hb3
      go_wp2_with fail
      refine bodyPost_ret (v := slotV 0 (0, -1)) (by simp [results, Tryz.results86, go_sem, c0, c1, c2, hz, slotV]) rfl ?_
      rw [HP.out]
      exact ⟨rfl, ((HB3.out.setCell (by simp) _).setCell (by simp) _).setCell (by simp) _⟩
end Go.Proofs.YtgakcaobalfpjaaGreatDoor.M
