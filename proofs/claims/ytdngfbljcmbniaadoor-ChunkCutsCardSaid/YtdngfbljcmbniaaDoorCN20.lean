/- The document's Cut. A row of pieces whose bytes a law turns. Cutting: the program's pieces are the document's, and the bytes stay. -/
import Derived.Test.YtdngfbljcmbniaaDoorCN18
import Derived.Test.YtdngfbljcmbniaaDoorCN19
import Derived.Test.YtdngfbljcmbniaaDoorCN12
import Derived.Deep.CutRange
import Derived.OrdersHeld
import Derived.Deep.RegionHeld
import Derived.Deep.QuietTactic
import Derived.BigQuiet
/- Part: ChR2. -/
namespace Go.Proofs.YtdngfbljcmbniaaDoor.M
open Go.RowKit Go.Maps

/-- An append whose run is known. -/
theorem wpList_append_run7 {P : Program} (w : World) {ops : Array Oper} {rest : List Oper} {o : Oper} {a : Act} {Q : Exit → Act → World → Prop} (hgd : o.guard = none) (s y : Operand) (t : TypeId)
    (ho : o.op = .call { callee := .builtin .append, args := #[s, y], argTypes := #[t, t] }) (v x v' : Value) (w' : World) (hs : a.eval s = v) (hy : a.eval y = x)
    (hr : (Builtin.append_ #[t, t] o.type #[v, x]).run P w = .ok v' w') (h : wpList P ops Q rest (a.put o.dst v') w') : wpList P ops Q (o :: rest) a w := by
  refine wpList_plain hgd fun K' hK' => ?_
  unfold Oper.wp execOp
  simp only [ho, resolve, invoke, builtin, Sem.run_bind, Sem.run_pure, Result.andThen_ok, List.map_toArray, List.map_cons, List.map_nil, hs, hy, hr]
  exact hK' _ _ h

/-- Where the k-th round of the document's Cut stands. -/
theorem ref_more {n size k : Nat} (hs : 0 < size) (hk : 0 < k) (hk2 : k ≤ cutN n size) : (min (k * size) n < n ↔ k < cutN n size) := by
  by_cases hn : n = 0
  · subst hn
    unfold cutN at hk2 ⊢
    rw [if_pos rfl] at hk2 ⊢
    omega
  · rw [cutN_lt hs hn]; omega

theorem ref_at {n size k : Nat} (hs : 0 < size) (hk : k < cutN n size) : min (k * size) n = k * size ∧ k * size + min size (n - k * size) = min ((k + 1) * size) n := by
  have h1 := cut_end hs hk
  rw [Nat.add_mul, Nat.one_mul]
  omega

theorem RepB.elem7 {w : World} {F : Nat → Prop} {L : List UInt8} {a : Option Addr} {n c : Nat} (h : RepB w F L (.slice a n c)) {i : Nat} (hi : i < L.length) :
    ∃ b off, a = some ⟨b, off, none⟩ ∧ F b ∧ L.length ≤ c ∧ c ≤ 9223372036854775807 ∧ ∀ (j : Nat) (hj : j < L.length), w.cell? ⟨b, off + j, none⟩ = some (.int .u8 (L[j].toNat : Int)) := by
  rcases h with ⟨h, _⟩ | ⟨b, off, c', h, hb, h1, h2, hc⟩
  · rw [h] at hi; simp at hi
  · cases h
    exact ⟨b, off, rfl, hb, h1, h2, hc⟩

theorem RepB.mid7 {w : World} {F : Nat → Prop} {L : List UInt8} {b off c : Nat} (hF : F b) (hc : ∀ (j : Nat) (hj : j < L.length), w.cell? ⟨b, off + j, none⟩ = some (.int .u8 (L[j].toNat : Int))) (hl : L.length ≤ c) (hm : c ≤ 9223372036854775807) {k n : Nat} (hk : k + n ≤ L.length) :
    RepB w F ((L.drop k).take n) (.slice (if c = k then some ⟨b, off, none⟩ else some ⟨b, off + k, none⟩) n (c - k)) := by
  have e : ((L.drop k).take n).length = n := by rw [List.length_take, List.length_drop]; omega
  by_cases h : c = k
  · rw [if_pos h]
    obtain rfl : n = 0 := by omega
    refine .inl ⟨rfl, _, c - k, rfl, by omega, fun h => by cases h⟩
  · rw [if_neg h]
    refine .inr ⟨b, off + k, c - k, by rw [e], hF, by rw [e]; omega, by omega, fun i hi => ?_⟩
    rw [e] at hi
    have := hc (k + i) (by omega)
    rw [Nat.add_assoc, this]
    simp

/-- What stands ahead of a round. -/
def RcAt (W2 : World) (i t : Int) (b : List UInt8) (sz k : Nat) (ov : Value) (wr : World) : Prop :=
  Below W2.heap.size W2 wr ∧ ∃ pv, PcRow W2.heap.size pv ov wr ∧ pv.map (·.1) = pre i t b sz k

set_option maxRecDepth 100000 in
set_option maxHeartbeats 8000000 in
theorem RefCut7_any (i t : Int) (b : List UInt8) (size : Int) (F : Nat → Prop) (v : Value) (w : World) (hb : b.length ≤ 100000) (hs : size ≤ 9223372036854775807) (hv : RepB w F b v) (hF : ∀ k, F k → k < w.heap.size) :
    Calls Tryd.prog 7 #[mkAgg i t, v, .int .i64 size] w (CutPost w i t b size) := by
  obtain ⟨a, cap, rfl, -⟩ := hv.slice
  obtain ⟨n, hnn⟩ : ∃ n, n = b.length := ⟨_, rfl⟩
  obtain ⟨W1, hW1⟩ : ∃ W1, W1 = w.alloc (.cells #[.int .i64 i, .int .i64 t] 23) := ⟨_, rfl⟩
  have hb1 : Below w.heap.size w W1 := by rw [hW1]; exact below_alloc _ _
  have hx1 : W1.heap[w.heap.size]? = some (.cells #[.int .i64 i, .int .i64 t] 23) := by rw [hW1]; exact heap_new _ _ _ rfl
  have HRR := Lib.hid (RefRight7_any i t W1)
  unfold mkAgg at HRR ⊢
  obtain ⟨om, hom⟩ : ∃ om, om = okMark i t := ⟨_, rfl⟩
  rw [← hom] at HRR
  have HOM := Lib.hid hom
  have HN := Lib.hid hnn
  have HW1 := Lib.hid hW1
  have HX1 := Lib.hid hx1
  have HB1 := Lib.hid hb1
  have HV := Lib.hid hv
  have HF := Lib.hid hF
  have HBL := Lib.hid hb
  have HS := Lib.hid hs
  rw [← hnn]
  obtain ⟨d0, d1, dz⟩ : W1.cell? ⟨w.heap.size, 0, none⟩ = some (.int .i64 i) ∧ W1.cell? ⟨w.heap.size, 1, none⟩ = some (.int .i64 t) ∧ w.heap.size < W1.heap.size := ⟨cell_of_row _ _ 0 _ _ _ hx1, cell_of_row _ _ 1 _ _ _ hx1, lt_of_heap hx1⟩
  clear hom hnn hW1 hx1 hb1 hv hF hb hs
  cases om with
  | false =>
    go_enter Tryd.func7, Tryd.ntmps7
    go_wp2_with (go_at_call 22; rw [← HW1.out]; refine (HRR.out).mono ?_; rintro e w2 ⟨rfl, hb2⟩; have HB2 := Lib.hid hb2; clear hb2)
    go_ret2
    refine ⟨HB1.out.trans (HB2.out.mono HB1.out.size), ?_⟩
    rw [if_neg (by rw [← HOM.out]; rintro ⟨h, -⟩; cases h)]
    rfl
  | true =>
    by_cases hs1 : size < 1
    · have q1 : decide (size < 1) = true := decide_eq_true hs1
      go_enter Tryd.func7, Tryd.ntmps7
      go_wp2_with (go_at_call 22; rw [← HW1.out]; refine (HRR.out).mono ?_; rintro e w2 ⟨rfl, hb2⟩; have HB2 := Lib.hid hb2; clear hb2)
      go_ret2
      refine ⟨HB1.out.trans (HB2.out.mono HB1.out.size), ?_⟩
      rw [if_neg (by rintro ⟨-, h⟩; omega)]
      rfl
    · have q1 : decide (size < 1) = false := decide_eq_false hs1
      obtain ⟨sz, hsz⟩ : ∃ sz : Nat, (sz : Int) = size := ⟨size.toNat, by omega⟩
      have HSZ := Lib.hid hsz
      clear hsz
      go_enter Tryd.func7, Tryd.ntmps7
      go_wp2_with (go_at_call 22; rw [← HW1.out]; refine (HRR.out).mono ?_; rintro e w2 ⟨rfl, hb2⟩; have HB2 := Lib.hid hb2; clear hb2)
      have hsz0 : 0 < sz := by have := HSZ.out; omega
      have hnl : n ≤ 100000 := by rw [HN.out]; exact HBL.out
      obtain ⟨N, hN⟩ : ∃ N, N = cutN n sz := ⟨_, rfl⟩
      have hN1 : 1 ≤ N := by rw [hN]; exact cutN_pos hsz0
      have hN2 : N ≤ n + 1 := by rw [hN]; exact cutN_le hsz0
      have HNN := Lib.hid hN
      have HB2' : Hid (Below w.heap.size w w2) := Lib.hid (HB1.out.trans (HB2.out.mono HB1.out.size))
      have HX2 : Hid (w2.heap[w.heap.size]? = some (.cells #[.int .i64 i, .int .i64 t] 23)) := Lib.hid (old_below HX1.out HB2.out)
      rw [← HSZ.out]
      clear hN d0 d1 dz
      have HR0 : Hid (RcAt w2 i t b sz 0 (.slice none 0 0) w2) := Lib.hid ⟨Below.refl _ _, [], PcRow.nil _ _, rfl⟩
      go_loopg [8, 9, 10, 11] N (fun gk ov at_ _ _ wr => ∃ k tt : Nat, k + gk = N ∧ tt = min (k * sz) n ∧ at_ = .int .i64 (tt : Int) ∧ (∃ oa oc, ov = .slice oa k oc) ∧ Hid (RcAt w2 i t b sz k ov wr))
      case atStart => exact ⟨0, 0, by omega, by simp, rfl, ⟨none, 0, rfl⟩, HR0⟩
      case round =>
        obtain ⟨k, tt, hgk, htt, rfl, ⟨oa, oc, rfl⟩, hat⟩ := hrel
        by_cases hlt : k < N
        · obtain ⟨hr1, hr2⟩ := ref_at (n := n) (k := k) hsz0 (by rw [← HNN.out]; exact hlt)
          obtain ⟨pl, hpl⟩ : ∃ pl, pl = min sz (n - tt) := ⟨_, rfl⟩
          have htk : tt = k * sz := by rw [htt, hr1]
          have htp : tt + pl = min ((k + 1) * sz) n := by rw [hpl, htk]; exact hr2
          have htn : tt ≤ n := by omega
          have hpn : tt + pl ≤ n := by omega
          have hk0 : k ≠ 0 → tt < n := fun h => by
            have h1 := (ref_more (n := n) hsz0 (show 0 < k by omega) (by rw [← HNN.out]; omega)).2 (by rw [← HNN.out]; exact hlt)
            omega
          have HTK : Hid (tt = k * sz ∧ tt + pl = min ((k + 1) * sz) n ∧ pl = min sz (n - tt) ∧ k < N ∧ k + gk = N ∧ tt + pl ≤ n) := Lib.hid ⟨htk, htp, hpl, hlt, hgk, hpn⟩
          have HK0 := Lib.hid hk0
          obtain ⟨hbw, pv, hrow, hmap⟩ := hat.out
          have hkl : k = pv.length := by have := congrArg List.length hmap; rw [pre_length, List.length_map] at this; omega
          have HBW := Lib.hid hbw
          have HROW := Lib.hid hrow
          have HMAP := Lib.hid hmap
          have HKL := Lib.hid hkl
          obtain ⟨sm, hsm⟩ : ∃ sm, sm = C.sumOf b := ⟨_, rfl⟩
          have HSM := Lib.hid hsm
          have HBB : Hid (Below w.heap.size w wr) := Lib.hid (HB2'.out.trans (hbw.mono HB2'.out.size))
          have HVW : Hid (RepB wr F b (.slice a n cap)) := Lib.hid (by rw [HN.out]; exact HV.out.same (fun _ h => h) fun k hk => HBB.out.block k (HF.out k hk))
          have HOF : Hid (∀ W, Below wr.heap.size wr W → Calls Tryd.prog 23 #[.slice a n cap] W fun e w' => e = .returned (.int .u32 (sm : Int)) ∧ W = w') := Lib.hid fun W hb => by
            rw [hsm]
            exact RefOf_any b F _ W (HVW.out.same (fun _ h => h) fun k hk => hb.block k (Nat.lt_of_lt_of_le (HF.out k hk) HBB.out.size))
          have hxw : wr.heap[w.heap.size]? = some (.cells #[.int .i64 i, .int .i64 t] 23) := old_below HX2.out hbw
          obtain ⟨m0, m1, mz⟩ : wr.cell? ⟨w.heap.size, 0, none⟩ = some (.int .i64 i) ∧ wr.cell? ⟨w.heap.size, 1, none⟩ = some (.int .i64 t) ∧ w.heap.size < wr.heap.size := ⟨cell_of_row _ _ 0 _ _ _ hxw, cell_of_row _ _ 1 _ _ _ hxw, lt_of_heap hxw⟩
          have HM0 : Hid (∀ w', Below wr.heap.size wr w' → w'.cell? ⟨w.heap.size, 0, none⟩ = some (.int .i64 i) ∧ w'.cell? ⟨w.heap.size, 1, none⟩ = some (.int .i64 t)) := Lib.hid fun w' hb => ⟨(hb.cell (p := ⟨w.heap.size, 0, none⟩) mz).trans m0, (hb.cell (p := ⟨w.heap.size, 1, none⟩) mz).trans m1⟩
          clear htk htp hpl hlt hgk hk0 hbw hrow hmap hkl hsm hxw htt hat hr1 hr2 m0 m1 mz
          go_upto_region 5 with fail
          go_cut [27] from 19 to 59 (fun tv w' => tv = .bool true ∧ w' = wr)
          case first =>
            by_cases hk0 : k = 0
            · have q2 : ((k : Int) == 0) = true := by simp [hk0]
              go_wp2_with fail
              go_meet
              case rel => exact ⟨rfl, rfl⟩
            · have q2 : ((k : Int) == 0) = false := by simp; omega
              have q3 := HK0.out hk0
              go_wp2_with fail
              go_meet
              case rel => exact ⟨rfl, rfl⟩
          case rest =>
            obtain ⟨rfl, hwc⟩ := hcut
            obtain rfl : wr = wc := hwc.symm
            go_upto_if 34 with fail
            go_cut [10] from 19 to 59 (fun nv w' => nv = .int .i64 (pl : Int) ∧ w' = wr)
            case first =>
              have hc1 := HTK.out
              by_cases hgt : sz < n - tt
              · have q4 : (sz : Int) < (n : Int) - (tt : Int) := by omega
                clear hc1
                go_wp2_with fail
                go_meet
                case rel => exact ⟨by have := HTK.out; go_num, rfl⟩
              · have q4 : ¬ (sz : Int) < (n : Int) - (tt : Int) := by omega
                clear hc1
                go_wp2_with fail
                go_meet
                case rel => exact ⟨by have := HTK.out; go_num, rfl⟩
            case rest =>
              obtain ⟨rfl, hwc⟩ := hcut
              obtain rfl : wr = wc := hwc.symm
              go_upto_region 9 with fail
              go_cut [11] from 19 to 59 (fun pp w' => pp = .pointer (some ⟨wr.heap.size, 0, none⟩) ∧ w' = (wr.alloc (.cells #[.int .i64 i, .int .i64 t, .int .u32 (sm : Int), .int .i64 (n : Int), .int .i64 (tt : Int), .slice none 0 0] 35)).drew)
              case first =>
                have r0 := fun w' hb => (HM0.out w' hb).1
                have r1 := fun w' hb => (HM0.out w' hb).2
                refine wp_region_held (S := fun w' => Below wr.heap.size wr w') (by kernel_rfl) ?_
                have hS : Below wr.heap.size wr wr.drew := (Below.refl _ _).drew
                refine H_take (i := 0) (v := ?_) rfl (by as_aux_lemma => kernel_rfl) (by as_aux_lemma => kernel_rfl) (by as_aux_lemma => kernel_rfl) (fun _ _ _ h => h) (by rfl) hS ?_ ?_
                rotate_left
                · intro w' hw'; go_simp; with_reducible rfl
                go_simp
                refine H_take (i := 1) (v := ?_) rfl (by as_aux_lemma => kernel_rfl) (by as_aux_lemma => kernel_rfl) (by as_aux_lemma => kernel_rfl) (fun _ _ _ h => h) (by rfl) hS ?_ ?_
                rotate_left
                · intro w' hw'; go_simp; with_reducible rfl
                go_simp
                refine H_take (i := 3) (v := ?_) rfl (by as_aux_lemma => kernel_rfl) (by as_aux_lemma => kernel_rfl) (by as_aux_lemma => kernel_rfl) (fun _ _ _ h => h) (by rfl) hS ?_ ?_
                rotate_left
                · intro w' hw'; go_simp; with_reducible rfl
                go_simp
                refine H_take (i := 4) (v := ?_) rfl (by as_aux_lemma => kernel_rfl) (by as_aux_lemma => kernel_rfl) (by as_aux_lemma => kernel_rfl) (fun _ _ _ h => h) (by rfl) hS ?_ ?_
                rotate_left
                · intro w' hw'; go_simp; with_reducible rfl
                go_simp
                refine H_take (i := 5) (v := ?_) rfl (by as_aux_lemma => kernel_rfl) (by as_aux_lemma => kernel_rfl) (by as_aux_lemma => kernel_rfl) (fun _ _ _ h => h) (by rfl) hS ?_ ?_
                rotate_left
                · intro w' hw'; go_simp; with_reducible rfl
                go_simp
                refine H_both (i := 2) (j := 7) (by as_aux_lemma => kernel_rfl) rfl rfl (by rfl) (by rfl) ?_ ?_
                · go_simp
                  refine (HOF.out wr.drew hS).mono ?_
                  rintro e w3 ⟨rfl, rfl⟩
                  refine ⟨hS, ?_⟩
                  go_simp
                  refine H_take (i := 6) (v := ?_) rfl (by as_aux_lemma => kernel_rfl) (by as_aux_lemma => kernel_rfl) (by as_aux_lemma => kernel_rfl) (fun _ _ _ h => h) (by rfl) hS ?_ ?_
                  rotate_left
                  · intro w' hw'; go_simp; with_reducible rfl
                  go_simp
                  refine H_one (i := 7) (by as_aux_lemma => kernel_rfl) rfl (by rfl) ?_
                  go_simp
                  have hSb : Below wr.heap.size wr (wr.alloc (.cells #[.int .i64 0, .int .i64 0, .int .u32 0, .int .i64 0, .int .i64 0, .slice none 0 0] 35)).drew := (below_alloc _ _).drew
                  refine ⟨hSb, ?_⟩
                  refine H_one (i := 8) (by as_aux_lemma => kernel_rfl) rfl (by rfl) ?_
                  go_simp
                  have hSe : Below wr.heap.size wr (wr.alloc (.cells #[.int .i64 i, .int .i64 t, .int .u32 (sm : Int), .int .i64 (n : Int), .int .i64 (tt : Int), .slice none 0 0] 35)).drew := (below_alloc _ _).drew
                  refine ⟨hSe, ?_⟩
                  refine wpAnyH_done (by as_aux_lemma => kernel_rfl) ?_ _
                  go_wp2_with fail
                  go_meet
                  case rel => exact ⟨rfl, rfl⟩
                · go_simp
                  have hSb : Below wr.heap.size wr (wr.alloc (.cells #[.int .i64 0, .int .i64 0, .int .u32 0, .int .i64 0, .int .i64 0, .slice none 0 0] 35)).drew := (below_alloc _ _).drew
                  refine ⟨hSb, ?_⟩
                  refine H_one (i := 2) (by as_aux_lemma => kernel_rfl) rfl (by rfl) ?_
                  go_simp
                  refine (HOF.out (wr.alloc (.cells #[.int .i64 0, .int .i64 0, .int .u32 0, .int .i64 0, .int .i64 0, .slice none 0 0] 35)).drew hSb).mono ?_
                  rintro e w3 ⟨rfl, rfl⟩
                  refine ⟨hSb, ?_⟩
                  go_simp
                  refine H_take (i := 6) (v := ?_) rfl (by as_aux_lemma => kernel_rfl) (by as_aux_lemma => kernel_rfl) (by as_aux_lemma => kernel_rfl) (fun _ _ _ h => h) (by rfl) hSb ?_ ?_
                  rotate_left
                  · intro w' hw'; go_simp; with_reducible rfl
                  go_simp
                  refine H_one (i := 8) (by as_aux_lemma => kernel_rfl) rfl (by rfl) ?_
                  go_simp
                  have hSe : Below wr.heap.size wr (wr.alloc (.cells #[.int .i64 i, .int .i64 t, .int .u32 (sm : Int), .int .i64 (n : Int), .int .i64 (tt : Int), .slice none 0 0] 35)).drew := (below_alloc _ _).drew
                  refine ⟨hSe, ?_⟩
                  refine wpAnyH_done (by as_aux_lemma => kernel_rfl) ?_ _
                  go_wp2_with fail
                  go_meet
                  case rel => exact ⟨rfl, rfl⟩
              case rest =>
                obtain ⟨rfl, hwc⟩ := hcut
                obtain ⟨gp, hgp⟩ : ∃ gp, gp = wr.heap.size := ⟨_, rfl⟩
                have hb3 : Below wr.heap.size wr wc := by rw [hwc]; exact (below_alloc _ _).drew
                have hx3 : wc.heap[gp]? = some (.cells #[.int .i64 i, .int .i64 t, .int .u32 (sm : Int), .int .i64 (n : Int), .int .i64 (tt : Int), .slice none 0 0] 35) := by rw [hwc, hgp]; exact heap_new wr _ _ rfl
                rw [← hgp]
                have HGP := Lib.hid hgp
                have HB3 := Lib.hid hb3
                have HX3 := Lib.hid hx3
                have HV3 : Hid (RepB wc F b (.slice a n cap)) := Lib.hid (HVW.out.same (fun _ h => h) fun k hk => hb3.block k (Nat.lt_of_lt_of_le (HF.out k hk) HBB.out.size))
                obtain ⟨part, hpt⟩ : ∃ part, part = (b.drop tt).take pl := ⟨_, rfl⟩
                have hlen : part.length = pl := by rw [hpt, List.length_take, List.length_drop, ← HN.out]; have := HTK.out; omega
                have HPT := Lib.hid hpt
                have HLEN := Lib.hid hlen
                obtain ⟨-, -, -, -, -, p5, pz⟩ := six_cells hx3
                have HP5 : Hid (∀ w', Below wc.heap.size wc w' → w'.cell? ⟨gp, 5, none⟩ = some (.slice none 0 0)) := Lib.hid fun w' hb => (hb.cell (p := ⟨gp, 5, none⟩) pz).trans p5
                clear hwc hgp hb3 hx3 hpt hlen p5 pz
                have hpln : tt + pl ≤ n := HTK.out.2.2.2.2.2
                by_cases hn0 : n = 0
                · have htt0 : tt = 0 := by omega
                  have hpl0 : pl = 0 := by omega
                  have hp0 : part = [] := List.eq_nil_of_length_eq_zero (by rw [HLEN.out]; exact hpl0)
                  have HP0 : Hid (∀ (sa : Option Addr) (c : Nat), c ≤ 9223372036854775807 → (sa = none → c = 0) → RepB wc F part (.slice sa pl c)) := Lib.hid fun sa c h1 h2 => by rw [hp0, hpl0]; exact .inl ⟨rfl, sa, c, rfl, h1, h2⟩
                  have hcap : cap ≤ 9223372036854775807 ∧ (a = none → cap = 0) := by
                    rcases HV3.out with ⟨-, a', c', he, h1, h2⟩ | ⟨g, off, c', he, -, -, h1, -⟩
                    · cases he; exact ⟨h1, h2⟩
                    · cases he; exact ⟨h1, fun h => by cases h⟩
                  have h1 : (tt : Int) + (pl : Int) ≤ (cap : Int) := by omega
                  have h2 : (pl : Int) ≤ 1099511627776 := by omega
                  have h3 : (tt : Int) ≤ (tt : Int) + (pl : Int) := by omega
                  have hw2 : IntKind.i64.wrap ((tt : Int) + (pl : Int)) = (tt : Int) + (pl : Int) := IntWalk.i64_in _ (by omega)
                  have h4 : ((tt : Int) + (pl : Int)).toNat = tt + pl := by omega
                  have h5 : 0 ≤ (tt : Int) + (pl : Int) := by omega
                  have h6 : tt ≤ tt + pl := by omega
                  have h7 : tt + pl - tt = pl := by omega
                  have p5 := HP5.out wc (Below.refl _ _)
                  have pz := lt_of_heap HX3.out
                  clear hp0 htt0 hpl0 hn0 hpln
                  cases a with
                  | none =>
                    have hc0 : cap = 0 := hcap.2 rfl
                    subst hc0
                    have h1' : (tt : Int) + (pl : Int) ≤ 0 := by omega
                    have HSA := Lib.hid (HP0.out none 0 (by omega) fun _ => rfl)
                    clear hcap
                    go_upto_region 10 with fail
                    refine wp_region_held (S := fun w' => Below wr.heap.size wr w') (by kernel_rfl) ?_
                    have hS : Below wr.heap.size wr wc.drew := HB3.out.drew
                    refine H_take (i := 0) (v := ?_) rfl (by as_aux_lemma => kernel_rfl) (by as_aux_lemma => kernel_rfl) (by as_aux_lemma => kernel_rfl) (fun _ _ _ h => h) (by rfl) hS ?_ ?_
                    rotate_left
                    · intro w' hw'; go_simp; with_reducible rfl
                    go_simp
                    refine H_take (i := 2) (v := ?_) rfl (by as_aux_lemma => kernel_rfl) (by as_aux_lemma => kernel_rfl) (by as_aux_lemma => kernel_rfl) (fun _ _ _ h => h) (by rfl) hS ?_ ?_
                    rotate_left
                    · intro w' hw'; go_simp; with_reducible rfl
                    go_simp
                    refine H_take (i := 3) (v := ?_) rfl (by as_aux_lemma => kernel_rfl) (by as_aux_lemma => kernel_rfl) (by as_aux_lemma => kernel_rfl) (fun _ _ _ h => h) (by rfl) hS ?_ ?_
                    rotate_left
                    · intro w' hw'; go_simp; with_reducible rfl
                    go_simp
                    refine H_take (i := 4) (v := ?_) rfl (by as_aux_lemma => kernel_rfl) (by as_aux_lemma => kernel_rfl) (by as_aux_lemma => kernel_rfl) (fun _ _ _ h => h) (by rfl) hS ?_ ?_
                    rotate_left
                    · intro w' hw'; go_simp; with_reducible rfl
                    go_simp
                    refine H_take (i := 5) (v := ?_) rfl (by as_aux_lemma => kernel_rfl) (by as_aux_lemma => kernel_rfl) (by as_aux_lemma => kernel_rfl) (fun _ _ _ h => h) (by rfl) hS ?_ ?_
                    rotate_left
                    · intro w' hw'; go_simp; with_reducible rfl
                    go_simp
                    refine H_take (i := 6) (v := ?_) rfl (by as_aux_lemma => kernel_rfl) (by as_aux_lemma => kernel_rfl) (by as_aux_lemma => kernel_rfl) (fun _ _ _ h => h) (by rfl) hS ?_ ?_
                    rotate_left
                    · intro w' hw'; go_simp; with_reducible rfl
                    go_simp
                    refine H_take (i := 7) (v := ?_) rfl (by as_aux_lemma => kernel_rfl) (by as_aux_lemma => kernel_rfl) (by as_aux_lemma => kernel_rfl) (fun _ _ _ h => h) (by rfl) hS ?_ ?_
                    rotate_left
                    · intro w' hw'; go_simp; with_reducible rfl
                    go_simp
                    refine H_one (i := 1) (by as_aux_lemma => kernel_rfl) rfl (by rfl) ?_
                    go_simp
                    refine H_one (i := 8) (by as_aux_lemma => kernel_rfl) rfl (by rfl) ?_
                    refine wp_own_append (w := wc) (L := []) (L2 := part) _ _ rfl rfl rfl (Own.bare (Below.refl _ wc).drew) rfl (F := F) ?_ (by rw [HLEN.out]; simp; omega) ?_
                    · exact HSA.out.same (fun _ h => h) fun _ _ => rfl
                    intro v' w' hown
                    rw [List.nil_append] at hown
                    have S9 : Below wc.heap.size wc w' := hown.1
                    have S10 : Below wr.heap.size wr w' := HB3.out.trans (S9.mono HB3.out.size)
                    obtain ⟨va', vc', rfl⟩ := hown.slice
                    rw [HLEN.out] at hown ⊢
                    have hx4 := (hown.1.block _ (lt_of_heap HX3.out)).trans HX3.out
                    obtain ⟨x0, x1, x2, x3, x4, x5, xz⟩ := six_cells hx4
                    have xf5 := frozen_of_row _ _ 5 _ _ hx4
                    refine ⟨S10, ?_⟩
                    go_simp
                    refine H_take (i := 9) (v := ?_) rfl (by as_aux_lemma => kernel_rfl) (by as_aux_lemma => kernel_rfl) (by as_aux_lemma => kernel_rfl) (fun _ _ _ h => h) (by rfl) S10 ?_ ?_
                    rotate_left
                    · intro w' hw'; go_simp; with_reducible rfl
                    go_simp
                    refine H_one (i := 10) (by as_aux_lemma => kernel_rfl) rfl (by rfl) ?_
                    go_simp
                    obtain ⟨W5, hW5⟩ : ∃ W5, W5 = w'.setCell ⟨gp, 5, none⟩ (.slice va' pl vc') := ⟨_, rfl⟩
                    have hgc : gp < wc.heap.size := lt_of_heap HX3.out
                    have hother : ∀ j, j ≠ gp → W5.heap[j]? = w'.heap[j]? := fun j hj => by rw [hW5]; exact Below.heap_setCell _ _ _ _ hj
                    have hz5 : W5.heap.size = w'.heap.size := by rw [hW5]; simp
                    have hgpw := HGP.out
                    have hzc := HB3.out.size
                    have hz9 := S9.size
                    have hbz := HBB.out.size
                    have hbz2 := HBW.out.size
                    have hrlt := HROW.out.row.lt
                    have hr5 : PcRow w2.heap.size pv (.slice oa pv.length oc) W5 := by
                      rw [← HKL.out]
                      exact HROW.out.same (by omega) fun j _ hj => (hother j (by omega)).trans ((S9.block j (by omega)).trans (HB3.out.block j hj))
                    have hu5 : W5.ownsRow w2.heap.size 5 1 (.slice va' pl vc') part.length (part.map byteV) := by
                      exact own_base7 (own_same7 hown.2 fun j h1 _ _ => hother j (by omega)) (by omega)
                    have hne5 : ∀ j, (Value.slice va' pl vc').ownBlock = some j → (Value.slice oa pv.length oc).ownBlock ≠ some j ∧ ∀ x ∈ pv, x.2.ownBlock ≠ some j := fun j hj => by
                      have h5 := (hown.2.lt j hj).1
                      exact ⟨fun e => by have := (hrlt j (by rw [HKL.out]; exact e)).2; omega, fun x hx e => by have := ((HROW.out.own x hx).1.lt j e).2; omega⟩
                    obtain ⟨v6, w6, hrun, hrow6, ho6, -, a6, c6, rfl⟩ := hr5.push (p := ⟨i, t, (sm : Int), (n : Int), (tt : Int), part⟩) hu5 hne5 (by omega) (by rw [← HKL.out]; have := HTK.out; omega) 26
                    rw [hz5, ← HKL.out, hW5] at hrun
                    have HO6 : Hid (RcAt w2 i t b sz (k + 1) (.slice a6 (k + 1) c6) w6) := Lib.hid (by
                      refine ⟨?_, pv ++ [(⟨i, t, (sm : Int), (n : Int), (tt : Int), part⟩, .slice va' pl vc')], by rw [HKL.out]; exact hrow6, ?_⟩
                      · refine below_only (HBW.out.trans (((HB3.out.trans (S9.mono hzc)).trans ?_).mono hbz2)) ho6 fun j hj => ?_
                        · rw [hW5]; exact (Below.refl _ _).setCell (by show wr.heap.size ≤ gp; omega) _
                        · rw [← HKL.out] at hj
                          exact (hrlt j hj).1
                      · rw [List.map_append, HMAP.out, pre_succ]
                        simp only [List.map_cons, List.map_nil]
                        have h9 := HTK.out
                        have h10 : part = (b.drop (k * sz)).take sz := by
                          rw [HPT.out, h9.1]
                          have hl : (b.drop (k * sz)).length = n - k * sz := by rw [List.length_drop, ← HN.out]
                          rw [h9.2.2.1, h9.1]
                          by_cases h11 : sz ≤ n - k * sz
                          · rw [Nat.min_eq_left h11]
                          · rw [Nat.min_eq_right (by omega), List.take_of_length_le (by omega), List.take_of_length_le (by omega)]
                        unfold cutPc
                        rw [h10, HSM.out, HN.out, h9.1])
                    have hW6 := w6.heap.size
                    refine ⟨S10.setCell (by show wr.heap.size ≤ gp; omega) _, ?_⟩
                    refine wpAnyH_done (by as_aux_lemma => kernel_rfl) ?_ _
                    clear hW5 hother hz5 hgpw hzc hz9 hbz hbz2 hrlt hr5 hu5 hne5 hrow6 ho6 S9 S10 hx4 hgc
                    go_wp2_with (at_builtin; refine wpList_append_run7 _ rfl (.tmp 53) (.tmp 55) 26 rfl _ _ _ _ rfl rfl hrun ?_)
                    go_roundg (gk - 1)
                    case measure => have := HTK.out; omega
                    case rel => exact ⟨k + 1, tt + pl, by have := HTK.out; omega, by have := HTK.out; omega, by push_cast; rfl, ⟨a6, c6, rfl⟩, HO6⟩
                  | some x =>
                    obtain ⟨sa, hsa⟩ : ∃ sa, sa = (if cap = tt then some x else some (x.add tt)) := ⟨_, rfl⟩
                    have HSA := Lib.hid (HP0.out sa (cap - tt) (by have := hcap.1; omega) fun h => by rw [hsa] at h; split at h <;> cases h)
                    clear hcap
                    go_upto_region 10 with fail
                    refine wp_region_held (S := fun w' => Below wr.heap.size wr w') (by kernel_rfl) ?_
                    have hS : Below wr.heap.size wr wc.drew := HB3.out.drew
                    refine H_take (i := 0) (v := ?_) rfl (by as_aux_lemma => kernel_rfl) (by as_aux_lemma => kernel_rfl) (by as_aux_lemma => kernel_rfl) (fun _ _ _ h => h) (by rfl) hS ?_ ?_
                    rotate_left
                    · intro w' hw'; go_simp; with_reducible rfl
                    go_simp
                    refine H_take (i := 2) (v := ?_) rfl (by as_aux_lemma => kernel_rfl) (by as_aux_lemma => kernel_rfl) (by as_aux_lemma => kernel_rfl) (fun _ _ _ h => h) (by rfl) hS ?_ ?_
                    rotate_left
                    · intro w' hw'; go_simp; with_reducible rfl
                    go_simp
                    refine H_take (i := 3) (v := ?_) rfl (by as_aux_lemma => kernel_rfl) (by as_aux_lemma => kernel_rfl) (by as_aux_lemma => kernel_rfl) (fun _ _ _ h => h) (by rfl) hS ?_ ?_
                    rotate_left
                    · intro w' hw'; go_simp; with_reducible rfl
                    go_simp
                    refine H_take (i := 4) (v := ?_) rfl (by as_aux_lemma => kernel_rfl) (by as_aux_lemma => kernel_rfl) (by as_aux_lemma => kernel_rfl) (fun _ _ _ h => h) (by rfl) hS ?_ ?_
                    rotate_left
                    · intro w' hw'; go_simp; with_reducible rfl
                    go_simp
                    refine H_take (i := 5) (v := ?_) rfl (by as_aux_lemma => kernel_rfl) (by as_aux_lemma => kernel_rfl) (by as_aux_lemma => kernel_rfl) (fun _ _ _ h => h) (by rfl) hS ?_ ?_
                    rotate_left
                    · intro w' hw'; go_simp; with_reducible rfl
                    go_simp
                    refine H_take (i := 6) (v := ?_) rfl (by as_aux_lemma => kernel_rfl) (by as_aux_lemma => kernel_rfl) (by as_aux_lemma => kernel_rfl) (fun _ _ _ h => h) (by rfl) hS ?_ ?_
                    rotate_left
                    · intro w' hw'; go_simp; with_reducible rfl
                    go_simp
                    refine H_take (i := 7) (v := ?_) rfl (by as_aux_lemma => kernel_rfl) (by as_aux_lemma => kernel_rfl) (by as_aux_lemma => kernel_rfl) (fun _ _ _ h => h) (by rfl) hS ?_ ?_
                    rotate_left
                    · intro w' hw'; go_simp; with_reducible rfl
                    go_simp
                    rw [← hsa]
                    clear hsa
                    refine H_one (i := 1) (by as_aux_lemma => kernel_rfl) rfl (by rfl) ?_
                    go_simp
                    refine H_one (i := 8) (by as_aux_lemma => kernel_rfl) rfl (by rfl) ?_
                    refine wp_own_append (w := wc) (L := []) (L2 := part) _ _ rfl rfl rfl (Own.bare (Below.refl _ wc).drew) rfl (F := F) ?_ (by rw [HLEN.out]; simp; omega) ?_
                    · exact HSA.out.same (fun _ h => h) fun _ _ => rfl
                    intro v' w' hown
                    rw [List.nil_append] at hown
                    have S9 : Below wc.heap.size wc w' := hown.1
                    have S10 : Below wr.heap.size wr w' := HB3.out.trans (S9.mono HB3.out.size)
                    obtain ⟨va', vc', rfl⟩ := hown.slice
                    rw [HLEN.out] at hown ⊢
                    have hx4 := (hown.1.block _ (lt_of_heap HX3.out)).trans HX3.out
                    obtain ⟨x0, x1, x2, x3, x4, x5, xz⟩ := six_cells hx4
                    have xf5 := frozen_of_row _ _ 5 _ _ hx4
                    refine ⟨S10, ?_⟩
                    go_simp
                    refine H_take (i := 9) (v := ?_) rfl (by as_aux_lemma => kernel_rfl) (by as_aux_lemma => kernel_rfl) (by as_aux_lemma => kernel_rfl) (fun _ _ _ h => h) (by rfl) S10 ?_ ?_
                    rotate_left
                    · intro w' hw'; go_simp; with_reducible rfl
                    go_simp
                    refine H_one (i := 10) (by as_aux_lemma => kernel_rfl) rfl (by rfl) ?_
                    go_simp
                    obtain ⟨W5, hW5⟩ : ∃ W5, W5 = w'.setCell ⟨gp, 5, none⟩ (.slice va' pl vc') := ⟨_, rfl⟩
                    have hgc : gp < wc.heap.size := lt_of_heap HX3.out
                    have hother : ∀ j, j ≠ gp → W5.heap[j]? = w'.heap[j]? := fun j hj => by rw [hW5]; exact Below.heap_setCell _ _ _ _ hj
                    have hz5 : W5.heap.size = w'.heap.size := by rw [hW5]; simp
                    have hgpw := HGP.out
                    have hzc := HB3.out.size
                    have hz9 := S9.size
                    have hbz := HBB.out.size
                    have hbz2 := HBW.out.size
                    have hrlt := HROW.out.row.lt
                    have hr5 : PcRow w2.heap.size pv (.slice oa pv.length oc) W5 := by
                      rw [← HKL.out]
                      exact HROW.out.same (by omega) fun j _ hj => (hother j (by omega)).trans ((S9.block j (by omega)).trans (HB3.out.block j hj))
                    have hu5 : W5.ownsRow w2.heap.size 5 1 (.slice va' pl vc') part.length (part.map byteV) := by
                      exact own_base7 (own_same7 hown.2 fun j h1 _ _ => hother j (by omega)) (by omega)
                    have hne5 : ∀ j, (Value.slice va' pl vc').ownBlock = some j → (Value.slice oa pv.length oc).ownBlock ≠ some j ∧ ∀ x ∈ pv, x.2.ownBlock ≠ some j := fun j hj => by
                      have h5 := (hown.2.lt j hj).1
                      exact ⟨fun e => by have := (hrlt j (by rw [HKL.out]; exact e)).2; omega, fun x hx e => by have := ((HROW.out.own x hx).1.lt j e).2; omega⟩
                    obtain ⟨v6, w6, hrun, hrow6, ho6, -, a6, c6, rfl⟩ := hr5.push (p := ⟨i, t, (sm : Int), (n : Int), (tt : Int), part⟩) hu5 hne5 (by omega) (by rw [← HKL.out]; have := HTK.out; omega) 26
                    rw [hz5, ← HKL.out, hW5] at hrun
                    have HO6 : Hid (RcAt w2 i t b sz (k + 1) (.slice a6 (k + 1) c6) w6) := Lib.hid (by
                      refine ⟨?_, pv ++ [(⟨i, t, (sm : Int), (n : Int), (tt : Int), part⟩, .slice va' pl vc')], by rw [HKL.out]; exact hrow6, ?_⟩
                      · refine below_only (HBW.out.trans (((HB3.out.trans (S9.mono hzc)).trans ?_).mono hbz2)) ho6 fun j hj => ?_
                        · rw [hW5]; exact (Below.refl _ _).setCell (by show wr.heap.size ≤ gp; omega) _
                        · rw [← HKL.out] at hj
                          exact (hrlt j hj).1
                      · rw [List.map_append, HMAP.out, pre_succ]
                        simp only [List.map_cons, List.map_nil]
                        have h9 := HTK.out
                        have h10 : part = (b.drop (k * sz)).take sz := by
                          rw [HPT.out, h9.1]
                          have hl : (b.drop (k * sz)).length = n - k * sz := by rw [List.length_drop, ← HN.out]
                          rw [h9.2.2.1, h9.1]
                          by_cases h11 : sz ≤ n - k * sz
                          · rw [Nat.min_eq_left h11]
                          · rw [Nat.min_eq_right (by omega), List.take_of_length_le (by omega), List.take_of_length_le (by omega)]
                        unfold cutPc
                        rw [h10, HSM.out, HN.out, h9.1])
                    have hW6 := w6.heap.size
                    refine ⟨S10.setCell (by show wr.heap.size ≤ gp; omega) _, ?_⟩
                    refine wpAnyH_done (by as_aux_lemma => kernel_rfl) ?_ _
                    clear hW5 hother hz5 hgpw hzc hz9 hbz hbz2 hrlt hr5 hu5 hne5 hrow6 ho6 S9 S10 hx4 hgc
                    go_wp2_with (at_builtin; refine wpList_append_run7 _ rfl (.tmp 53) (.tmp 55) 26 rfl _ _ _ _ rfl rfl hrun ?_)
                    go_roundg (gk - 1)
                    case measure => have := HTK.out; omega
                    case rel => exact ⟨k + 1, tt + pl, by have := HTK.out; omega, by have := HTK.out; omega, by push_cast; rfl, ⟨a6, c6, rfl⟩, HO6⟩
                · obtain ⟨g, off, rfl, hFb, hcc, hcm, hcl⟩ := HV3.out.elem7 (i := 0) (by rw [← HN.out]; omega)
                  have HCL := Lib.hid hcl
                  have HFB := Lib.hid hFb
                  have HCC := Lib.hid hcc
                  have HCM := Lib.hid hcm
                  have hcn : n ≤ cap := by rw [HN.out]; exact hcc
                  have h1 : (tt : Int) + (pl : Int) ≤ (cap : Int) := by omega
                  have h2 : (pl : Int) ≤ 1099511627776 := by omega
                  have h3 : (tt : Int) ≤ (tt : Int) + (pl : Int) := by omega
                  have hw2 : IntKind.i64.wrap ((tt : Int) + (pl : Int)) = (tt : Int) + (pl : Int) := IntWalk.i64_in _ (by omega)
                  have h4 : ((tt : Int) + (pl : Int)).toNat = tt + pl := by omega
                  have h5 : 0 ≤ (tt : Int) + (pl : Int) := by omega
                  have h6 : tt ≤ tt + pl := by omega
                  have h7 : tt + pl - tt = pl := by omega
                  have hmn : tt + pl ≤ b.length := by rw [← HN.out]; exact hpln
                  clear hcl hFb hcc hcm hcn
                  go_upto_region 10 with fail
                  refine wp_region_held (S := fun w' => Below wr.heap.size wr w') (by kernel_rfl) ?_
                  have hS : Below wr.heap.size wr wc.drew := HB3.out.drew
                  obtain ⟨sa, hsa⟩ : ∃ sa, sa = (if cap = tt then some (⟨g, off, none⟩ : Addr) else some ⟨g, off + tt, none⟩) := ⟨_, rfl⟩
                  have HSA : Hid (RepB wc F part (.slice sa pl (cap - tt))) := Lib.hid (by rw [hsa, HPT.out]; exact RepB.mid7 HFB.out HCL.out HCC.out HCM.out hmn)
                  have p5 := HP5.out wc (Below.refl _ _)
                  have pz := lt_of_heap HX3.out
                  refine H_take (i := 0) (v := ?_) rfl (by as_aux_lemma => kernel_rfl) (by as_aux_lemma => kernel_rfl) (by as_aux_lemma => kernel_rfl) (fun _ _ _ h => h) (by rfl) hS ?_ ?_
                  rotate_left
                  · intro w' hw'; go_simp; with_reducible rfl
                  go_simp
                  refine H_take (i := 2) (v := ?_) rfl (by as_aux_lemma => kernel_rfl) (by as_aux_lemma => kernel_rfl) (by as_aux_lemma => kernel_rfl) (fun _ _ _ h => h) (by rfl) hS ?_ ?_
                  rotate_left
                  · intro w' hw'; go_simp; with_reducible rfl
                  go_simp
                  refine H_take (i := 3) (v := ?_) rfl (by as_aux_lemma => kernel_rfl) (by as_aux_lemma => kernel_rfl) (by as_aux_lemma => kernel_rfl) (fun _ _ _ h => h) (by rfl) hS ?_ ?_
                  rotate_left
                  · intro w' hw'; go_simp; with_reducible rfl
                  go_simp
                  refine H_take (i := 4) (v := ?_) rfl (by as_aux_lemma => kernel_rfl) (by as_aux_lemma => kernel_rfl) (by as_aux_lemma => kernel_rfl) (fun _ _ _ h => h) (by rfl) hS ?_ ?_
                  rotate_left
                  · intro w' hw'; go_simp; with_reducible rfl
                  go_simp
                  refine H_take (i := 5) (v := ?_) rfl (by as_aux_lemma => kernel_rfl) (by as_aux_lemma => kernel_rfl) (by as_aux_lemma => kernel_rfl) (fun _ _ _ h => h) (by rfl) hS ?_ ?_
                  rotate_left
                  · intro w' hw'; go_simp; with_reducible rfl
                  go_simp
                  refine H_take (i := 6) (v := ?_) rfl (by as_aux_lemma => kernel_rfl) (by as_aux_lemma => kernel_rfl) (by as_aux_lemma => kernel_rfl) (fun _ _ _ h => h) (by rfl) hS ?_ ?_
                  rotate_left
                  · intro w' hw'; go_simp; with_reducible rfl
                  go_simp
                  refine H_take (i := 7) (v := ?_) rfl (by as_aux_lemma => kernel_rfl) (by as_aux_lemma => kernel_rfl) (by as_aux_lemma => kernel_rfl) (fun _ _ _ h => h) (by rfl) hS ?_ ?_
                  rotate_left
                  · intro w' hw'; go_simp; with_reducible rfl
                  go_simp
                  rw [← hsa]
                  clear hsa
                  refine H_one (i := 1) (by as_aux_lemma => kernel_rfl) rfl (by rfl) ?_
                  go_simp
                  refine H_one (i := 8) (by as_aux_lemma => kernel_rfl) rfl (by rfl) ?_
                  refine wp_own_append (w := wc) (L := []) (L2 := part) _ _ rfl rfl rfl (Own.bare (Below.refl _ wc).drew) rfl (F := F) ?_ (by rw [HLEN.out]; simp; omega) ?_
                  · exact HSA.out.same (fun _ h => h) fun _ _ => rfl
                  intro v' w' hown
                  rw [List.nil_append] at hown
                  have S9 : Below wc.heap.size wc w' := hown.1
                  have S10 : Below wr.heap.size wr w' := HB3.out.trans (S9.mono HB3.out.size)
                  obtain ⟨va', vc', rfl⟩ := hown.slice
                  rw [HLEN.out] at hown ⊢
                  have hx4 := (hown.1.block _ (lt_of_heap HX3.out)).trans HX3.out
                  obtain ⟨x0, x1, x2, x3, x4, x5, xz⟩ := six_cells hx4
                  have xf5 := frozen_of_row _ _ 5 _ _ hx4
                  refine ⟨S10, ?_⟩
                  go_simp
                  refine H_take (i := 9) (v := ?_) rfl (by as_aux_lemma => kernel_rfl) (by as_aux_lemma => kernel_rfl) (by as_aux_lemma => kernel_rfl) (fun _ _ _ h => h) (by rfl) S10 ?_ ?_
                  rotate_left
                  · intro w' hw'; go_simp; with_reducible rfl
                  go_simp
                  refine H_one (i := 10) (by as_aux_lemma => kernel_rfl) rfl (by rfl) ?_
                  go_simp
                  obtain ⟨W5, hW5⟩ : ∃ W5, W5 = w'.setCell ⟨gp, 5, none⟩ (.slice va' pl vc') := ⟨_, rfl⟩
                  have hgc : gp < wc.heap.size := lt_of_heap HX3.out
                  have hother : ∀ j, j ≠ gp → W5.heap[j]? = w'.heap[j]? := fun j hj => by rw [hW5]; exact Below.heap_setCell _ _ _ _ hj
                  have hz5 : W5.heap.size = w'.heap.size := by rw [hW5]; simp
                  have hgpw := HGP.out
                  have hzc := HB3.out.size
                  have hz9 := S9.size
                  have hbz := HBB.out.size
                  have hbz2 := HBW.out.size
                  have hrlt := HROW.out.row.lt
                  have hr5 : PcRow w2.heap.size pv (.slice oa pv.length oc) W5 := by
                    rw [← HKL.out]
                    exact HROW.out.same (by omega) fun j _ hj => (hother j (by omega)).trans ((S9.block j (by omega)).trans (HB3.out.block j hj))
                  have hu5 : W5.ownsRow w2.heap.size 5 1 (.slice va' pl vc') part.length (part.map byteV) := by
                    exact own_base7 (own_same7 hown.2 fun j h1 _ _ => hother j (by omega)) (by omega)
                  have hne5 : ∀ j, (Value.slice va' pl vc').ownBlock = some j → (Value.slice oa pv.length oc).ownBlock ≠ some j ∧ ∀ x ∈ pv, x.2.ownBlock ≠ some j := fun j hj => by
                    have h5 := (hown.2.lt j hj).1
                    exact ⟨fun e => by have := (hrlt j (by rw [HKL.out]; exact e)).2; omega, fun x hx e => by have := ((HROW.out.own x hx).1.lt j e).2; omega⟩
                  obtain ⟨v6, w6, hrun, hrow6, ho6, -, a6, c6, rfl⟩ := hr5.push (p := ⟨i, t, (sm : Int), (n : Int), (tt : Int), part⟩) hu5 hne5 (by omega) (by rw [← HKL.out]; have := HTK.out; omega) 26
                  rw [hz5, ← HKL.out, hW5] at hrun
                  have HO6 : Hid (RcAt w2 i t b sz (k + 1) (.slice a6 (k + 1) c6) w6) := Lib.hid (by
                    refine ⟨?_, pv ++ [(⟨i, t, (sm : Int), (n : Int), (tt : Int), part⟩, .slice va' pl vc')], by rw [HKL.out]; exact hrow6, ?_⟩
                    · refine below_only (HBW.out.trans (((HB3.out.trans (S9.mono hzc)).trans ?_).mono hbz2)) ho6 fun j hj => ?_
                      · rw [hW5]; exact (Below.refl _ _).setCell (by show wr.heap.size ≤ gp; omega) _
                      · rw [← HKL.out] at hj
                        exact (hrlt j hj).1
                    · rw [List.map_append, HMAP.out, pre_succ]
                      simp only [List.map_cons, List.map_nil]
                      have h9 := HTK.out
                      have h10 : part = (b.drop (k * sz)).take sz := by
                        rw [HPT.out, h9.1]
                        have hl : (b.drop (k * sz)).length = n - k * sz := by rw [List.length_drop, ← HN.out]
                        rw [h9.2.2.1, h9.1]
                        by_cases h11 : sz ≤ n - k * sz
                        · rw [Nat.min_eq_left h11]
                        · rw [Nat.min_eq_right (by omega), List.take_of_length_le (by omega), List.take_of_length_le (by omega)]
                      unfold cutPc
                      rw [h10, HSM.out, HN.out, h9.1])
                  have hW6 := w6.heap.size
                  refine ⟨S10.setCell (by show wr.heap.size ≤ gp; omega) _, ?_⟩
                  refine wpAnyH_done (by as_aux_lemma => kernel_rfl) ?_ _
                  clear hW5 hother hz5 hgpw hzc hz9 hbz hbz2 hrlt hr5 hu5 hne5 hrow6 ho6 S9 S10 hx4 hgc
                  go_wp2_with (at_builtin; refine wpList_append_run7 _ rfl (.tmp 53) (.tmp 55) 26 rfl _ _ _ _ rfl rfl hrun ?_)
                  go_roundg (gk - 1)
                  case measure => have := HTK.out; omega
                  case rel => exact ⟨k + 1, tt + pl, by have := HTK.out; omega, by have := HTK.out; omega, by push_cast; rfl, ⟨a6, c6, rfl⟩, HO6⟩
        · have hke : k = N := by omega
          have q2 : ((k : Int) == 0) = false := by simp; omega
          have q3 : ¬ tt < n := by
            have h1 := ref_more hsz0 (show 0 < k by omega) (by rw [← HNN.out]; omega)
            rw [← HNN.out] at h1
            omega
          have HKE := Lib.hid hke
          clear hke htt hgk hlt
          go_wp2_with fail
          go_ret2
          obtain ⟨hbw, pv, hrow, hmap⟩ := hat.out
          refine ⟨HB2'.out.trans (hbw.mono HB2'.out.size), ?_⟩
          rw [if_pos ⟨HOM.out.symm, by have := HSZ.out; omega⟩]
          refine ⟨pv, _, rfl, hrow.base HB2'.out.size, ?_⟩
          rw [hmap, pre_all, HKE.out, HNN.out, HN.out, ← HSZ.out]
          rfl
end Go.Proofs.YtdngfbljcmbniaaDoor.M

/- Part: ChR3. -/
namespace Go.Proofs.YtdngfbljcmbniaaDoor.M
open Go.RowKit Go.Maps

theorem flat_set6 : ∀ (l : List (Pc × Value)) (i : Nat) (y : Pc × Value) (h : i < l.length), pvV y = pvV l[i] → (l.set i y).flatMap pvV = l.flatMap pvV
  | x :: l, 0, y, _, e => by
    rw [List.set_cons_zero, List.flatMap_cons, List.flatMap_cons, e]
    rfl
  | x :: l, i + 1, y, h, e => by
    rw [List.set_cons_succ, List.flatMap_cons, List.flatMap_cons, flat_set6 l i y (by simpa using h) (by simpa using e)]

theorem snd_set7 {pv : List (Pc × Value)} {i : Nat} {y : Pc × Value} (hi : i < pv.length) (he : y.2 = pv[i].2) (j : Nat) (hj : j < (pv.set i y).length) : (pv.set i y)[j].2 = (pv[j]'(by simpa using hj)).2 := by
  rw [List.getElem_set]
  split
  · rename_i h
    subst h
    exact he
  · rfl

/-- .. with one byte turned. -/
def turnP (p : Pc) (m : Nat) (d : UInt8) : Pc := ⟨p.idx, p.term, p.sum, p.tot, p.pos, p.b.set m d⟩

/-- One byte of one piece is turned. -/
theorem PcRow.turn {base : Nat} {pv : List (Pc × Value)} {v : Value} {W : World} (h : PcRow base pv v W) (i : Nat) (hi : i < pv.length) (m : Nat) (hm : m < pv[i].1.b.length) :
    ∃ g c, pv[i].2 = .slice (some ⟨g, 0, none⟩) pv[i].1.b.length c ∧ pv[i].1.b.length ≤ c ∧ base ≤ g ∧ g < W.heap.size ∧ W.cell? ⟨g, m, none⟩ = some (.int .u8 (pv[i].1.b[m].toNat : Int)) ∧ W.frozen? ⟨g, m, none⟩ = false ∧
      ∀ d : UInt8, PcRow base (pv.set i (turnP pv[i].1 m d, pv[i].2)) v (W.setCell ⟨g, m, none⟩ (.int .u8 (d.toNat : Int))) := by
  obtain ⟨ho, hne⟩ := h.own _ (List.getElem_mem hi)
  obtain ⟨g, cap, hv, hg, hcap⟩ : ∃ g cap, pv[i].2 = .slice (some ⟨g, 0, none⟩) pv[i].1.b.length cap ∧ base ≤ g ∧ pv[i].1.b.length ≤ cap := by
    rcases ho.2 with ⟨h1, h2⟩ | ⟨g, cap, cur, h1, h2, h3, h4, -⟩
    · omega
    · exact ⟨g, cap, h1, h2, h4⟩
  have hgl := ho.lt g (by rw [hv]; rfl)
  have ho' := ho
  rw [hv] at ho'
  refine ⟨g, cap, hv, hcap, hg, hgl.2, ?_, ho'.frozenAt m, fun d => ?_⟩
  · rw [ho'.cellAt m (by omega)]
    simp [hm, byteV]
  · have hgi : pv[i].2.ownBlock = some g := by rw [hv]; rfl
    have hset := (ho'.stored m (byteV d)).1
    have hother : ∀ k, k ≠ g → (W.setCell ⟨g, m, none⟩ (.int .u8 (d.toNat : Int))).heap[k]? = W.heap[k]? := fun k hk => Below.heap_setCell _ _ _ _ hk
    refine ⟨?_, fun x hx => ?_, ?_⟩
    · rw [List.length_set, flat_set6 pv i (turnP pv[i].1 m d, pv[i].2) hi rfl]
      exact own_same7 h.row fun k _ _ hk => hother k fun e => hne g hgi (e ▸ hk)
    · obtain ⟨j, hj, rfl⟩ := List.getElem_of_mem hx
      have hj' : j < pv.length := by simpa using hj
      by_cases hij : i = j
      · subst hij
        simp only [List.getElem_set_self]
        refine ⟨?_, hne⟩
        show World.ownsRow _ base 5 1 pv[i].2 (pv[i].1.b.set m d).length ((pv[i].1.b.set m d).map byteV)
        rw [hv, List.map_set, List.length_set]
        exact hset
      · simp only [List.getElem_set_ne hij]
        obtain ⟨h1, h2⟩ := h.own _ (List.getElem_mem hj')
        refine ⟨own_same7 h1 fun k _ _ hk => hother k fun e => ?_, h2⟩
        subst e
        rcases Nat.lt_or_gt_of_ne hij with hlt | hlt
        · exact List.pairwise_iff_getElem.1 h.apart i j hi hj' hlt k hgi hk
        · exact List.pairwise_iff_getElem.1 h.apart j i hj' hi hlt k hk hgi
    · rw [List.pairwise_iff_getElem]
      intro p q hp hq hpq
      rw [snd_set7 (y := (turnP pv[i].1 m d, pv[i].2)) hi rfl p hp, snd_set7 (y := (turnP pv[i].1 m d, pv[i].2)) hi rfl q hq]
      exact List.pairwise_iff_getElem.1 h.apart p q (by simpa using hp) (by simpa using hq) hpq

/-- All of a row's own blocks lie below z. -/
def Lt7 (z : Nat) (pv : List (Pc × Value)) (v : Value) : Prop := (∀ j, v.ownBlock = some j → j < z) ∧ ∀ x ∈ pv, ∀ j, x.2.ownBlock = some j → j < z

theorem PcRow.lt7 {base : Nat} {pv : List (Pc × Value)} {v : Value} {W : World} (h : PcRow base pv v W) : Lt7 W.heap.size pv v :=
  ⟨fun j hj => (h.row.lt j hj).2, fun x hx j hj => ((h.own x hx).1.lt j hj).2⟩

theorem Lt7.set {z : Nat} {pv : List (Pc × Value)} {v : Value} (h : Lt7 z pv v) {i : Nat} {y : Pc × Value} (hi : i < pv.length) (he : y.2 = pv[i].2) : Lt7 z (pv.set i y) v :=
  ⟨h.1, fun x hx j hj => by
    obtain ⟨k, hk, rfl⟩ := List.getElem_of_mem hx
    rw [snd_set7 hi he k hk] at hj
    exact h.2 _ (List.getElem_mem _) j hj⟩

theorem turned1 (c : UInt8) : bits .xor .u8 (c.toNat : Int) 1 = ((c ^^^ 1).toNat : Int) := by
  have h : ∀ c : UInt8, bits .xor .u8 (c.toNat : Int) 1 = ((c ^^^ 1).toNat : Int) := by
    intro c
    have h2 := u8_xor_nat c.toNat 1 c.toNat_lt (by decide)
    rw [UInt8.toNat_xor]
    exact h2
  exact h c

/-- What a law holds of two cuts while it turns the bytes of one: from the k-th piece on they are as they were, and the k-th has so many bytes. -/
structure TwoCuts (w wa : World) (zb : Nat) (i t : Int) (b : List UInt8) (sz : Nat) (va vb : Value) (k lk : Nat) (wr : World) : Prop where
  old : Below wa.heap.size wa wr
  one : ∃ pv, PcRow wa.heap.size pv va wr ∧ Lt7 zb pv va ∧ pv.length = cutN b.length sz ∧ (∀ j (h : j < pv.length), k ≤ j → pv[j].1 = cutPc i t b sz j) ∧ ∀ (h : k - 1 < pv.length), 0 < k → pv[k - 1].1.b.length = lk
  two : ∃ pw, PcRow zb pw vb wr ∧ pw.map (·.1) = cutPcs i t b sz
  bz : wa.heap.size ≤ zb

theorem TwoCuts.next {w wa wr w' : World} {zb : Nat} {i t : Int} {b : List UInt8} {sz : Nat} {va vb : Value} {k lk : Nat} (h : TwoCuts w wa zb i t b sz va vb k lk wr) (hb : Below wr.heap.size wr w') : TwoCuts w wa zb i t b sz va vb k lk w' := by
  obtain ⟨pv, h1, h2⟩ := h.one
  obtain ⟨pw, h3, h4⟩ := h.two
  exact ⟨h.old.trans (hb.mono h.old.size), ⟨pv, h1.next hb, h2⟩, ⟨pw, h3.next hb, h4⟩, h.bz⟩

/-- The piece that is turned: its bytes' slice. -/
theorem TwoCuts.at {w wa wr : World} {zb : Nat} {i t : Int} {b : List UInt8} {sz : Nat} {ar : Option Addr} {N c0 : Nat} {vb : Value} {k lk : Nat} (h : TwoCuts w wa zb i t b sz (.slice ar N c0) vb (k + 1) lk wr) (hk : k < cutN b.length sz) :
    ∃ gr ua uc, ar = some ⟨gr, 0, none⟩ ∧ wr.cell? ⟨gr, k * 6 + 5, none⟩ = some (.slice ua lk uc) ∧ gr < wr.heap.size ∧ N = cutN b.length sz ∧ N ≤ c0 := by
  obtain ⟨pv, h1, h2, h3, h4, h5⟩ := h.one
  obtain ⟨g, e1, e2, e3, -, -, e6, e7, e8⟩ := h1.elem k (by omega)
  have hl : pv[k].1.b.length = lk := h5 (by simpa using (by omega : k < pv.length)) (by omega)
  obtain ⟨ua, uc, hu, -⟩ := e8.slice
  have h9 := e7 5 (by omega)
  unfold pvV at h9
  rw [hu, hl] at h9
  exact ⟨g, ua, uc, e1, h9, e6, by omega, e3⟩

/-- .. and a byte of it. -/
theorem TwoCuts.byte {w wa wr : World} {zb : Nat} {i t : Int} {b : List UInt8} {sz : Nat} {ar : Option Addr} {N c0 : Nat} {vb : Value} {k lk : Nat} (h : TwoCuts w wa zb i t b sz (.slice ar N c0) vb (k + 1) lk wr) (hk : k < cutN b.length sz) {m : Nat} (hm : m < lk) :
    ∃ gr g uc, ∃ x : UInt8, ar = some ⟨gr, 0, none⟩ ∧ wr.cell? ⟨gr, k * 6 + 5, none⟩ = some (.slice (some ⟨g, 0, none⟩) lk uc) ∧ gr < wr.heap.size ∧ wr.cell? ⟨g, m, none⟩ = some (.int .u8 (x.toNat : Int)) ∧ wr.frozen? ⟨g, m, none⟩ = false ∧ g < wr.heap.size ∧ gr ≠ g ∧
      TwoCuts w wa zb i t b sz (.slice ar N c0) vb (k + 1) lk (wr.setCell ⟨g, m, none⟩ (.int .u8 ((x ^^^ 1).toNat : Int))) := by
  obtain ⟨pv, h1, h2, h3, h4, h5⟩ := h.one
  obtain ⟨pw, h6, h7⟩ := h.two
  have hkl : k < pv.length := by omega
  obtain ⟨gr, e1, -, -, -, -, e6, e7, -⟩ := h1.elem k hkl
  have hl : pv[k].1.b.length = lk := h5 (by simpa using hkl) (by omega)
  obtain ⟨g, uc, f1, f2, f3, f4, f5, f6, f7⟩ := h1.turn k hkl m (by omega)
  have h9 := e7 5 (by omega)
  unfold pvV at h9
  rw [f1, hl] at h9
  have hgz : g < zb := h2.2 _ (List.getElem_mem hkl) g (by rw [f1]; rfl)
  refine ⟨gr, g, uc, pv[k].1.b[m], e1, h9, e6, f5, f6, f4, fun e => (h1.own _ (List.getElem_mem hkl)).2 g (by rw [f1]; rfl) (by rw [e1, e]; rfl), h.old.setCell f3 _, ⟨_, f7 _, h2.set hkl rfl, by rw [List.length_set]; exact h3, fun j hj hkj => ?_, fun hj _ => ?_⟩, ⟨pw, h6.same (by rw [World.size_setCell]; exact Nat.le_refl _) fun j hj _ => Below.heap_setCell _ _ _ _ (by show j ≠ g; omega), h7⟩, h.bz⟩
  · rw [List.getElem_set_ne (by omega)]
    exact h4 j (by simpa using hj) hkj
  · simp only [Nat.add_sub_cancel, List.getElem_set_self]
    show (pv[k].1.b.set m _).length = lk
    rw [List.length_set]
    exact hl

/-- Two pieces that are held one against the other. -/
theorem TwoCuts.pair {w wa wr : World} {zb : Nat} {i t : Int} {b : List UInt8} {sz : Nat} {ar br : Option Addr} {N c0 M c1 : Nat} {k lk : Nat} (h : TwoCuts w wa zb i t b sz (.slice ar N c0) (.slice br M c1) k lk wr) (hk : k < cutN b.length sz) {p : Pc} (hp : p = cutPc i t b sz k) :
    ∃ gr gs ua uc ua' uc', ar = some ⟨gr, 0, none⟩ ∧ br = some ⟨gs, 0, none⟩ ∧ gr < wr.heap.size ∧ gs < wr.heap.size ∧ N = cutN b.length sz ∧ M = cutN b.length sz ∧
      (wr.cell? ⟨gr, k * 6, none⟩ = some (.int .i64 p.idx) ∧ wr.cell? ⟨gr, k * 6 + 1, none⟩ = some (.int .i64 p.term) ∧ wr.cell? ⟨gr, k * 6 + 2, none⟩ = some (.int .u32 p.sum) ∧ wr.cell? ⟨gr, k * 6 + 3, none⟩ = some (.int .i64 p.tot) ∧ wr.cell? ⟨gr, k * 6 + 4, none⟩ = some (.int .i64 p.pos) ∧ wr.cell? ⟨gr, k * 6 + 5, none⟩ = some (.slice ua p.b.length uc)) ∧
      (wr.cell? ⟨gs, k * 6, none⟩ = some (.int .i64 p.idx) ∧ wr.cell? ⟨gs, k * 6 + 1, none⟩ = some (.int .i64 p.term) ∧ wr.cell? ⟨gs, k * 6 + 2, none⟩ = some (.int .u32 p.sum) ∧ wr.cell? ⟨gs, k * 6 + 3, none⟩ = some (.int .i64 p.tot) ∧ wr.cell? ⟨gs, k * 6 + 4, none⟩ = some (.int .i64 p.pos) ∧ wr.cell? ⟨gs, k * 6 + 5, none⟩ = some (.slice ua' p.b.length uc')) ∧
      RepB wr (fun j => j < wr.heap.size) p.b (.slice ua p.b.length uc) ∧ RepB wr (fun j => j < wr.heap.size) p.b (.slice ua' p.b.length uc') ∧ TwoCuts w wa zb i t b sz (.slice ar N c0) (.slice br M c1) (k + 1) p.b.length wr := by
  obtain ⟨pv, h1, h2, h3, h4, h5⟩ := h.one
  obtain ⟨pw, h6, h7⟩ := h.two
  have hkl : k < pv.length := by omega
  have hwl : pw.length = cutN b.length sz := by have := congrArg List.length h7; simpa [cutPcs] using this
  have hkw : k < pw.length := by omega
  obtain ⟨gr, e1, e2, -, -, -, e6, e7, e8⟩ := h1.elem k hkl
  obtain ⟨gs, f1, f2, -, -, -, f6, f7, f8⟩ := h6.elem k hkw
  have hp1 : pv[k].1 = p := by rw [hp]; exact h4 k hkl (Nat.le_refl _)
  have hp2 : pw[k].1 = p := by
    have := congrArg (fun l => l[k]?) h7
    simp only [List.getElem?_map] at this
    rw [List.getElem?_eq_getElem hkw, List.getElem?_eq_getElem (by rw [cutPcs_length]; exact hk), cutPcs_get] at this
    rw [hp]
    simpa using this
  rw [hp1] at e8
  rw [hp2] at f8
  obtain ⟨ua, uc, hu, -⟩ := e8.slice
  obtain ⟨ua', uc', hu', -⟩ := f8.slice
  unfold pvV at e7 f7
  rw [hp1, hu] at e7
  rw [hp2, hu'] at f7
  rw [hu] at e8
  rw [hu'] at f8
  refine ⟨gr, gs, ua, uc, ua', uc', e1, f1, e6, f6, by omega, by omega, ⟨e7 0 (by omega), e7 1 (by omega), e7 2 (by omega), e7 3 (by omega), e7 4 (by omega), e7 5 (by omega)⟩, ⟨f7 0 (by omega), f7 1 (by omega), f7 2 (by omega), f7 3 (by omega), f7 4 (by omega), f7 5 (by omega)⟩,
    e8.weak fun j hj => hj.2, f8.weak fun j hj => hj.2, h.old, ⟨pv, h1, h2, h3, fun j hj hkj => h4 j hj (by omega), fun hj _ => ?_⟩, h.two, h.bz⟩
  simp only [Nat.add_sub_cancel] at hj ⊢
  rw [hp1]
end Go.Proofs.YtdngfbljcmbniaaDoor.M

/- Part: LawChCuts. -/
namespace Go.Proofs.YtdngfbljcmbniaaDoor.M
open Go.RowKit Go.Maps

set_option maxRecDepth 100000 in
set_option maxHeartbeats 16000000 in
theorem ChunkCuts_any (i t : Int) (x : List UInt8) (size : Int) (F : Nat → Prop) (v1 : Value) (w : World) (h1 : RepB w F x v1) (hF : ∀ k, F k → k < w.heap.size) (hs : -9223372036854775808 ≤ size ∧ size ≤ 9223372036854775807) (hT : Hid (Tab w)) (hTz : Hid (Tz w)) :
    Calls Tryd.prog 3 #[mkAgg i t, v1, .int .i64 size] w fun e w' => e = .returned (.bool true) ∧ Below w.heap.size w w' := by
  obtain ⟨a1, c1, rfl, -⟩ := h1.slice
  obtain ⟨lx, hlx⟩ : ∃ lx, lx = x.length := ⟨_, rfl⟩
  obtain ⟨W0, hW0⟩ : ∃ W0, W0 = w.alloc (.cells #[.int .i64 i, .int .i64 t] 23) := ⟨_, rfl⟩
  have hb0 : Below w.heap.size w W0 := by rw [hW0]; exact below_alloc _ _
  have hm0 : W0.heap[w.heap.size]? = some (.cells #[.int .i64 i, .int .i64 t] 23) := by rw [hW0]; exact heap_new _ _ _ rfl
  have HAW : Hid (∀ W', Below w.heap.size w W' → Calls Tryd.prog 5 #[] W' fun e w' => e = .returned (.bool true) ∧ Below W'.heap.size W' w') := Lib.hid fun W' hb => awake7_any W' (Lib.hid (hT.out.next hb)) (Lib.hid (hTz.out.next hb))
  have HV1 := Lib.hid h1
  have HF := Lib.hid hF
  have HLX := Lib.hid hlx
  have HSZ := Lib.hid hs
  have HW0 := Lib.hid hW0
  have HB0 := Lib.hid hb0
  have HM0 := Lib.hid hm0
  unfold mkAgg
  rw [← hlx]
  clear hlx h1 hF hs hW0 hb0 hm0
  by_cases b1 : 500 < lx
  · have q1 : decide ((lx : Int) > 500) = true := decide_eq_true (by omega)
    go_enter Tryd.func3, Tryd.ntmps3
    go_wp2_with fail
    rw [← HW0.out]
    refine (HAW.out W0 HB0.out).mono ?_
    rintro e w1 ⟨rfl, hb1⟩
    have HB1 : Hid (Below w.heap.size w w1) := Lib.hid (HB0.out.trans (hb1.mono HB0.out.size))
    clear hb1
    go_wp2_with fail
    refine (HAW.out w1 HB1.out).mono ?_
    rintro e w2 ⟨rfl, hb2⟩
    have HB2 : Hid (Below w.heap.size w w2) := Lib.hid (HB1.out.trans (hb2.mono HB1.out.size))
    clear hb2
    go_wp2_with fail
    go_ret
    exact ⟨rfl, HB2.out⟩
  · have q1 : decide ((lx : Int) > 500) = false := decide_eq_false (by omega)
    go_enter Tryd.func3, Tryd.ntmps3
    go_wp2_with fail
    rw [← HW0.out]
    refine (HAW.out W0 HB0.out).mono ?_
    rintro e w1 ⟨rfl, hb1⟩
    have HB1 : Hid (Below w.heap.size w w1) := Lib.hid (HB0.out.trans (hb1.mono HB0.out.size))
    have HM1 : Hid (w1.heap[w.heap.size]? = some (.cells #[.int .i64 i, .int .i64 t] 23)) := Lib.hid (old_below HM0.out hb1)
    clear hb1
    have HX1 : Hid (RepB (w1.alloc (.cells #[] 5)) F x (.slice a1 lx c1)) := Lib.hid (by rw [HLX.out]; exact HV1.out.same (fun _ h => h) fun k hk => (below_alloc w1 _).block k (Nat.lt_of_lt_of_le (HF.out k hk) HB1.out.size) |>.trans (HB1.out.block k (HF.out k hk)))
    go_wp2_with (at_builtin; go_loud (refine wpList_own_append (w := w1) rfl (.tmp 22) (.tmp 23) rfl rfl (L := []) (L2 := x) rfl (Own.lit (Below.refl _ _) rfl) rfl HX1.out (by have := HLX.out; simp; omega) ?_))
    intro vin wa hin
    obtain ⟨ain, cin, rfl⟩ := hin.slice
    rw [← HLX.out]
    have HBA : Hid (Below w.heap.size w wa) := Lib.hid (HB1.out.trans (hin.1.mono HB1.out.size))
    have HMA : Hid (wa.heap[w.heap.size]? = some (.cells #[.int .i64 i, .int .i64 t] 23)) := Lib.hid (old_below HM1.out hin.1)
    have HIN : Hid (RepB wa (fun j => j < wa.heap.size) x (.slice ain lx cin)) := Lib.hid (by rw [HLX.out]; exact hin.now)
    have HXA : Hid (RepB wa (fun j => j < wa.heap.size) x (.slice a1 lx c1)) := Lib.hid (by rw [HLX.out]; exact HV1.out.same (fun k hk => Nat.lt_of_lt_of_le (HF.out k hk) HBA.out.size) fun k hk => HBA.out.block k (HF.out k hk))
    have HC := Lib.hid (Cut_any i t x size _ _ wa (by rw [← HLX.out]; omega) HSZ.out.2 HIN.out (fun _ h => h) (Lib.hid (hT.out.next HBA.out)))
    unfold mkAgg at HC
    obtain ⟨m0, m1, mz⟩ : wa.cell? ⟨w.heap.size, 0, none⟩ = some (.int .i64 i) ∧ wa.cell? ⟨w.heap.size, 1, none⟩ = some (.int .i64 t) ∧ w.heap.size < wa.heap.size := ⟨cell_of_row _ _ 0 _ _ _ HMA.out, cell_of_row _ _ 1 _ _ _ HMA.out, lt_of_heap HMA.out⟩
    clear hin
    go_wp2_with fail
    refine (HC.out).mono ?_
    rintro e wb ⟨hbb, hpb⟩
    have HBAB := Lib.hid hbb
    have HBB : Hid (Below w.heap.size w wb) := Lib.hid (HBA.out.trans (hbb.mono HBA.out.size))
    have HC2 := Lib.hid (RefCut7_any i t x size _ _ wb (by rw [← HLX.out]; omega) HSZ.out.2 (HXA.out.same (fun k hk => Nat.lt_of_lt_of_le hk hbb.size) fun k hk => hbb.block k hk) (fun _ h => h))
    unfold mkAgg at HC2
    have m0' := (hbb.cell (p := ⟨w.heap.size, 0, none⟩) mz).trans m0
    have m1' := (hbb.cell (p := ⟨w.heap.size, 1, none⟩) mz).trans m1
    have mz' := Nat.lt_of_lt_of_le mz hbb.size
    clear hbb HC m0 m1 mz
    by_cases hok : okMark i t = true ∧ 1 ≤ size
    · rw [if_pos hok] at hpb
      obtain ⟨pv, va, rfl, hrow, hmap⟩ := hpb
      have HROW := Lib.hid hrow
      have HMAP := Lib.hid hmap
      obtain ⟨N, hN⟩ : ∃ N, N = cutN x.length size.toNat := ⟨_, rfl⟩
      have hsz0 : 0 < size.toNat := by have := hok.2; omega
      have hN1 : 1 ≤ N := by rw [hN]; exact cutN_pos hsz0
      have hN2 : N ≤ 501 := by rw [hN, ← HLX.out]; have := cutN_le (n := lx) hsz0; omega
      have hpl : pv.length = N := by have := congrArg List.length hmap; rw [List.length_map, cutPcs_length] at this; rw [this, hN]
      obtain ⟨ga, ca, rfl⟩ : ∃ ga ca, va = .slice (some ⟨ga, 0, none⟩) N ca := by
        obtain ⟨a, c, rfl⟩ := hrow.slice
        obtain ⟨g, e1, -⟩ := hrow.elem 0 (by omega)
        exact ⟨g, c, by rw [e1, hpl]⟩
      have HN := Lib.hid hN
      clear hrow hmap hpl hN
      go_wp2_with fail
      refine (HC2.out).mono ?_
      rintro e wc' ⟨hbc, hpc⟩
      rw [if_pos hok] at hpc
      obtain ⟨pw, vb, rfl, hrow2, hmap2⟩ := hpc
      have hpl : pw.length = N := by have := congrArg List.length hmap2; rw [List.length_map, cutPcs_length] at this; rw [this, HN.out]
      obtain ⟨gb, cb, rfl⟩ : ∃ gb cb, vb = .slice (some ⟨gb, 0, none⟩) N cb := by
        obtain ⟨a, c, rfl⟩ := hrow2.slice
        obtain ⟨g, e1, -⟩ := hrow2.elem 0 (by omega)
        exact ⟨g, c, by rw [e1, hpl]⟩
      have HTC : Hid (TwoCuts w wa wb.heap.size i t x size.toNat (.slice (some ⟨ga, 0, none⟩) N ca) (.slice (some ⟨gb, 0, none⟩) N cb) 0 0 wc') := Lib.hid ⟨HBAB.out.trans (hbc.mono HBAB.out.size), ⟨pv, HROW.out.next hbc, HROW.out.lt7, by rw [← HN.out]; have := congrArg List.length HMAP.out; rw [List.length_map, cutPcs_length] at this; rw [this, HN.out], fun j hj _ => by
          have h9 := congrArg (fun l => l[j]?) HMAP.out
          have hj2 : j < (cutPcs i t x size.toNat).length := by have := congrArg List.length HMAP.out; rw [List.length_map] at this; omega
          simp only [List.getElem?_map] at h9
          rw [List.getElem?_eq_getElem hj, List.getElem?_eq_getElem hj2, cutPcs_get] at h9
          simpa using h9, fun _ h => by omega⟩, ⟨pw, hrow2, hmap2⟩, HBAB.out.size⟩
      clear hbc hrow2 hmap2 hpl HC2 m0' m1' mz' hok
      go_wp2_with fail
      go_loopg [12, 13] N (fun gk iv _ wr => ∃ k lk : Nat, k + gk = N ∧ iv = .int .i64 (k : Int) ∧ Hid (TwoCuts w wa wb.heap.size i t x size.toNat (.slice (some ⟨ga, 0, none⟩) N ca) (.slice (some ⟨gb, 0, none⟩) N cb) k lk wr))
      case atStart => exact ⟨0, 0, by omega, rfl, HTC⟩
      case round =>
        obtain ⟨k, lk, hgk, rfl, HT⟩ := hrel
        by_cases hlt : k < N
        · have hkk : (k : Int) < (N : Int) := by omega
          obtain ⟨p, hp⟩ : ∃ p, p = cutPc i t x size.toNat k := ⟨_, rfl⟩
          obtain ⟨gr, gs, ua, uc, ua', uc', e1, e2, z1, z2, -, -, ⟨x0, x1, x2, x3, x4, x5⟩, ⟨y0, y1, y2, y3, y4, y5⟩, r1, r2, ht⟩ := HT.out.pair (by rw [← HN.out]; exact hlt) hp
          cases e1
          cases e2
          have HSM : Hid (∀ q, Calls Tryd.prog 8 #[pcAgg p (.slice ua p.b.length uc), pcAgg p (.slice ua' p.b.length uc')] (wr.drewN q) fun e w' => e = .returned (.bool true) ∧ Below (wr.drewN q).heap.size (wr.drewN q) w') := Lib.hid fun q =>
            Same7_any p _ _ _ _ _ _ _ _ (wr.drewN q) (r1.same (fun _ h => h) fun _ _ => rfl) (r2.same (fun _ h => h) fun _ _ => rfl) (fun _ h => h) (fun _ h => h)
          have HTT := Lib.hid ht
          have hpl5 : p.b.length ≤ 500 := by rw [hp]; have := cutPc_len i t (b := x) (size := size.toNat) (k := k); have := HLX.out; omega
          obtain ⟨lb, hlb⟩ : ∃ lb, lb = p.b.length := ⟨_, rfl⟩
          unfold pcAgg at HSM
          rw [← hlb] at HSM x5 y5 HTT hpl5
          clear r1 r2 ht hp HT hlb
          have hga := z1
          have hgs := z2
          have r0 := fun w' (hb : Below wr.heap.size wr w') => (hb.cell (p := ⟨ga, k * 6, none⟩) hga).trans x0
          have r1 := fun w' (hb : Below wr.heap.size wr w') => (hb.cell (p := ⟨ga, k * 6 + 1, none⟩) hga).trans x1
          have r2 := fun w' (hb : Below wr.heap.size wr w') => (hb.cell (p := ⟨ga, k * 6 + 2, none⟩) hga).trans x2
          have r3 := fun w' (hb : Below wr.heap.size wr w') => (hb.cell (p := ⟨ga, k * 6 + 3, none⟩) hga).trans x3
          have r4 := fun w' (hb : Below wr.heap.size wr w') => (hb.cell (p := ⟨ga, k * 6 + 4, none⟩) hga).trans x4
          have r5 := fun w' (hb : Below wr.heap.size wr w') => (hb.cell (p := ⟨ga, k * 6 + 5, none⟩) hga).trans x5
          have s0 := fun w' (hb : Below wr.heap.size wr w') => (hb.cell (p := ⟨gb, k * 6, none⟩) hgs).trans y0
          have s1 := fun w' (hb : Below wr.heap.size wr w') => (hb.cell (p := ⟨gb, k * 6 + 1, none⟩) hgs).trans y1
          have s2 := fun w' (hb : Below wr.heap.size wr w') => (hb.cell (p := ⟨gb, k * 6 + 2, none⟩) hgs).trans y2
          have s3 := fun w' (hb : Below wr.heap.size wr w') => (hb.cell (p := ⟨gb, k * 6 + 3, none⟩) hgs).trans y3
          have s4 := fun w' (hb : Below wr.heap.size wr w') => (hb.cell (p := ⟨gb, k * 6 + 4, none⟩) hgs).trans y4
          have s5 := fun w' (hb : Below wr.heap.size wr w') => (hb.cell (p := ⟨gb, k * 6 + 5, none⟩) hgs).trans y5
          clear x0 x1 x2 x3 x4 x5 y0 y1 y2 y3 y4 y5
          go_upto_region 11 with fail
          refine wp_region_held (S := fun w' => Below wr.heap.size wr w') (by kernel_rfl) ?_
          have hS : Below wr.heap.size wr wr.drew := (Below.refl _ _).drew
          refine H_take (i := 0) (v := ?_) rfl (by as_aux_lemma => kernel_rfl) (by as_aux_lemma => kernel_rfl) (by as_aux_lemma => kernel_rfl) (fun _ _ _ h => h) (by rfl) hS ?_ ?_
          rotate_left
          · intro w' hw'; go_simp; with_reducible rfl
          go_simp
          refine H_take (i := 1) (v := ?_) rfl (by as_aux_lemma => kernel_rfl) (by as_aux_lemma => kernel_rfl) (by as_aux_lemma => kernel_rfl) (fun _ _ _ h => h) (by rfl) hS ?_ ?_
          rotate_left
          · intro w' hw'; go_simp; with_reducible rfl
          go_simp
          refine H_take (i := 2) (v := ?_) rfl (by as_aux_lemma => kernel_rfl) (by as_aux_lemma => kernel_rfl) (by as_aux_lemma => kernel_rfl) (fun _ _ _ h => h) (by rfl) hS ?_ ?_
          rotate_left
          · intro w' hw'; go_simp; with_reducible rfl
          go_simp
          refine H_take (i := 3) (v := ?_) rfl (by as_aux_lemma => kernel_rfl) (by as_aux_lemma => kernel_rfl) (by as_aux_lemma => kernel_rfl) (fun _ _ _ h => h) (by rfl) hS ?_ ?_
          rotate_left
          · intro w' hw'; go_simp; with_reducible rfl
          go_simp
          refine H_take (i := 4) (v := ?_) rfl (by as_aux_lemma => kernel_rfl) (by as_aux_lemma => kernel_rfl) (by as_aux_lemma => kernel_rfl) (fun _ _ _ h => h) (by rfl) hS ?_ ?_
          rotate_left
          · intro w' hw'; go_simp; with_reducible rfl
          go_simp
          refine H_take (i := 5) (v := ?_) rfl (by as_aux_lemma => kernel_rfl) (by as_aux_lemma => kernel_rfl) (by as_aux_lemma => kernel_rfl) (fun _ _ _ h => h) (by rfl) hS ?_ ?_
          rotate_left
          · intro w' hw'; go_simp; with_reducible rfl
          go_simp
          refine H_take (i := 6) (v := ?_) rfl (by as_aux_lemma => kernel_rfl) (by as_aux_lemma => kernel_rfl) (by as_aux_lemma => kernel_rfl) (fun _ _ _ h => h) (by rfl) hS ?_ ?_
          rotate_left
          · intro w' hw'; go_simp; with_reducible rfl
          go_simp
          refine H_take (i := 7) (v := ?_) rfl (by as_aux_lemma => kernel_rfl) (by as_aux_lemma => kernel_rfl) (by as_aux_lemma => kernel_rfl) (fun _ _ _ h => h) (by rfl) hS ?_ ?_
          rotate_left
          · intro w' hw'; go_simp; with_reducible rfl
          go_simp
          refine H_one (i := 8) (by as_aux_lemma => kernel_rfl) rfl (by rfl) ?_
          go_simp
          refine (HSM.out 1).mono ?_
          rintro e w6 ⟨rfl, hb6⟩
          have hS6 : Below wr.heap.size wr w6 := hS.trans (hb6.mono (Nat.le_refl _))
          refine ⟨hS6, ?_⟩
          go_simp
          refine H_take (i := 9) (v := ?_) rfl (by as_aux_lemma => kernel_rfl) (by as_aux_lemma => kernel_rfl) (by as_aux_lemma => kernel_rfl) (fun _ _ _ h => h) (by rfl) hS6 ?_ ?_
          rotate_left
          · intro w' hw'; go_simp; with_reducible rfl
          go_simp
          refine wpAnyH_done (by as_aux_lemma => kernel_rfl) ?_ _
          have HT6 := Lib.hid (HTT.out.next hS6)
          clear r0 r1 r2 r3 r4 r5 s0 s1 s2 s3 s4 s5 hga hgs z1 z2 hS hb6 hS6 HSM HTT
          go_wp2_with fail
          obtain ⟨go1, hgo⟩ : ∃ g, g = gk := ⟨_, rfl⟩
          have HGO : Hid (k + go1 = N ∧ go1 = gk) := Lib.hid ⟨by omega, hgo⟩
          go_loopg [13] lb (fun gm mv wr => ∃ m : Nat, m + gm = lb ∧ mv = .int .i64 (m : Int) ∧ Hid (TwoCuts w wa wb.heap.size i t x size.toNat (.slice (some ⟨ga, 0, none⟩) N ca) (.slice (some ⟨gb, 0, none⟩) N cb) (k + 1) lb wr))
          case atStart => exact ⟨0, by omega, rfl, HT6⟩
          case round =>
            obtain ⟨m, hgm, rfl, HTM⟩ := hrel
            by_cases hml : m < lb
            · have hmm : (m : Int) < (lb : Int) := by omega
              obtain ⟨gr, g, uc7, xb, e1, c5, cz, cb1, cfz, cgz, cne, htn⟩ := HTM.out.byte (by rw [← HN.out]; exact hlt) hml
              cases e1
              have htn2 := htn.next (Below.refl _ _).drew
              rw [show ((xb ^^^ 1).toNat : Int) = ((xb.toNat ^^^ 1 : Nat) : Int) from by rw [UInt8.toNat_xor]; rfl] at htn2
              have HTN := Lib.hid htn2
              have hxr := turned1 xb
              clear htn htn2
              go_upto_region 16 with fail
              refine wp_region_held (S := fun w' => Only (fun j => j = g) wr w') (by kernel_rfl) ?_
              have hS : Only (fun j => j = g) wr wr.drew := Only.of_below (Below.refl _ _).drew
              have r5 := fun w' (hb : Only (fun j => j = g) wr w') => (World.cell?_of_block (a := ⟨ga, k * 6 + 5, none⟩) (hb.block ga cz cne)).trans c5
              refine H_take (i := 0) (v := ?_) rfl (by as_aux_lemma => kernel_rfl) (by as_aux_lemma => kernel_rfl) (by as_aux_lemma => kernel_rfl) (fun _ _ _ h => h) (by rfl) hS ?_ ?_
              rotate_left
              · intro w' hw'; go_simp; with_reducible rfl
              go_simp
              refine H_take (i := 1) (v := ?_) rfl (by as_aux_lemma => kernel_rfl) (by as_aux_lemma => kernel_rfl) (by as_aux_lemma => kernel_rfl) (fun _ _ _ h => h) (by rfl) hS ?_ ?_
              rotate_left
              · intro w' hw'; go_simp; with_reducible rfl
              go_simp
              refine H_take (i := 2) (v := ?_) rfl (by as_aux_lemma => kernel_rfl) (by as_aux_lemma => kernel_rfl) (by as_aux_lemma => kernel_rfl) (fun _ _ _ h => h) (by rfl) hS ?_ ?_
              rotate_left
              · intro w' hw'; go_simp; with_reducible rfl
              go_simp
              refine H_take (i := 3) (v := ?_) rfl (by as_aux_lemma => kernel_rfl) (by as_aux_lemma => kernel_rfl) (by as_aux_lemma => kernel_rfl) (fun _ _ _ h => h) (by rfl) hS ?_ ?_
              rotate_left
              · intro w' hw'; go_simp; with_reducible rfl
              go_simp
              refine H_take (i := 4) (v := ?_) rfl (by as_aux_lemma => kernel_rfl) (by as_aux_lemma => kernel_rfl) (by as_aux_lemma => kernel_rfl) (fun _ _ _ h => h) (by rfl) hS ?_ ?_
              rotate_left
              · intro w' hw'; go_simp; with_reducible rfl
              go_simp
              refine H_take (i := 5) (v := ?_) rfl (by as_aux_lemma => kernel_rfl) (by as_aux_lemma => kernel_rfl) (by as_aux_lemma => kernel_rfl) (fun _ _ _ h => h) (by rfl) hS ?_ ?_
              rotate_left
              · intro w' hw'; go_simp; with_reducible rfl
              go_simp
              refine H_take (i := 6) (v := ?_) rfl (by as_aux_lemma => kernel_rfl) (by as_aux_lemma => kernel_rfl) (by as_aux_lemma => kernel_rfl) (fun _ _ _ h => h) (by rfl) hS ?_ ?_
              rotate_left
              · intro w' hw'; go_simp; with_reducible rfl
              go_simp
              refine H_take (i := 7) (v := ?_) rfl (by as_aux_lemma => kernel_rfl) (by as_aux_lemma => kernel_rfl) (by as_aux_lemma => kernel_rfl) (fun _ _ _ h => h) (by rfl) hS ?_ ?_
              rotate_left
              · intro w' hw'; go_simp; with_reducible rfl
              go_simp
              refine H_take (i := 8) (v := ?_) rfl (by as_aux_lemma => kernel_rfl) (by as_aux_lemma => kernel_rfl) (by as_aux_lemma => kernel_rfl) (fun _ _ _ h => h) (by rfl) hS ?_ ?_
              rotate_left
              · intro w' hw'; go_simp; with_reducible rfl
              go_simp
              refine H_take (i := 9) (v := ?_) rfl (by as_aux_lemma => kernel_rfl) (by as_aux_lemma => kernel_rfl) (by as_aux_lemma => kernel_rfl) (fun _ _ _ h => h) (by rfl) hS ?_ ?_
              rotate_left
              · intro w' hw'; go_simp; with_reducible rfl
              go_simp
              refine H_take (i := 10) (v := ?_) rfl (by as_aux_lemma => kernel_rfl) (by as_aux_lemma => kernel_rfl) (by as_aux_lemma => kernel_rfl) (fun _ _ _ h => h) (by rfl) hS ?_ ?_
              rotate_left
              · intro w' hw'; go_simp; with_reducible rfl
              go_simp
              refine H_take (i := 11) (v := ?_) rfl (by as_aux_lemma => kernel_rfl) (by as_aux_lemma => kernel_rfl) (by as_aux_lemma => kernel_rfl) (fun _ _ _ h => h) (by rfl) hS ?_ ?_
              rotate_left
              · intro w' hw'; go_simp; with_reducible rfl
              go_simp
              refine H_take (i := 12) (v := ?_) rfl (by as_aux_lemma => kernel_rfl) (by as_aux_lemma => kernel_rfl) (by as_aux_lemma => kernel_rfl) (fun _ _ _ h => h) (by rfl) hS ?_ ?_
              rotate_left
              · intro w' hw'; go_simp; with_reducible rfl
              go_simp
              refine H_one (i := 13) (by as_aux_lemma => kernel_rfl) rfl (by rfl) ?_
              go_simp
              refine H_take (i := 14) (v := ?_) rfl (by as_aux_lemma => kernel_rfl) (by as_aux_lemma => kernel_rfl) (by as_aux_lemma => kernel_rfl) (fun _ _ _ h => h) (by rfl) hS ?_ ?_
              rotate_left
              · intro w' hw'; go_simp; with_reducible rfl
              go_simp
              refine H_take (i := 15) (v := ?_) rfl (by as_aux_lemma => kernel_rfl) (by as_aux_lemma => kernel_rfl) (by as_aux_lemma => kernel_rfl) (fun _ _ _ h => h) (by rfl) hS ?_ ?_
              rotate_left
              · intro w' hw'; go_simp; with_reducible rfl
              go_simp
              refine H_one (i := 16) (by as_aux_lemma => kernel_rfl) rfl (by rfl) ?_
              go_simp
              refine ⟨(Only.one _).next (Below.refl _ _).drew, ?_⟩
              refine wpAnyH_done (by as_aux_lemma => kernel_rfl) ?_ _
              go_wp2_with fail
              go_roundg (gk - 1)
              case measure => omega
              case rel => exact ⟨m + 1, by omega, by push_cast; rfl, HTN⟩
            · obtain rfl : m = lb := by omega
              have hmm : ¬ (m : Int) < (m : Int) := by omega
              obtain ⟨gr, ua7, uc7, e1, c5, cz, -, -⟩ := HTM.out.at (by rw [← HN.out]; exact hlt)
              cases e1
              go_wp2_with fail
              go_roundg (go1 - 1)
              case measure => have := HGO.out; omega
              case rel => exact ⟨k + 1, m, by have := HGO.out; omega, by push_cast; rfl, HTM⟩
        · obtain rfl : k = N := by omega
          have hkk : ¬ (k : Int) < (k : Int) := by omega
          have HBW : Hid (Below wa.heap.size wa wr) := Lib.hid HT.out.old
          have kc1 := run_string (P := Tryd.prog) (HIN.out.same (w' := wr) (fun _ h => h) fun k hk => HBW.out.block k hk) 24 5 9 Tryd.underlying24 Tryd.underlying5 Tryd.underlying9
          have kc2 := run_string (P := Tryd.prog) (HXA.out.same (w' := wr) (fun _ h => h) fun k hk => HBW.out.block k hk) 24 5 9 Tryd.underlying24 Tryd.underlying5 Tryd.underlying9
          obtain ⟨S, hS⟩ : ∃ S, S = strOf x := ⟨_, rfl⟩
          rw [← hS] at kc1 kc2
          clear hS HT
          go_wp2_with fail
          go_ret
          exact ⟨by simp, HBA.out.trans (HBW.out.mono HBA.out.size)⟩
    · rw [if_neg hok] at hpb
      subst hpb
      go_wp2_with fail
      refine (HC2.out).mono ?_
      rintro e wc' ⟨hbc, hpc⟩
      rw [if_neg hok] at hpc
      subst hpc
      have HBC : Hid (Below wa.heap.size wa wc') := Lib.hid (HBAB.out.trans (hbc.mono HBAB.out.size))
      have kc1 := run_string (P := Tryd.prog) (HIN.out.same (w' := wc') (fun _ h => h) fun k hk => HBC.out.block k hk) 24 5 9 Tryd.underlying24 Tryd.underlying5 Tryd.underlying9
      have kc2 := run_string (P := Tryd.prog) (HXA.out.same (w' := wc') (fun _ h => h) fun k hk => HBC.out.block k hk) 24 5 9 Tryd.underlying24 Tryd.underlying5 Tryd.underlying9
      obtain ⟨S, hS⟩ : ∃ S, S = strOf x := ⟨_, rfl⟩
      rw [← hS] at kc1 kc2
      clear hbc hS hok HC2 m0' m1' mz'
      go_wp2_with fail
      go_loopg [12, 13] 0 (fun gk iv _ wr => iv = .int .i64 0 ∧ Hid (wr = wc'))
      case atStart => exact ⟨rfl, Lib.hid rfl⟩
      case round =>
        obtain ⟨rfl, HW⟩ := hrel
        have hw := HW.out
        clear HW
        subst hw
        go_wp2_with fail
        go_ret
        exact ⟨by simp, HBA.out.trans (HBC.out.mono HBA.out.size)⟩
end Go.Proofs.YtdngfbljcmbniaaDoor.M
