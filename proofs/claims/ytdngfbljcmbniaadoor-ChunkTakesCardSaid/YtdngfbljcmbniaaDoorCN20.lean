/- The document's Cut. The document's Byte, Missing. The document's Whole. The document's Take: what it does, over plain lists; the row that grows. -/
import Derived.Test.YtdngfbljcmbniaaDoorCN18
import Derived.Test.YtdngfbljcmbniaaDoorCN19
import Derived.Test.YtdngfbljcmbniaaDoorCN12
import Derived.Deep.CutRange
import Derived.OrdersHeld
import Derived.Deep.RegionHeld
import Derived.Deep.QuietTactic
import Derived.BigQuiet
import Derived.Test.YtdngfbljcmbniaaDoorCN11
/- Part: ChR2. -/
namespace Go.Proofs.YtdngfbljcmbniaaDoor.M
open Go.RowKit Go.Maps

/-- An append whose run is known. -/
theorem wpList_append_run7 {P : Program} (w : World) {ops : Array Oper} {rest : List Oper} {o : Oper} {a : Act} {Q : Exit → Act → World → Prop} (hgd : o.guard = none) (s y : Operand) (t : TypeId)
    (ho : o.op = .call { callee := .builtin .append, args := #[s, y], argTypes := #[t, t] }) (v x v' : Value) (w' : World) (hs : a.eval s = v) (hy : a.eval y = x)
    (hr : (Builtin.append_ #[t, t] o.type #[v, x]).run P w = .ok v' w') (h : wpList P ops Q rest (a.put o.dst v') w') : wpList P ops Q (o :: rest) a w := by
  refine wpList_plain hgd fun K' hK' => ?_
  unfold Oper.wp execOp
  simp only [ho, resolve, invoke, builtin, Sem.run_bind, Sem.run_pure, Result.andThen_ok, List.map_toArray, List.map_cons, List.map_nil, hs, hy, hr]
  exact hK' _ _ h

/-- Where the k-th round of the document's Cut stands. -/
theorem ref_more {n size k : Nat} (hs : 0 < size) (hk : 0 < k) (hk2 : k ≤ cutN n size) : (min (k * size) n < n ↔ k < cutN n size) := by
  by_cases hn : n = 0
  · subst hn
    unfold cutN at hk2 ⊢
    rw [if_pos rfl] at hk2 ⊢
    omega
  · rw [cutN_lt hs hn]; omega

theorem ref_at {n size k : Nat} (hs : 0 < size) (hk : k < cutN n size) : min (k * size) n = k * size ∧ k * size + min size (n - k * size) = min ((k + 1) * size) n := by
  have h1 := cut_end hs hk
  rw [Nat.add_mul, Nat.one_mul]
  omega

theorem RepB.elem7 {w : World} {F : Nat → Prop} {L : List UInt8} {a : Option Addr} {n c : Nat} (h : RepB w F L (.slice a n c)) {i : Nat} (hi : i < L.length) :
    ∃ b off, a = some ⟨b, off, none⟩ ∧ F b ∧ L.length ≤ c ∧ c ≤ 9223372036854775807 ∧ ∀ (j : Nat) (hj : j < L.length), w.cell? ⟨b, off + j, none⟩ = some (.int .u8 (L[j].toNat : Int)) := by
  rcases h with ⟨h, _⟩ | ⟨b, off, c', h, hb, h1, h2, hc⟩
  · rw [h] at hi; simp at hi
  · cases h
    exact ⟨b, off, rfl, hb, h1, h2, hc⟩

theorem RepB.mid7 {w : World} {F : Nat → Prop} {L : List UInt8} {b off c : Nat} (hF : F b) (hc : ∀ (j : Nat) (hj : j < L.length), w.cell? ⟨b, off + j, none⟩ = some (.int .u8 (L[j].toNat : Int))) (hl : L.length ≤ c) (hm : c ≤ 9223372036854775807) {k n : Nat} (hk : k + n ≤ L.length) :
    RepB w F ((L.drop k).take n) (.slice (if c = k then some ⟨b, off, none⟩ else some ⟨b, off + k, none⟩) n (c - k)) := by
  have e : ((L.drop k).take n).length = n := by rw [List.length_take, List.length_drop]; omega
  by_cases h : c = k
  · rw [if_pos h]
    obtain rfl : n = 0 := by omega
    refine .inl ⟨rfl, _, c - k, rfl, by omega, fun h => by cases h⟩
  · rw [if_neg h]
    refine .inr ⟨b, off + k, c - k, by rw [e], hF, by rw [e]; omega, by omega, fun i hi => ?_⟩
    rw [e] at hi
    have := hc (k + i) (by omega)
    rw [Nat.add_assoc, this]
    simp

/-- What stands ahead of a round. -/
def RcAt (W2 : World) (i t : Int) (b : List UInt8) (sz k : Nat) (ov : Value) (wr : World) : Prop :=
  Below W2.heap.size W2 wr ∧ ∃ pv, PcRow W2.heap.size pv ov wr ∧ pv.map (·.1) = pre i t b sz k

set_option maxRecDepth 100000 in
set_option maxHeartbeats 8000000 in
theorem RefCut7_any (i t : Int) (b : List UInt8) (size : Int) (F : Nat → Prop) (v : Value) (w : World) (hb : b.length ≤ 100000) (hs : size ≤ 9223372036854775807) (hv : RepB w F b v) (hF : ∀ k, F k → k < w.heap.size) :
    Calls Tryd.prog 7 #[mkAgg i t, v, .int .i64 size] w (CutPost w i t b size) := by
  obtain ⟨a, cap, rfl, -⟩ := hv.slice
  obtain ⟨n, hnn⟩ : ∃ n, n = b.length := ⟨_, rfl⟩
  obtain ⟨W1, hW1⟩ : ∃ W1, W1 = w.alloc (.cells #[.int .i64 i, .int .i64 t] 23) := ⟨_, rfl⟩
  have hb1 : Below w.heap.size w W1 := by rw [hW1]; exact below_alloc _ _
  have hx1 : W1.heap[w.heap.size]? = some (.cells #[.int .i64 i, .int .i64 t] 23) := by rw [hW1]; exact heap_new _ _ _ rfl
  have HRR := Lib.hid (RefRight7_any i t W1)
  unfold mkAgg at HRR ⊢
  obtain ⟨om, hom⟩ : ∃ om, om = okMark i t := ⟨_, rfl⟩
  rw [← hom] at HRR
  have HOM := Lib.hid hom
  have HN := Lib.hid hnn
  have HW1 := Lib.hid hW1
  have HX1 := Lib.hid hx1
  have HB1 := Lib.hid hb1
  have HV := Lib.hid hv
  have HF := Lib.hid hF
  have HBL := Lib.hid hb
  have HS := Lib.hid hs
  rw [← hnn]
  obtain ⟨d0, d1, dz⟩ : W1.cell? ⟨w.heap.size, 0, none⟩ = some (.int .i64 i) ∧ W1.cell? ⟨w.heap.size, 1, none⟩ = some (.int .i64 t) ∧ w.heap.size < W1.heap.size := ⟨cell_of_row _ _ 0 _ _ _ hx1, cell_of_row _ _ 1 _ _ _ hx1, lt_of_heap hx1⟩
  clear hom hnn hW1 hx1 hb1 hv hF hb hs
  cases om with
  | false =>
    go_enter Tryd.func7, Tryd.ntmps7
    go_wp2_with (go_at_call 22; rw [← HW1.out]; refine (HRR.out).mono ?_; rintro e w2 ⟨rfl, hb2⟩; have HB2 := Lib.hid hb2; clear hb2)
    go_ret2
    refine ⟨HB1.out.trans (HB2.out.mono HB1.out.size), ?_⟩
    rw [if_neg (by rw [← HOM.out]; rintro ⟨h, -⟩; cases h)]
    rfl
  | true =>
    by_cases hs1 : size < 1
    · have q1 : decide (size < 1) = true := decide_eq_true hs1
      go_enter Tryd.func7, Tryd.ntmps7
      go_wp2_with (go_at_call 22; rw [← HW1.out]; refine (HRR.out).mono ?_; rintro e w2 ⟨rfl, hb2⟩; have HB2 := Lib.hid hb2; clear hb2)
      go_ret2
      refine ⟨HB1.out.trans (HB2.out.mono HB1.out.size), ?_⟩
      rw [if_neg (by rintro ⟨-, h⟩; omega)]
      rfl
    · have q1 : decide (size < 1) = false := decide_eq_false hs1
      obtain ⟨sz, hsz⟩ : ∃ sz : Nat, (sz : Int) = size := ⟨size.toNat, by omega⟩
      have HSZ := Lib.hid hsz
      clear hsz
      go_enter Tryd.func7, Tryd.ntmps7
      go_wp2_with (go_at_call 22; rw [← HW1.out]; refine (HRR.out).mono ?_; rintro e w2 ⟨rfl, hb2⟩; have HB2 := Lib.hid hb2; clear hb2)
      have hsz0 : 0 < sz := by have := HSZ.out; omega
      have hnl : n ≤ 100000 := by rw [HN.out]; exact HBL.out
      obtain ⟨N, hN⟩ : ∃ N, N = cutN n sz := ⟨_, rfl⟩
      have hN1 : 1 ≤ N := by rw [hN]; exact cutN_pos hsz0
      have hN2 : N ≤ n + 1 := by rw [hN]; exact cutN_le hsz0
      have HNN := Lib.hid hN
      have HB2' : Hid (Below w.heap.size w w2) := Lib.hid (HB1.out.trans (HB2.out.mono HB1.out.size))
      have HX2 : Hid (w2.heap[w.heap.size]? = some (.cells #[.int .i64 i, .int .i64 t] 23)) := Lib.hid (old_below HX1.out HB2.out)
      rw [← HSZ.out]
      clear hN d0 d1 dz
      have HR0 : Hid (RcAt w2 i t b sz 0 (.slice none 0 0) w2) := Lib.hid ⟨Below.refl _ _, [], PcRow.nil _ _, rfl⟩
      go_loopg [8, 9, 10, 11] N (fun gk ov at_ _ _ wr => ∃ k tt : Nat, k + gk = N ∧ tt = min (k * sz) n ∧ at_ = .int .i64 (tt : Int) ∧ (∃ oa oc, ov = .slice oa k oc) ∧ Hid (RcAt w2 i t b sz k ov wr))
      case atStart => exact ⟨0, 0, by omega, by simp, rfl, ⟨none, 0, rfl⟩, HR0⟩
      case round =>
        obtain ⟨k, tt, hgk, htt, rfl, ⟨oa, oc, rfl⟩, hat⟩ := hrel
        by_cases hlt : k < N
        · obtain ⟨hr1, hr2⟩ := ref_at (n := n) (k := k) hsz0 (by rw [← HNN.out]; exact hlt)
          obtain ⟨pl, hpl⟩ : ∃ pl, pl = min sz (n - tt) := ⟨_, rfl⟩
          have htk : tt = k * sz := by rw [htt, hr1]
          have htp : tt + pl = min ((k + 1) * sz) n := by rw [hpl, htk]; exact hr2
          have htn : tt ≤ n := by omega
          have hpn : tt + pl ≤ n := by omega
          have hk0 : k ≠ 0 → tt < n := fun h => by
            have h1 := (ref_more (n := n) hsz0 (show 0 < k by omega) (by rw [← HNN.out]; omega)).2 (by rw [← HNN.out]; exact hlt)
            omega
          have HTK : Hid (tt = k * sz ∧ tt + pl = min ((k + 1) * sz) n ∧ pl = min sz (n - tt) ∧ k < N ∧ k + gk = N ∧ tt + pl ≤ n) := Lib.hid ⟨htk, htp, hpl, hlt, hgk, hpn⟩
          have HK0 := Lib.hid hk0
          obtain ⟨hbw, pv, hrow, hmap⟩ := hat.out
          have hkl : k = pv.length := by have := congrArg List.length hmap; rw [pre_length, List.length_map] at this; omega
          have HBW := Lib.hid hbw
          have HROW := Lib.hid hrow
          have HMAP := Lib.hid hmap
          have HKL := Lib.hid hkl
          obtain ⟨sm, hsm⟩ : ∃ sm, sm = C.sumOf b := ⟨_, rfl⟩
          have HSM := Lib.hid hsm
          have HBB : Hid (Below w.heap.size w wr) := Lib.hid (HB2'.out.trans (hbw.mono HB2'.out.size))
          have HVW : Hid (RepB wr F b (.slice a n cap)) := Lib.hid (by rw [HN.out]; exact HV.out.same (fun _ h => h) fun k hk => HBB.out.block k (HF.out k hk))
          have HOF : Hid (∀ W, Below wr.heap.size wr W → Calls Tryd.prog 23 #[.slice a n cap] W fun e w' => e = .returned (.int .u32 (sm : Int)) ∧ W = w') := Lib.hid fun W hb => by
            rw [hsm]
            exact RefOf_any b F _ W (HVW.out.same (fun _ h => h) fun k hk => hb.block k (Nat.lt_of_lt_of_le (HF.out k hk) HBB.out.size))
          have hxw : wr.heap[w.heap.size]? = some (.cells #[.int .i64 i, .int .i64 t] 23) := old_below HX2.out hbw
          obtain ⟨m0, m1, mz⟩ : wr.cell? ⟨w.heap.size, 0, none⟩ = some (.int .i64 i) ∧ wr.cell? ⟨w.heap.size, 1, none⟩ = some (.int .i64 t) ∧ w.heap.size < wr.heap.size := ⟨cell_of_row _ _ 0 _ _ _ hxw, cell_of_row _ _ 1 _ _ _ hxw, lt_of_heap hxw⟩
          have HM0 : Hid (∀ w', Below wr.heap.size wr w' → w'.cell? ⟨w.heap.size, 0, none⟩ = some (.int .i64 i) ∧ w'.cell? ⟨w.heap.size, 1, none⟩ = some (.int .i64 t)) := Lib.hid fun w' hb => ⟨(hb.cell (p := ⟨w.heap.size, 0, none⟩) mz).trans m0, (hb.cell (p := ⟨w.heap.size, 1, none⟩) mz).trans m1⟩
          clear htk htp hpl hlt hgk hk0 hbw hrow hmap hkl hsm hxw htt hat hr1 hr2 m0 m1 mz
          go_upto_region 5 with fail
          go_cut [27] from 19 to 59 (fun tv w' => tv = .bool true ∧ w' = wr)
          case first =>
            by_cases hk0 : k = 0
            · have q2 : ((k : Int) == 0) = true := by simp [hk0]
              go_wp2_with fail
              go_meet
              case rel => exact ⟨rfl, rfl⟩
            · have q2 : ((k : Int) == 0) = false := by simp; omega
              have q3 := HK0.out hk0
              go_wp2_with fail
              go_meet
              case rel => exact ⟨rfl, rfl⟩
          case rest =>
            obtain ⟨rfl, hwc⟩ := hcut
            obtain rfl : wr = wc := hwc.symm
            go_upto_if 34 with fail
            go_cut [10] from 19 to 59 (fun nv w' => nv = .int .i64 (pl : Int) ∧ w' = wr)
            case first =>
              have hc1 := HTK.out
              by_cases hgt : sz < n - tt
              · have q4 : (sz : Int) < (n : Int) - (tt : Int) := by omega
                clear hc1
                go_wp2_with fail
                go_meet
                case rel => exact ⟨by have := HTK.out; go_num, rfl⟩
              · have q4 : ¬ (sz : Int) < (n : Int) - (tt : Int) := by omega
                clear hc1
                go_wp2_with fail
                go_meet
                case rel => exact ⟨by have := HTK.out; go_num, rfl⟩
            case rest =>
              obtain ⟨rfl, hwc⟩ := hcut
              obtain rfl : wr = wc := hwc.symm
              go_upto_region 9 with fail
              go_cut [11] from 19 to 59 (fun pp w' => pp = .pointer (some ⟨wr.heap.size, 0, none⟩) ∧ w' = (wr.alloc (.cells #[.int .i64 i, .int .i64 t, .int .u32 (sm : Int), .int .i64 (n : Int), .int .i64 (tt : Int), .slice none 0 0] 35)).drew)
              case first =>
                have r0 := fun w' hb => (HM0.out w' hb).1
                have r1 := fun w' hb => (HM0.out w' hb).2
                refine wp_region_held (S := fun w' => Below wr.heap.size wr w') (by kernel_rfl) ?_
                have hS : Below wr.heap.size wr wr.drew := (Below.refl _ _).drew
                refine H_take (i := 0) (v := ?_) rfl (by as_aux_lemma => kernel_rfl) (by as_aux_lemma => kernel_rfl) (by as_aux_lemma => kernel_rfl) (fun _ _ _ h => h) (by rfl) hS ?_ ?_
                rotate_left
                · intro w' hw'; go_simp; with_reducible rfl
                go_simp
                refine H_take (i := 1) (v := ?_) rfl (by as_aux_lemma => kernel_rfl) (by as_aux_lemma => kernel_rfl) (by as_aux_lemma => kernel_rfl) (fun _ _ _ h => h) (by rfl) hS ?_ ?_
                rotate_left
                · intro w' hw'; go_simp; with_reducible rfl
                go_simp
                refine H_take (i := 3) (v := ?_) rfl (by as_aux_lemma => kernel_rfl) (by as_aux_lemma => kernel_rfl) (by as_aux_lemma => kernel_rfl) (fun _ _ _ h => h) (by rfl) hS ?_ ?_
                rotate_left
                · intro w' hw'; go_simp; with_reducible rfl
                go_simp
                refine H_take (i := 4) (v := ?_) rfl (by as_aux_lemma => kernel_rfl) (by as_aux_lemma => kernel_rfl) (by as_aux_lemma => kernel_rfl) (fun _ _ _ h => h) (by rfl) hS ?_ ?_
                rotate_left
                · intro w' hw'; go_simp; with_reducible rfl
                go_simp
                refine H_take (i := 5) (v := ?_) rfl (by as_aux_lemma => kernel_rfl) (by as_aux_lemma => kernel_rfl) (by as_aux_lemma => kernel_rfl) (fun _ _ _ h => h) (by rfl) hS ?_ ?_
                rotate_left
                · intro w' hw'; go_simp; with_reducible rfl
                go_simp
                refine H_both (i := 2) (j := 7) (by as_aux_lemma => kernel_rfl) rfl rfl (by rfl) (by rfl) ?_ ?_
                · go_simp
                  refine (HOF.out wr.drew hS).mono ?_
                  rintro e w3 ⟨rfl, rfl⟩
                  refine ⟨hS, ?_⟩
                  go_simp
                  refine H_take (i := 6) (v := ?_) rfl (by as_aux_lemma => kernel_rfl) (by as_aux_lemma => kernel_rfl) (by as_aux_lemma => kernel_rfl) (fun _ _ _ h => h) (by rfl) hS ?_ ?_
                  rotate_left
                  · intro w' hw'; go_simp; with_reducible rfl
                  go_simp
                  refine H_one (i := 7) (by as_aux_lemma => kernel_rfl) rfl (by rfl) ?_
                  go_simp
                  have hSb : Below wr.heap.size wr (wr.alloc (.cells #[.int .i64 0, .int .i64 0, .int .u32 0, .int .i64 0, .int .i64 0, .slice none 0 0] 35)).drew := (below_alloc _ _).drew
                  refine ⟨hSb, ?_⟩
                  refine H_one (i := 8) (by as_aux_lemma => kernel_rfl) rfl (by rfl) ?_
                  go_simp
                  have hSe : Below wr.heap.size wr (wr.alloc (.cells #[.int .i64 i, .int .i64 t, .int .u32 (sm : Int), .int .i64 (n : Int), .int .i64 (tt : Int), .slice none 0 0] 35)).drew := (below_alloc _ _).drew
                  refine ⟨hSe, ?_⟩
                  refine wpAnyH_done (by as_aux_lemma => kernel_rfl) ?_ _
                  go_wp2_with fail
                  go_meet
                  case rel => exact ⟨rfl, rfl⟩
                · go_simp
                  have hSb : Below wr.heap.size wr (wr.alloc (.cells #[.int .i64 0, .int .i64 0, .int .u32 0, .int .i64 0, .int .i64 0, .slice none 0 0] 35)).drew := (below_alloc _ _).drew
                  refine ⟨hSb, ?_⟩
                  refine H_one (i := 2) (by as_aux_lemma => kernel_rfl) rfl (by rfl) ?_
                  go_simp
                  refine (HOF.out (wr.alloc (.cells #[.int .i64 0, .int .i64 0, .int .u32 0, .int .i64 0, .int .i64 0, .slice none 0 0] 35)).drew hSb).mono ?_
                  rintro e w3 ⟨rfl, rfl⟩
                  refine ⟨hSb, ?_⟩
                  go_simp
                  refine H_take (i := 6) (v := ?_) rfl (by as_aux_lemma => kernel_rfl) (by as_aux_lemma => kernel_rfl) (by as_aux_lemma => kernel_rfl) (fun _ _ _ h => h) (by rfl) hSb ?_ ?_
                  rotate_left
                  · intro w' hw'; go_simp; with_reducible rfl
                  go_simp
                  refine H_one (i := 8) (by as_aux_lemma => kernel_rfl) rfl (by rfl) ?_
                  go_simp
                  have hSe : Below wr.heap.size wr (wr.alloc (.cells #[.int .i64 i, .int .i64 t, .int .u32 (sm : Int), .int .i64 (n : Int), .int .i64 (tt : Int), .slice none 0 0] 35)).drew := (below_alloc _ _).drew
                  refine ⟨hSe, ?_⟩
                  refine wpAnyH_done (by as_aux_lemma => kernel_rfl) ?_ _
                  go_wp2_with fail
                  go_meet
                  case rel => exact ⟨rfl, rfl⟩
              case rest =>
                obtain ⟨rfl, hwc⟩ := hcut
                obtain ⟨gp, hgp⟩ : ∃ gp, gp = wr.heap.size := ⟨_, rfl⟩
                have hb3 : Below wr.heap.size wr wc := by rw [hwc]; exact (below_alloc _ _).drew
                have hx3 : wc.heap[gp]? = some (.cells #[.int .i64 i, .int .i64 t, .int .u32 (sm : Int), .int .i64 (n : Int), .int .i64 (tt : Int), .slice none 0 0] 35) := by rw [hwc, hgp]; exact heap_new wr _ _ rfl
                rw [← hgp]
                have HGP := Lib.hid hgp
                have HB3 := Lib.hid hb3
                have HX3 := Lib.hid hx3
                have HV3 : Hid (RepB wc F b (.slice a n cap)) := Lib.hid (HVW.out.same (fun _ h => h) fun k hk => hb3.block k (Nat.lt_of_lt_of_le (HF.out k hk) HBB.out.size))
                obtain ⟨part, hpt⟩ : ∃ part, part = (b.drop tt).take pl := ⟨_, rfl⟩
                have hlen : part.length = pl := by rw [hpt, List.length_take, List.length_drop, ← HN.out]; have := HTK.out; omega
                have HPT := Lib.hid hpt
                have HLEN := Lib.hid hlen
                obtain ⟨-, -, -, -, -, p5, pz⟩ := six_cells hx3
                have HP5 : Hid (∀ w', Below wc.heap.size wc w' → w'.cell? ⟨gp, 5, none⟩ = some (.slice none 0 0)) := Lib.hid fun w' hb => (hb.cell (p := ⟨gp, 5, none⟩) pz).trans p5
                clear hwc hgp hb3 hx3 hpt hlen p5 pz
                have hpln : tt + pl ≤ n := HTK.out.2.2.2.2.2
                by_cases hn0 : n = 0
                · have htt0 : tt = 0 := by omega
                  have hpl0 : pl = 0 := by omega
                  have hp0 : part = [] := List.eq_nil_of_length_eq_zero (by rw [HLEN.out]; exact hpl0)
                  have HP0 : Hid (∀ (sa : Option Addr) (c : Nat), c ≤ 9223372036854775807 → (sa = none → c = 0) → RepB wc F part (.slice sa pl c)) := Lib.hid fun sa c h1 h2 => by rw [hp0, hpl0]; exact .inl ⟨rfl, sa, c, rfl, h1, h2⟩
                  have hcap : cap ≤ 9223372036854775807 ∧ (a = none → cap = 0) := by
                    rcases HV3.out with ⟨-, a', c', he, h1, h2⟩ | ⟨g, off, c', he, -, -, h1, -⟩
                    · cases he; exact ⟨h1, h2⟩
                    · cases he; exact ⟨h1, fun h => by cases h⟩
                  have h1 : (tt : Int) + (pl : Int) ≤ (cap : Int) := by omega
                  have h2 : (pl : Int) ≤ 1099511627776 := by omega
                  have h3 : (tt : Int) ≤ (tt : Int) + (pl : Int) := by omega
                  have hw2 : IntKind.i64.wrap ((tt : Int) + (pl : Int)) = (tt : Int) + (pl : Int) := IntWalk.i64_in _ (by omega)
                  have h4 : ((tt : Int) + (pl : Int)).toNat = tt + pl := by omega
                  have h5 : 0 ≤ (tt : Int) + (pl : Int) := by omega
                  have h6 : tt ≤ tt + pl := by omega
                  have h7 : tt + pl - tt = pl := by omega
                  have p5 := HP5.out wc (Below.refl _ _)
                  have pz := lt_of_heap HX3.out
                  clear hp0 htt0 hpl0 hn0 hpln
                  cases a with
                  | none =>
                    have hc0 : cap = 0 := hcap.2 rfl
                    subst hc0
                    have h1' : (tt : Int) + (pl : Int) ≤ 0 := by omega
                    have HSA := Lib.hid (HP0.out none 0 (by omega) fun _ => rfl)
                    clear hcap
                    go_upto_region 10 with fail
                    refine wp_region_held (S := fun w' => Below wr.heap.size wr w') (by kernel_rfl) ?_
                    have hS : Below wr.heap.size wr wc.drew := HB3.out.drew
                    refine H_take (i := 0) (v := ?_) rfl (by as_aux_lemma => kernel_rfl) (by as_aux_lemma => kernel_rfl) (by as_aux_lemma => kernel_rfl) (fun _ _ _ h => h) (by rfl) hS ?_ ?_
                    rotate_left
                    · intro w' hw'; go_simp; with_reducible rfl
                    go_simp
                    refine H_take (i := 2) (v := ?_) rfl (by as_aux_lemma => kernel_rfl) (by as_aux_lemma => kernel_rfl) (by as_aux_lemma => kernel_rfl) (fun _ _ _ h => h) (by rfl) hS ?_ ?_
                    rotate_left
                    · intro w' hw'; go_simp; with_reducible rfl
                    go_simp
                    refine H_take (i := 3) (v := ?_) rfl (by as_aux_lemma => kernel_rfl) (by as_aux_lemma => kernel_rfl) (by as_aux_lemma => kernel_rfl) (fun _ _ _ h => h) (by rfl) hS ?_ ?_
                    rotate_left
                    · intro w' hw'; go_simp; with_reducible rfl
                    go_simp
                    refine H_take (i := 4) (v := ?_) rfl (by as_aux_lemma => kernel_rfl) (by as_aux_lemma => kernel_rfl) (by as_aux_lemma => kernel_rfl) (fun _ _ _ h => h) (by rfl) hS ?_ ?_
                    rotate_left
                    · intro w' hw'; go_simp; with_reducible rfl
                    go_simp
                    refine H_take (i := 5) (v := ?_) rfl (by as_aux_lemma => kernel_rfl) (by as_aux_lemma => kernel_rfl) (by as_aux_lemma => kernel_rfl) (fun _ _ _ h => h) (by rfl) hS ?_ ?_
                    rotate_left
                    · intro w' hw'; go_simp; with_reducible rfl
                    go_simp
                    refine H_take (i := 6) (v := ?_) rfl (by as_aux_lemma => kernel_rfl) (by as_aux_lemma => kernel_rfl) (by as_aux_lemma => kernel_rfl) (fun _ _ _ h => h) (by rfl) hS ?_ ?_
                    rotate_left
                    · intro w' hw'; go_simp; with_reducible rfl
                    go_simp
                    refine H_take (i := 7) (v := ?_) rfl (by as_aux_lemma => kernel_rfl) (by as_aux_lemma => kernel_rfl) (by as_aux_lemma => kernel_rfl) (fun _ _ _ h => h) (by rfl) hS ?_ ?_
                    rotate_left
                    · intro w' hw'; go_simp; with_reducible rfl
                    go_simp
                    refine H_one (i := 1) (by as_aux_lemma => kernel_rfl) rfl (by rfl) ?_
                    go_simp
                    refine H_one (i := 8) (by as_aux_lemma => kernel_rfl) rfl (by rfl) ?_
                    refine wp_own_append (w := wc) (L := []) (L2 := part) _ _ rfl rfl rfl (Own.bare (Below.refl _ wc).drew) rfl (F := F) ?_ (by rw [HLEN.out]; simp; omega) ?_
                    · exact HSA.out.same (fun _ h => h) fun _ _ => rfl
                    intro v' w' hown
                    rw [List.nil_append] at hown
                    have S9 : Below wc.heap.size wc w' := hown.1
                    have S10 : Below wr.heap.size wr w' := HB3.out.trans (S9.mono HB3.out.size)
                    obtain ⟨va', vc', rfl⟩ := hown.slice
                    rw [HLEN.out] at hown ⊢
                    have hx4 := (hown.1.block _ (lt_of_heap HX3.out)).trans HX3.out
                    obtain ⟨x0, x1, x2, x3, x4, x5, xz⟩ := six_cells hx4
                    have xf5 := frozen_of_row _ _ 5 _ _ hx4
                    refine ⟨S10, ?_⟩
                    go_simp
                    refine H_take (i := 9) (v := ?_) rfl (by as_aux_lemma => kernel_rfl) (by as_aux_lemma => kernel_rfl) (by as_aux_lemma => kernel_rfl) (fun _ _ _ h => h) (by rfl) S10 ?_ ?_
                    rotate_left
                    · intro w' hw'; go_simp; with_reducible rfl
                    go_simp
                    refine H_one (i := 10) (by as_aux_lemma => kernel_rfl) rfl (by rfl) ?_
                    go_simp
                    obtain ⟨W5, hW5⟩ : ∃ W5, W5 = w'.setCell ⟨gp, 5, none⟩ (.slice va' pl vc') := ⟨_, rfl⟩
                    have hgc : gp < wc.heap.size := lt_of_heap HX3.out
                    have hother : ∀ j, j ≠ gp → W5.heap[j]? = w'.heap[j]? := fun j hj => by rw [hW5]; exact Below.heap_setCell _ _ _ _ hj
                    have hz5 : W5.heap.size = w'.heap.size := by rw [hW5]; simp
                    have hgpw := HGP.out
                    have hzc := HB3.out.size
                    have hz9 := S9.size
                    have hbz := HBB.out.size
                    have hbz2 := HBW.out.size
                    have hrlt := HROW.out.row.lt
                    have hr5 : PcRow w2.heap.size pv (.slice oa pv.length oc) W5 := by
                      rw [← HKL.out]
                      exact HROW.out.same (by omega) fun j _ hj => (hother j (by omega)).trans ((S9.block j (by omega)).trans (HB3.out.block j hj))
                    have hu5 : W5.ownsRow w2.heap.size 5 1 (.slice va' pl vc') part.length (part.map byteV) := by
                      exact own_base7 (own_same7 hown.2 fun j h1 _ _ => hother j (by omega)) (by omega)
                    have hne5 : ∀ j, (Value.slice va' pl vc').ownBlock = some j → (Value.slice oa pv.length oc).ownBlock ≠ some j ∧ ∀ x ∈ pv, x.2.ownBlock ≠ some j := fun j hj => by
                      have h5 := (hown.2.lt j hj).1
                      exact ⟨fun e => by have := (hrlt j (by rw [HKL.out]; exact e)).2; omega, fun x hx e => by have := ((HROW.out.own x hx).1.lt j e).2; omega⟩
                    obtain ⟨v6, w6, hrun, hrow6, ho6, -, a6, c6, rfl⟩ := hr5.push (p := ⟨i, t, (sm : Int), (n : Int), (tt : Int), part⟩) hu5 hne5 (by omega) (by rw [← HKL.out]; have := HTK.out; omega) 26
                    rw [hz5, ← HKL.out, hW5] at hrun
                    have HO6 : Hid (RcAt w2 i t b sz (k + 1) (.slice a6 (k + 1) c6) w6) := Lib.hid (by
                      refine ⟨?_, pv ++ [(⟨i, t, (sm : Int), (n : Int), (tt : Int), part⟩, .slice va' pl vc')], by rw [HKL.out]; exact hrow6, ?_⟩
                      · refine below_only (HBW.out.trans (((HB3.out.trans (S9.mono hzc)).trans ?_).mono hbz2)) ho6 fun j hj => ?_
                        · rw [hW5]; exact (Below.refl _ _).setCell (by show wr.heap.size ≤ gp; omega) _
                        · rw [← HKL.out] at hj
                          exact (hrlt j hj).1
                      · rw [List.map_append, HMAP.out, pre_succ]
                        simp only [List.map_cons, List.map_nil]
                        have h9 := HTK.out
                        have h10 : part = (b.drop (k * sz)).take sz := by
                          rw [HPT.out, h9.1]
                          have hl : (b.drop (k * sz)).length = n - k * sz := by rw [List.length_drop, ← HN.out]
                          rw [h9.2.2.1, h9.1]
                          by_cases h11 : sz ≤ n - k * sz
                          · rw [Nat.min_eq_left h11]
                          · rw [Nat.min_eq_right (by omega), List.take_of_length_le (by omega), List.take_of_length_le (by omega)]
                        unfold cutPc
                        rw [h10, HSM.out, HN.out, h9.1])
                    have hW6 := w6.heap.size
                    refine ⟨S10.setCell (by show wr.heap.size ≤ gp; omega) _, ?_⟩
                    refine wpAnyH_done (by as_aux_lemma => kernel_rfl) ?_ _
                    clear hW5 hother hz5 hgpw hzc hz9 hbz hbz2 hrlt hr5 hu5 hne5 hrow6 ho6 S9 S10 hx4 hgc
                    go_wp2_with (at_builtin; refine wpList_append_run7 _ rfl (.tmp 53) (.tmp 55) 26 rfl _ _ _ _ rfl rfl hrun ?_)
                    go_roundg (gk - 1)
                    case measure => have := HTK.out; omega
                    case rel => exact ⟨k + 1, tt + pl, by have := HTK.out; omega, by have := HTK.out; omega, by push_cast; rfl, ⟨a6, c6, rfl⟩, HO6⟩
                  | some x =>
                    obtain ⟨sa, hsa⟩ : ∃ sa, sa = (if cap = tt then some x else some (x.add tt)) := ⟨_, rfl⟩
                    have HSA := Lib.hid (HP0.out sa (cap - tt) (by have := hcap.1; omega) fun h => by rw [hsa] at h; split at h <;> cases h)
                    clear hcap
                    go_upto_region 10 with fail
                    refine wp_region_held (S := fun w' => Below wr.heap.size wr w') (by kernel_rfl) ?_
                    have hS : Below wr.heap.size wr wc.drew := HB3.out.drew
                    refine H_take (i := 0) (v := ?_) rfl (by as_aux_lemma => kernel_rfl) (by as_aux_lemma => kernel_rfl) (by as_aux_lemma => kernel_rfl) (fun _ _ _ h => h) (by rfl) hS ?_ ?_
                    rotate_left
                    · intro w' hw'; go_simp; with_reducible rfl
                    go_simp
                    refine H_take (i := 2) (v := ?_) rfl (by as_aux_lemma => kernel_rfl) (by as_aux_lemma => kernel_rfl) (by as_aux_lemma => kernel_rfl) (fun _ _ _ h => h) (by rfl) hS ?_ ?_
                    rotate_left
                    · intro w' hw'; go_simp; with_reducible rfl
                    go_simp
                    refine H_take (i := 3) (v := ?_) rfl (by as_aux_lemma => kernel_rfl) (by as_aux_lemma => kernel_rfl) (by as_aux_lemma => kernel_rfl) (fun _ _ _ h => h) (by rfl) hS ?_ ?_
                    rotate_left
                    · intro w' hw'; go_simp; with_reducible rfl
                    go_simp
                    refine H_take (i := 4) (v := ?_) rfl (by as_aux_lemma => kernel_rfl) (by as_aux_lemma => kernel_rfl) (by as_aux_lemma => kernel_rfl) (fun _ _ _ h => h) (by rfl) hS ?_ ?_
                    rotate_left
                    · intro w' hw'; go_simp; with_reducible rfl
                    go_simp
                    refine H_take (i := 5) (v := ?_) rfl (by as_aux_lemma => kernel_rfl) (by as_aux_lemma => kernel_rfl) (by as_aux_lemma => kernel_rfl) (fun _ _ _ h => h) (by rfl) hS ?_ ?_
                    rotate_left
                    · intro w' hw'; go_simp; with_reducible rfl
                    go_simp
                    refine H_take (i := 6) (v := ?_) rfl (by as_aux_lemma => kernel_rfl) (by as_aux_lemma => kernel_rfl) (by as_aux_lemma => kernel_rfl) (fun _ _ _ h => h) (by rfl) hS ?_ ?_
                    rotate_left
                    · intro w' hw'; go_simp; with_reducible rfl
                    go_simp
                    refine H_take (i := 7) (v := ?_) rfl (by as_aux_lemma => kernel_rfl) (by as_aux_lemma => kernel_rfl) (by as_aux_lemma => kernel_rfl) (fun _ _ _ h => h) (by rfl) hS ?_ ?_
                    rotate_left
                    · intro w' hw'; go_simp; with_reducible rfl
                    go_simp
                    rw [← hsa]
                    clear hsa
                    refine H_one (i := 1) (by as_aux_lemma => kernel_rfl) rfl (by rfl) ?_
                    go_simp
                    refine H_one (i := 8) (by as_aux_lemma => kernel_rfl) rfl (by rfl) ?_
                    refine wp_own_append (w := wc) (L := []) (L2 := part) _ _ rfl rfl rfl (Own.bare (Below.refl _ wc).drew) rfl (F := F) ?_ (by rw [HLEN.out]; simp; omega) ?_
                    · exact HSA.out.same (fun _ h => h) fun _ _ => rfl
                    intro v' w' hown
                    rw [List.nil_append] at hown
                    have S9 : Below wc.heap.size wc w' := hown.1
                    have S10 : Below wr.heap.size wr w' := HB3.out.trans (S9.mono HB3.out.size)
                    obtain ⟨va', vc', rfl⟩ := hown.slice
                    rw [HLEN.out] at hown ⊢
                    have hx4 := (hown.1.block _ (lt_of_heap HX3.out)).trans HX3.out
                    obtain ⟨x0, x1, x2, x3, x4, x5, xz⟩ := six_cells hx4
                    have xf5 := frozen_of_row _ _ 5 _ _ hx4
                    refine ⟨S10, ?_⟩
                    go_simp
                    refine H_take (i := 9) (v := ?_) rfl (by as_aux_lemma => kernel_rfl) (by as_aux_lemma => kernel_rfl) (by as_aux_lemma => kernel_rfl) (fun _ _ _ h => h) (by rfl) S10 ?_ ?_
                    rotate_left
                    · intro w' hw'; go_simp; with_reducible rfl
                    go_simp
                    refine H_one (i := 10) (by as_aux_lemma => kernel_rfl) rfl (by rfl) ?_
                    go_simp
                    obtain ⟨W5, hW5⟩ : ∃ W5, W5 = w'.setCell ⟨gp, 5, none⟩ (.slice va' pl vc') := ⟨_, rfl⟩
                    have hgc : gp < wc.heap.size := lt_of_heap HX3.out
                    have hother : ∀ j, j ≠ gp → W5.heap[j]? = w'.heap[j]? := fun j hj => by rw [hW5]; exact Below.heap_setCell _ _ _ _ hj
                    have hz5 : W5.heap.size = w'.heap.size := by rw [hW5]; simp
                    have hgpw := HGP.out
                    have hzc := HB3.out.size
                    have hz9 := S9.size
                    have hbz := HBB.out.size
                    have hbz2 := HBW.out.size
                    have hrlt := HROW.out.row.lt
                    have hr5 : PcRow w2.heap.size pv (.slice oa pv.length oc) W5 := by
                      rw [← HKL.out]
                      exact HROW.out.same (by omega) fun j _ hj => (hother j (by omega)).trans ((S9.block j (by omega)).trans (HB3.out.block j hj))
                    have hu5 : W5.ownsRow w2.heap.size 5 1 (.slice va' pl vc') part.length (part.map byteV) := by
                      exact own_base7 (own_same7 hown.2 fun j h1 _ _ => hother j (by omega)) (by omega)
                    have hne5 : ∀ j, (Value.slice va' pl vc').ownBlock = some j → (Value.slice oa pv.length oc).ownBlock ≠ some j ∧ ∀ x ∈ pv, x.2.ownBlock ≠ some j := fun j hj => by
                      have h5 := (hown.2.lt j hj).1
                      exact ⟨fun e => by have := (hrlt j (by rw [HKL.out]; exact e)).2; omega, fun x hx e => by have := ((HROW.out.own x hx).1.lt j e).2; omega⟩
                    obtain ⟨v6, w6, hrun, hrow6, ho6, -, a6, c6, rfl⟩ := hr5.push (p := ⟨i, t, (sm : Int), (n : Int), (tt : Int), part⟩) hu5 hne5 (by omega) (by rw [← HKL.out]; have := HTK.out; omega) 26
                    rw [hz5, ← HKL.out, hW5] at hrun
                    have HO6 : Hid (RcAt w2 i t b sz (k + 1) (.slice a6 (k + 1) c6) w6) := Lib.hid (by
                      refine ⟨?_, pv ++ [(⟨i, t, (sm : Int), (n : Int), (tt : Int), part⟩, .slice va' pl vc')], by rw [HKL.out]; exact hrow6, ?_⟩
                      · refine below_only (HBW.out.trans (((HB3.out.trans (S9.mono hzc)).trans ?_).mono hbz2)) ho6 fun j hj => ?_
                        · rw [hW5]; exact (Below.refl _ _).setCell (by show wr.heap.size ≤ gp; omega) _
                        · rw [← HKL.out] at hj
                          exact (hrlt j hj).1
                      · rw [List.map_append, HMAP.out, pre_succ]
                        simp only [List.map_cons, List.map_nil]
                        have h9 := HTK.out
                        have h10 : part = (b.drop (k * sz)).take sz := by
                          rw [HPT.out, h9.1]
                          have hl : (b.drop (k * sz)).length = n - k * sz := by rw [List.length_drop, ← HN.out]
                          rw [h9.2.2.1, h9.1]
                          by_cases h11 : sz ≤ n - k * sz
                          · rw [Nat.min_eq_left h11]
                          · rw [Nat.min_eq_right (by omega), List.take_of_length_le (by omega), List.take_of_length_le (by omega)]
                        unfold cutPc
                        rw [h10, HSM.out, HN.out, h9.1])
                    have hW6 := w6.heap.size
                    refine ⟨S10.setCell (by show wr.heap.size ≤ gp; omega) _, ?_⟩
                    refine wpAnyH_done (by as_aux_lemma => kernel_rfl) ?_ _
                    clear hW5 hother hz5 hgpw hzc hz9 hbz hbz2 hrlt hr5 hu5 hne5 hrow6 ho6 S9 S10 hx4 hgc
                    go_wp2_with (at_builtin; refine wpList_append_run7 _ rfl (.tmp 53) (.tmp 55) 26 rfl _ _ _ _ rfl rfl hrun ?_)
                    go_roundg (gk - 1)
                    case measure => have := HTK.out; omega
                    case rel => exact ⟨k + 1, tt + pl, by have := HTK.out; omega, by have := HTK.out; omega, by push_cast; rfl, ⟨a6, c6, rfl⟩, HO6⟩
                · obtain ⟨g, off, rfl, hFb, hcc, hcm, hcl⟩ := HV3.out.elem7 (i := 0) (by rw [← HN.out]; omega)
                  have HCL := Lib.hid hcl
                  have HFB := Lib.hid hFb
                  have HCC := Lib.hid hcc
                  have HCM := Lib.hid hcm
                  have hcn : n ≤ cap := by rw [HN.out]; exact hcc
                  have h1 : (tt : Int) + (pl : Int) ≤ (cap : Int) := by omega
                  have h2 : (pl : Int) ≤ 1099511627776 := by omega
                  have h3 : (tt : Int) ≤ (tt : Int) + (pl : Int) := by omega
                  have hw2 : IntKind.i64.wrap ((tt : Int) + (pl : Int)) = (tt : Int) + (pl : Int) := IntWalk.i64_in _ (by omega)
                  have h4 : ((tt : Int) + (pl : Int)).toNat = tt + pl := by omega
                  have h5 : 0 ≤ (tt : Int) + (pl : Int) := by omega
                  have h6 : tt ≤ tt + pl := by omega
                  have h7 : tt + pl - tt = pl := by omega
                  have hmn : tt + pl ≤ b.length := by rw [← HN.out]; exact hpln
                  clear hcl hFb hcc hcm hcn
                  go_upto_region 10 with fail
                  refine wp_region_held (S := fun w' => Below wr.heap.size wr w') (by kernel_rfl) ?_
                  have hS : Below wr.heap.size wr wc.drew := HB3.out.drew
                  obtain ⟨sa, hsa⟩ : ∃ sa, sa = (if cap = tt then some (⟨g, off, none⟩ : Addr) else some ⟨g, off + tt, none⟩) := ⟨_, rfl⟩
                  have HSA : Hid (RepB wc F part (.slice sa pl (cap - tt))) := Lib.hid (by rw [hsa, HPT.out]; exact RepB.mid7 HFB.out HCL.out HCC.out HCM.out hmn)
                  have p5 := HP5.out wc (Below.refl _ _)
                  have pz := lt_of_heap HX3.out
                  refine H_take (i := 0) (v := ?_) rfl (by as_aux_lemma => kernel_rfl) (by as_aux_lemma => kernel_rfl) (by as_aux_lemma => kernel_rfl) (fun _ _ _ h => h) (by rfl) hS ?_ ?_
                  rotate_left
                  · intro w' hw'; go_simp; with_reducible rfl
                  go_simp
                  refine H_take (i := 2) (v := ?_) rfl (by as_aux_lemma => kernel_rfl) (by as_aux_lemma => kernel_rfl) (by as_aux_lemma => kernel_rfl) (fun _ _ _ h => h) (by rfl) hS ?_ ?_
                  rotate_left
                  · intro w' hw'; go_simp; with_reducible rfl
                  go_simp
                  refine H_take (i := 3) (v := ?_) rfl (by as_aux_lemma => kernel_rfl) (by as_aux_lemma => kernel_rfl) (by as_aux_lemma => kernel_rfl) (fun _ _ _ h => h) (by rfl) hS ?_ ?_
                  rotate_left
                  · intro w' hw'; go_simp; with_reducible rfl
                  go_simp
                  refine H_take (i := 4) (v := ?_) rfl (by as_aux_lemma => kernel_rfl) (by as_aux_lemma => kernel_rfl) (by as_aux_lemma => kernel_rfl) (fun _ _ _ h => h) (by rfl) hS ?_ ?_
                  rotate_left
                  · intro w' hw'; go_simp; with_reducible rfl
                  go_simp
                  refine H_take (i := 5) (v := ?_) rfl (by as_aux_lemma => kernel_rfl) (by as_aux_lemma => kernel_rfl) (by as_aux_lemma => kernel_rfl) (fun _ _ _ h => h) (by rfl) hS ?_ ?_
                  rotate_left
                  · intro w' hw'; go_simp; with_reducible rfl
                  go_simp
                  refine H_take (i := 6) (v := ?_) rfl (by as_aux_lemma => kernel_rfl) (by as_aux_lemma => kernel_rfl) (by as_aux_lemma => kernel_rfl) (fun _ _ _ h => h) (by rfl) hS ?_ ?_
                  rotate_left
                  · intro w' hw'; go_simp; with_reducible rfl
                  go_simp
                  refine H_take (i := 7) (v := ?_) rfl (by as_aux_lemma => kernel_rfl) (by as_aux_lemma => kernel_rfl) (by as_aux_lemma => kernel_rfl) (fun _ _ _ h => h) (by rfl) hS ?_ ?_
                  rotate_left
                  · intro w' hw'; go_simp; with_reducible rfl
                  go_simp
                  rw [← hsa]
                  clear hsa
                  refine H_one (i := 1) (by as_aux_lemma => kernel_rfl) rfl (by rfl) ?_
                  go_simp
                  refine H_one (i := 8) (by as_aux_lemma => kernel_rfl) rfl (by rfl) ?_
                  refine wp_own_append (w := wc) (L := []) (L2 := part) _ _ rfl rfl rfl (Own.bare (Below.refl _ wc).drew) rfl (F := F) ?_ (by rw [HLEN.out]; simp; omega) ?_
                  · exact HSA.out.same (fun _ h => h) fun _ _ => rfl
                  intro v' w' hown
                  rw [List.nil_append] at hown
                  have S9 : Below wc.heap.size wc w' := hown.1
                  have S10 : Below wr.heap.size wr w' := HB3.out.trans (S9.mono HB3.out.size)
                  obtain ⟨va', vc', rfl⟩ := hown.slice
                  rw [HLEN.out] at hown ⊢
                  have hx4 := (hown.1.block _ (lt_of_heap HX3.out)).trans HX3.out
                  obtain ⟨x0, x1, x2, x3, x4, x5, xz⟩ := six_cells hx4
                  have xf5 := frozen_of_row _ _ 5 _ _ hx4
                  refine ⟨S10, ?_⟩
                  go_simp
                  refine H_take (i := 9) (v := ?_) rfl (by as_aux_lemma => kernel_rfl) (by as_aux_lemma => kernel_rfl) (by as_aux_lemma => kernel_rfl) (fun _ _ _ h => h) (by rfl) S10 ?_ ?_
                  rotate_left
                  · intro w' hw'; go_simp; with_reducible rfl
                  go_simp
                  refine H_one (i := 10) (by as_aux_lemma => kernel_rfl) rfl (by rfl) ?_
                  go_simp
                  obtain ⟨W5, hW5⟩ : ∃ W5, W5 = w'.setCell ⟨gp, 5, none⟩ (.slice va' pl vc') := ⟨_, rfl⟩
                  have hgc : gp < wc.heap.size := lt_of_heap HX3.out
                  have hother : ∀ j, j ≠ gp → W5.heap[j]? = w'.heap[j]? := fun j hj => by rw [hW5]; exact Below.heap_setCell _ _ _ _ hj
                  have hz5 : W5.heap.size = w'.heap.size := by rw [hW5]; simp
                  have hgpw := HGP.out
                  have hzc := HB3.out.size
                  have hz9 := S9.size
                  have hbz := HBB.out.size
                  have hbz2 := HBW.out.size
                  have hrlt := HROW.out.row.lt
                  have hr5 : PcRow w2.heap.size pv (.slice oa pv.length oc) W5 := by
                    rw [← HKL.out]
                    exact HROW.out.same (by omega) fun j _ hj => (hother j (by omega)).trans ((S9.block j (by omega)).trans (HB3.out.block j hj))
                  have hu5 : W5.ownsRow w2.heap.size 5 1 (.slice va' pl vc') part.length (part.map byteV) := by
                    exact own_base7 (own_same7 hown.2 fun j h1 _ _ => hother j (by omega)) (by omega)
                  have hne5 : ∀ j, (Value.slice va' pl vc').ownBlock = some j → (Value.slice oa pv.length oc).ownBlock ≠ some j ∧ ∀ x ∈ pv, x.2.ownBlock ≠ some j := fun j hj => by
                    have h5 := (hown.2.lt j hj).1
                    exact ⟨fun e => by have := (hrlt j (by rw [HKL.out]; exact e)).2; omega, fun x hx e => by have := ((HROW.out.own x hx).1.lt j e).2; omega⟩
                  obtain ⟨v6, w6, hrun, hrow6, ho6, -, a6, c6, rfl⟩ := hr5.push (p := ⟨i, t, (sm : Int), (n : Int), (tt : Int), part⟩) hu5 hne5 (by omega) (by rw [← HKL.out]; have := HTK.out; omega) 26
                  rw [hz5, ← HKL.out, hW5] at hrun
                  have HO6 : Hid (RcAt w2 i t b sz (k + 1) (.slice a6 (k + 1) c6) w6) := Lib.hid (by
                    refine ⟨?_, pv ++ [(⟨i, t, (sm : Int), (n : Int), (tt : Int), part⟩, .slice va' pl vc')], by rw [HKL.out]; exact hrow6, ?_⟩
                    · refine below_only (HBW.out.trans (((HB3.out.trans (S9.mono hzc)).trans ?_).mono hbz2)) ho6 fun j hj => ?_
                      · rw [hW5]; exact (Below.refl _ _).setCell (by show wr.heap.size ≤ gp; omega) _
                      · rw [← HKL.out] at hj
                        exact (hrlt j hj).1
                    · rw [List.map_append, HMAP.out, pre_succ]
                      simp only [List.map_cons, List.map_nil]
                      have h9 := HTK.out
                      have h10 : part = (b.drop (k * sz)).take sz := by
                        rw [HPT.out, h9.1]
                        have hl : (b.drop (k * sz)).length = n - k * sz := by rw [List.length_drop, ← HN.out]
                        rw [h9.2.2.1, h9.1]
                        by_cases h11 : sz ≤ n - k * sz
                        · rw [Nat.min_eq_left h11]
                        · rw [Nat.min_eq_right (by omega), List.take_of_length_le (by omega), List.take_of_length_le (by omega)]
                      unfold cutPc
                      rw [h10, HSM.out, HN.out, h9.1])
                  have hW6 := w6.heap.size
                  refine ⟨S10.setCell (by show wr.heap.size ≤ gp; omega) _, ?_⟩
                  refine wpAnyH_done (by as_aux_lemma => kernel_rfl) ?_ _
                  clear hW5 hother hz5 hgpw hzc hz9 hbz hbz2 hrlt hr5 hu5 hne5 hrow6 ho6 S9 S10 hx4 hgc
                  go_wp2_with (at_builtin; refine wpList_append_run7 _ rfl (.tmp 53) (.tmp 55) 26 rfl _ _ _ _ rfl rfl hrun ?_)
                  go_roundg (gk - 1)
                  case measure => have := HTK.out; omega
                  case rel => exact ⟨k + 1, tt + pl, by have := HTK.out; omega, by have := HTK.out; omega, by push_cast; rfl, ⟨a6, c6, rfl⟩, HO6⟩
        · have hke : k = N := by omega
          have q2 : ((k : Int) == 0) = false := by simp; omega
          have q3 : ¬ tt < n := by
            have h1 := ref_more hsz0 (show 0 < k by omega) (by rw [← HNN.out]; omega)
            rw [← HNN.out] at h1
            omega
          have HKE := Lib.hid hke
          clear hke htt hgk hlt
          go_wp2_with fail
          go_ret2
          obtain ⟨hbw, pv, hrow, hmap⟩ := hat.out
          refine ⟨HB2'.out.trans (hbw.mono HB2'.out.size), ?_⟩
          rw [if_pos ⟨HOM.out.symm, by have := HSZ.out; omega⟩]
          refine ⟨pv, _, rfl, hrow.base HB2'.out.size, ?_⟩
          rw [hmap, pre_all, HKE.out, HNN.out, HN.out, ← HSZ.out]
          rfl
end Go.Proofs.YtdngfbljcmbniaaDoor.M

/- Part: ChR5. -/
namespace Go.Proofs.YtdngfbljcmbniaaDoor.M
open Go.RowKit Go.Maps

/-- What a piece's numbers are, that a heap has. -/
def Fine7 (p : Pc) : Prop := 0 ≤ p.pos ∧ p.pos ≤ 1000000 ∧ p.b.length ≤ 1000000 ∧ 0 ≤ p.tot ∧ p.tot ≤ 100000

set_option maxRecDepth 20000 in
set_option maxHeartbeats 1600000 in
theorem RefByte_any (Y : Nat → Prop) (z gr : Nat) (most : Int) (L : List Pc) (q : Nat) (w : World) (h : RH Y z gr most L w) (hq : q ≤ 1000000) (hL : L.length ≤ 1000000) (hp : ∀ p ∈ L, Fine7 p) :
    Calls Tryd.prog 25 #[.pointer (some ⟨gr, 0, none⟩), .int .i64 (q : Int)] w fun e w' => e = .returned (.tuple #[.int .u8 (((byteL L q).getD 0).toNat : Int), .bool (byteL L q).isSome]) ∧ w' = w := by
  obtain ⟨a, c, ⟨c0, c1, cz⟩, hel⟩ := h.cells
  obtain ⟨n, hn⟩ : ∃ n, n = L.length := ⟨_, rfl⟩
  obtain ⟨y, hy⟩ : ∃ y, y = byteL L q := ⟨_, rfl⟩
  rw [← hy]
  rw [← hn] at c1 hL
  have HEL := Lib.hid hel
  have HN := Lib.hid hn
  have HY := Lib.hid hy
  have HP := Lib.hid hp
  clear h hel hn hy hp c0
  go_enter Tryd.func25, Tryd.ntmps25
  go_wp2_with fail
  go_loopg [6, 7] n (fun gk i _ wr => ∃ k : Nat, k + gk = n ∧ i = .int .i64 (k : Int) ∧ Hid (wr = w) ∧ Hid (y = byteL (L.drop k) q))
  case atStart => exact ⟨0, by omega, rfl, Lib.hid rfl, Lib.hid (by rw [HY.out, List.drop_zero])⟩
  case round =>
    obtain ⟨k, hk, rfl, HW, HK⟩ := hrel
    have hw := HW.out
    clear HW
    subst hw
    by_cases hlt : k < n
    · have hkk : (k : Int) < (n : Int) := by omega
      have hl : k < L.length := by rw [← HN.out]; exact hlt
      obtain ⟨g, ua, uc, rfl, hlc, hgz, ⟨-, -, -, -, e4, e5⟩, hu⟩ := HEL.out k hl
      have hf := HP.out _ (List.getElem_mem hl)
      have hbd := byteL_drop L k hl q
      rw [← HK.out] at hbd
      obtain ⟨p, hpp⟩ : ∃ p, p = L[k] := ⟨_, rfl⟩
      rw [← hpp] at e4 e5 hu hf hbd
      obtain ⟨ps, hps⟩ : ∃ ps : Nat, p.pos = (ps : Int) := ⟨p.pos.toNat, by have := hf.1; omega⟩
      obtain ⟨bl, hbl⟩ : ∃ bl, bl = p.b.length := ⟨_, rfl⟩
      have hps2 : ps ≤ 1000000 := by have := hf.2.1; omega
      have hbl2 : bl ≤ 1000000 := by rw [hbl]; exact hf.2.2.1
      rw [hps] at e4 hbd
      rw [← hbl] at e5 hbd
      simp only [Int.toNat_natCast] at hbd
      have HU := Lib.hid hu
      have HBL := Lib.hid hbl
      have HBD := Lib.hid hbd
      rw [← hbl] at HU
      clear hpp hf hps hbl hu hbd hl hlc
      by_cases hge : ps ≤ q
      · obtain ⟨j, rfl⟩ : ∃ j, q = ps + j := ⟨q - ps, by omega⟩
        have e0 : ((ps + j : Nat) : Int) - (ps : Int) = (j : Int) := by omega
        by_cases hj : j < bl
        · have hjj : (j : Int) < (bl : Int) := by omega
          obtain ⟨bb, off, rfl, -, -, -, hcl⟩ := HU.out.elem7 (i := j) (by rw [← HBL.out]; exact hj)
          have hcj := hcl j (by rw [← HBL.out]; exact hj)
          obtain ⟨x, hx⟩ : ∃ x, x = p.b[j]'(by rw [← HBL.out]; exact hj) := ⟨_, rfl⟩
          rw [← hx] at hcj
          have HR : Hid (y = some x) := Lib.hid (by
            have h1 := HBD.out
            rw [if_pos (by omega), show ps + j - ps = j by omega, List.getElem?_eq_getElem (by rw [← HBL.out]; exact hj)] at h1
            rw [h1, hx])
          have hbz := (lt_of_cell hcj).1
          clear hcl hx
          go_wp2_with fail
          go_ret2
          exact ⟨by rw [HR.out]; rfl, rfl⟩
        · have hjj : decide ((j : Int) < (bl : Int)) = false := decide_eq_false (by omega)
          have HR : Hid (y = byteL (L.drop (k + 1)) (ps + j)) := Lib.hid (by
            have h1 := HBD.out
            rw [if_neg (by omega)] at h1
            exact h1)
          go_wp2_with fail
          go_roundg (gk - 1)
          case measure => omega
          case rel => exact ⟨k + 1, by omega, by push_cast; rfl, Lib.hid rfl, HR⟩
      · have hge1 : ¬ (ps : Int) ≤ (q : Int) := by omega
        have hge2 : decide ((ps : Int) ≤ (q : Int)) = false := decide_eq_false hge1
        have HR : Hid (y = byteL (L.drop (k + 1)) q) := Lib.hid (by
          have h1 := HBD.out
          rw [if_neg (by omega)] at h1
          exact h1)
        go_wp2_with fail
        go_roundg (gk - 1)
        case measure => omega
        case rel => exact ⟨k + 1, by omega, by push_cast; rfl, Lib.hid rfl, HR⟩
    · obtain rfl : k = n := by omega
      have hkk : ¬ (k : Int) < (k : Int) := by omega
      have HE : Hid (y = none) := Lib.hid (by
        have := HK.out
        rw [HN.out, List.drop_length] at this
        exact this)
      go_wp2_with fail
      go_ret2
      exact ⟨by rw [HE.out]; rfl, rfl⟩

theorem fnone_step {f : Nat → Option UInt8} {n k : Nat} (hk : k < n) (h : ∀ i, i < k → (f i).isSome = true) (hn : (f k).isSome = false) : fnone f n 0 = k := fnone_is (by omega) h fun _ => hn

set_option maxRecDepth 20000 in
set_option maxHeartbeats 1600000 in
theorem RefMissing_any (Y : Nat → Prop) (z gr : Nat) (most : Int) (L : List Pc) (w : World) (h : RH Y z gr most L w) (hL : L.length ≤ 1000000) (hp : ∀ p ∈ L, Fine7 p) :
    Calls Tryd.prog 17 #[.pointer (some ⟨gr, 0, none⟩)] w fun e w' => e = .returned (.int .i64 (missing L : Int)) ∧ w' = w := by
  obtain ⟨a, c, ⟨c0, c1, cz⟩, hel⟩ := h.cells
  cases L with
  | nil =>
    simp only [List.length_nil] at c1
    clear h hel hp c0
    go_enter Tryd.func17, Tryd.ntmps17
    go_wp2_with fail
    go_ret
    exact ⟨rfl, rfl⟩
  | cons p L =>
    obtain ⟨g, ua, uc, rfl, hlc, hgz, ⟨-, -, -, e3, -, -⟩, -⟩ := hel 0 (by simp)
    simp only [List.getElem_cons_zero, Nat.zero_mul, Nat.zero_add] at e3
    obtain ⟨n, hn⟩ : ∃ n, n = (p :: L).length := ⟨_, rfl⟩
    rw [← hn] at c1 hL
    have hn0 : 0 < n := by rw [hn]; simp
    have hf := hp p (by simp)
    obtain ⟨T, hT⟩ : ∃ T : Nat, p.tot = (T : Int) := ⟨p.tot.toNat, by have := hf.2.2.2.1; omega⟩
    have hT2 : T ≤ 100000 := by have := hf.2.2.2.2; omega
    rw [hT] at e3
    have htn : totN (p :: L) = T := by show p.tot.toNat = T; omega
    obtain ⟨r, hr⟩ : ∃ r, r = missing (p :: L) := ⟨_, rfl⟩
    rw [← hr]
    have hr2 : r = fnone (byteL (p :: L)) T 0 := by rw [hr]; unfold missing; rw [htn]
    have HBY : Hid (∀ q : Nat, q ≤ 1000000 → Calls Tryd.prog 25 #[.pointer (some ⟨gr, 0, none⟩), .int .i64 (q : Int)] w fun e w' => e = .returned (.tuple #[.int .u8 (((byteL (p :: L) q).getD 0).toNat : Int), .bool (byteL (p :: L) q).isSome]) ∧ w' = w) := Lib.hid fun q hq => RefByte_any Y z gr most (p :: L) q w h hq (by rw [← hn]; exact hL) hp
    have HR := Lib.hid hr2
    have q0 : ((n : Int) == 0) = false := by simp; omega
    clear h hel hp c0 hn hf hT htn hr hr2 hlc
    generalize byteL (p :: L) = f at *
    go_enter Tryd.func17, Tryd.ntmps17
    go_wp2_with fail
    go_loopg [3, 4, 5] T (fun gk i _ _ wr => ∃ k : Nat, k + gk = T ∧ i = .int .i64 (k : Int) ∧ Hid (wr = w) ∧ Hid (∀ j, j < k → (f j).isSome = true))
    case atStart => exact ⟨0, by omega, rfl, Lib.hid rfl, Lib.hid fun j hj => by omega⟩
    case round =>
      obtain ⟨k, hk, rfl, HW, HK⟩ := hrel
      have hw := HW.out
      clear HW
      subst hw
      by_cases hlt : k < T
      · have hkk : (k : Int) < (T : Int) := by omega
        have HB := Lib.hid (HBY.out k (by omega))
        cases hs : (f k).isSome with
        | true =>
          rw [hs] at HB
          have HS := Lib.hid hs
          clear hs
          go_wp2_with (go_at_call 25; refine (HB.out).mono ?_; rintro e w2 ⟨rfl, rfl⟩)
          go_roundg (gk - 1)
          case measure => omega
          case rel => exact ⟨k + 1, by omega, by push_cast; rfl, Lib.hid rfl, Lib.hid fun j hj => by
            by_cases hjk : j = k
            · rw [hjk]; exact HS.out
            · exact HK.out j (by omega)⟩
        | false =>
          rw [hs] at HB
          have HE : Hid (r = k) := Lib.hid (by rw [HR.out]; exact fnone_step hlt HK.out hs)
          clear hs
          go_wp2_with (go_at_call 25; refine (HB.out).mono ?_; rintro e w2 ⟨rfl, rfl⟩)
          go_ret
          exact ⟨by rw [HE.out]; rfl, rfl⟩
      · obtain rfl : k = T := by omega
        have hkk : ¬ (k : Int) < (k : Int) := by omega
        have HE : Hid (r = k) := Lib.hid (by rw [HR.out]; exact fnone_is (Nat.le_refl _) HK.out fun h => by omega)
        go_wp2_with fail
        go_ret
        exact ⟨by rw [HE.out]; rfl, rfl⟩
end Go.Proofs.YtdngfbljcmbniaaDoor.M

/- Part: ChR6. -/
namespace Go.Proofs.YtdngfbljcmbniaaDoor.M
open Go.RowKit Go.Maps

theorem below_dr7 (n : Nat) (w : World) (q : Nat) : Below n w (w.drewN q) := ⟨rfl, rfl, rfl, Nat.le_refl _, fun _ _ => rfl⟩

theorem bytesOf_succ (f : Nat → Option UInt8) (n : Nat) : bytesOf f (n + 1) = bytesOf f n ++ [(f n).getD 0] := by simp [bytesOf, List.range_succ]

set_option maxRecDepth 20000 in
set_option maxHeartbeats 1600000 in
theorem RefWhole_any (Y : Nat → Prop) (z gr : Nat) (most : Int) (L : List Pc) (w : World) (h : RH Y z gr most L w) (hL : L.length ≤ 1000000) (hp : ∀ p ∈ L, Fine7 p) :
    Calls Tryd.prog 13 #[.pointer (some ⟨gr, 0, none⟩)] w (WhPost w L) := by
  obtain ⟨a, c, ⟨c0, c1, cz⟩, hel⟩ := h.cells
  cases L with
  | nil =>
    simp only [List.length_nil] at c1
    clear h hel hp c0
    go_enter Tryd.func13, Tryd.ntmps13
    go_wp2_with fail
    go_quiet (fail)
    go_wp2
    go_ret2
    exact ⟨none, 0, rfl, below_dr7 _ _ _, .inl ⟨rfl, Bare.nil⟩⟩
  | cons p L =>
    obtain ⟨g, ua, uc, rfl, hlc, hgz, ⟨-, -, -, e3, -, -⟩, -⟩ := hel 0 (by simp)
    simp only [List.getElem_cons_zero, Nat.zero_mul, Nat.zero_add] at e3
    obtain ⟨n, hn⟩ : ∃ n, n = (p :: L).length := ⟨_, rfl⟩
    rw [← hn] at c1 hL
    have hn0 : 0 < n := by rw [hn]; simp
    have hn1 : (0 : Int) < (n : Int) := by omega
    have hf := hp p (by simp)
    obtain ⟨T, hT⟩ : ∃ T : Nat, p.tot = (T : Int) := ⟨p.tot.toNat, by have := hf.2.2.2.1; omega⟩
    have hT2 : T ≤ 100000 := by have := hf.2.2.2.2; omega
    rw [hT] at e3
    have htn : totN (p :: L) = T := by show p.tot.toNat = T; omega
    obtain ⟨r, hr⟩ : ∃ r, r = missing (p :: L) := ⟨_, rfl⟩
    have hrT : r ≤ T := by rw [hr]; have := (missing_spec (p :: L)).1; omega
    have hwb : wholeB (p :: L) = decide (r = T) := by unfold wholeB; rw [← hr, htn]; rfl
    have HMI : Hid (∀ q, Calls Tryd.prog 17 #[.pointer (some ⟨gr, 0, none⟩)] (w.drewN q) fun e w' => e = .returned (.int .i64 (r : Int)) ∧ w' = w.drewN q) := Lib.hid fun q => by
      rw [hr]
      exact RefMissing_any Y z gr most (p :: L) (w.drewN q) (h.next (below_dr7 _ _ _)) (by rw [← hn]; exact hL) hp
    have HBY : Hid (∀ W, Below w.heap.size w W → ∀ q : Nat, q ≤ 1000000 → Calls Tryd.prog 25 #[.pointer (some ⟨gr, 0, none⟩), .int .i64 (q : Int)] W fun e w' => e = .returned (.tuple #[.int .u8 (((byteL (p :: L) q).getD 0).toNat : Int), .bool (byteL (p :: L) q).isSome]) ∧ w' = W) := Lib.hid fun W hb q hq => RefByte_any Y z gr most (p :: L) q W (h.next hb) hq (by rw [← hn]; exact hL) hp
    have HWB := Lib.hid hwb
    have HWL : Hid (r = T → wholeL (p :: L) = bytesOf (byteL (p :: L)) T) := Lib.hid fun e => by unfold wholeL; rw [hwb, decide_eq_true e, if_pos rfl, htn]
    have HWN : Hid (r ≠ T → wholeL (p :: L) = []) := Lib.hid fun e => by
      unfold wholeL
      rw [hwb, decide_eq_false e]
      rfl
    have q0 : ((n : Int) == 0) = false := by simp; omega
    have HC : Hid (∀ W, Below w.heap.size w W → W.cell? ⟨gr, 1, none⟩ = some (.slice (some ⟨g, 0, none⟩) n c) ∧ W.cell? ⟨g, 3, none⟩ = some (.int .i64 (T : Int)) ∧ gr < W.heap.size ∧ g < W.heap.size) := Lib.hid fun W hb => ⟨(hb.cell (p := ⟨gr, 1, none⟩) cz).trans c1, (hb.cell (p := ⟨g, 3, none⟩) hgz).trans e3, Nat.lt_of_lt_of_le cz hb.size, Nat.lt_of_lt_of_le hgz hb.size⟩
    clear h hel hp c0 hn hf hT htn hr hwb hlc
    generalize hff : byteL (p :: L) = f at *
    have HFF := Lib.hid hff
    clear hff
    by_cases hlt : r < T
    · have hll : (r : Int) < (T : Int) := by omega
      go_enter Tryd.func13, Tryd.ntmps13
      go_wp2_with fail
      go_quiet ((go_at_call 17; exact Calls.quiet_of_same (HMI.out _)))
      go_wp2
      go_ret2
      have e1 : wholeL (p :: L) = [] := HWN.out (by omega)
      exact ⟨none, 0, by rw [e1, HWB.out, decide_eq_false (by omega)]; rfl, below_dr7 _ _ _, by rw [e1]; exact .inl ⟨rfl, Bare.nil⟩⟩
    · obtain rfl : r = T := by omega
      have HWT : Hid (wholeB (p :: L) = true ∧ wholeL (p :: L) = bytesOf f r) := Lib.hid ⟨by rw [HWB.out]; exact decide_eq_true rfl, HWL.out rfl⟩
      clear HWL HWN HWB
      have hll : decide ((r : Int) < (r : Int)) = false := decide_eq_false (by omega)
      have hll2 : ¬ (r : Int) < (r : Int) := by omega
      go_enter Tryd.func13, Tryd.ntmps13
      go_wp2_with fail
      go_quiet ((go_at_call 17; exact Calls.quiet_of_same (HMI.out _)))
      go_wp2_with fail
      clear c1 e3 cz hgz
      go_loopw [4, 5, 6, 7] (fun ov i _ _ wr => ∃ k : Nat, k ≤ r ∧ i = .int .i64 (k : Int) ∧ (∃ oa oc, ov = .slice oa k oc) ∧ Hid (Own w (bytesOf f k) ov wr)) (fun _ i _ _ _ => r - (intOf i).toNat)
      case atStart => exact ⟨0, Nat.zero_le _, rfl, ⟨none, 0, rfl⟩, Lib.hid (Own.bare (below_dr7 _ _ _))⟩
      case round =>
        obtain ⟨k, hk, rfl, ⟨oa, oc, rfl⟩, HO⟩ := hrel
        obtain ⟨c1, e3, cz, hgz⟩ := HC.out wr HO.out.1
        by_cases hlt : k < r
        · have hkk : (k : Int) < (r : Int) := by omega
          have HB := Lib.hid (HBY.out wr HO.out.1 k (by omega))
          obtain ⟨x, hx⟩ : ∃ x, x = (f k).getD 0 := ⟨_, rfl⟩
          rw [← hx] at HB
          have HX := Lib.hid hx
          clear hx
          go_wp2_with (first | (go_at_call 25; refine (HB.out).mono ?_; rintro e w2 ⟨rfl, rfl⟩) | (at_builtin; refine wpList_own_append (w := w) rfl (.tmp 43) (.tmp 45) rfl rfl (L := bytesOf f k) (L2 := [x]) rfl (HO.out.next (below_alloc _ _)) rfl (one_rep rfl) (by rw [bytesOf_length]; simp; omega) ?_))
          intro v' w' hown
          have hown2 : Own w (bytesOf f (k + 1)) v' w' := by rw [bytesOf_succ, ← HX.out]; exact hown
          have hsl := hown2.slice
          rw [bytesOf_length] at hsl
          obtain ⟨oa', oc', rfl⟩ := hsl
          have HO2 := Lib.hid hown2
          clear hown hown2
          go_wp2_with fail
          go_roundw
          case rel => exact ⟨k + 1, by omega, by simp, ⟨oa', oc', rfl⟩, HO2⟩
          case measure => simp only [intOf]; omega
        · obtain rfl : k = r := by omega
          have hkk : ¬ (k : Int) < (k : Int) := by omega
          go_wp2_with fail
          go_ret2
          refine ⟨oa, oc, by rw [HWT.out.2, HWT.out.1, bytesOf_length]; rfl, HO.out.1, ?_⟩
          rw [HWT.out.2, bytesOf_length]
          exact HO.out.rep
end Go.Proofs.YtdngfbljcmbniaaDoor.M

/- Part: ChR7. -/
namespace Go.Proofs.YtdngfbljcmbniaaDoor.M
open Go.RowKit Go.Maps

def staleB (L : List Pc) (p : Pc) : Bool := match L with
  | [] => false
  | f :: _ => decide (p.idx ≤ f.idx) && !alike p f

def keepL (L : List Pc) (p : Pc) : List Pc := match L with
  | [] => []
  | f :: _ => if p.idx > f.idx then [] else L

theorem take_all {most : Int} {L : List Pc} {p : Pc} (h : okPc most p = true) : takeE most L p = if staleB L p = true then (70, L) else if clashAt (byteL (keepL L p)) p.pos.toNat p.b = true then (71, keepL L p) else layE (keepL L p) p := by
  unfold takeE
  rw [if_neg (by rw [h]; decide)]
  rfl

theorem keepL_mem {L : List Pc} {p q : Pc} (h : q ∈ keepL L p) : q ∈ L := by
  cases L with
  | nil => exact h
  | cons f M =>
    unfold keepL at h
    simp only at h
    split at h
    · cases h
    · exact h

theorem keepL_length (L : List Pc) (p : Pc) : (keepL L p).length ≤ L.length := by
  cases L with
  | nil => exact Nat.le_refl _
  | cons f M =>
    unfold keepL
    simp only
    split <;> simp

/-- One more: where the row lies then. -/
theorem PcRow.push2 {base : Nat} {pv : List (Pc × Value)} {v : Value} {W : World} (h : PcRow base pv v W) {p : Pc} {a : Option Addr} {n c : Nat} (hu : W.ownsRow base 5 1 (.slice a n c) p.b.length (p.b.map byteV)) (hne : ∀ j, (Value.slice a n c).ownBlock = some j → v.ownBlock ≠ some j ∧ ∀ x ∈ pv, x.2.ownBlock ≠ some j)
    (hb : base ≤ W.heap.size) (hl : pv.length ≤ 1000000) (ty : TypeId) :
    ∃ v' w', (Builtin.append_ #[26, 26] ty #[v, .slice (some ⟨W.heap.size, 0, none⟩) 1 1]).run Tryd.prog (W.alloc (.cells #[.int .i64 p.idx, .int .i64 p.term, .int .u32 p.sum, .int .i64 p.tot, .int .i64 p.pos, .slice a n c] 35)) = .ok v' w' ∧
      PcRow base (pv ++ [(p, .slice a n c)]) v' w' ∧ Only (fun j => v.ownBlock = some j) W w' ∧ (∃ a' c', v' = .slice a' (pv.length + 1) c') ∧ ∀ j, v'.ownBlock = some j → v.ownBlock = some j ∨ W.heap.size ≤ j := by
  obtain ⟨v', w', hrun, h1, h2, h3, h4⟩ := h.push hu hne hb hl ty
  refine ⟨v', w', hrun, h1, h2, h4, ?_⟩
  obtain ⟨ib, hib, hib0, hib1, hib2⟩ := info_parts infoPiece
  obtain ⟨W1, hW1⟩ : ∃ W1, W1 = W.alloc (.cells #[.int .i64 p.idx, .int .i64 p.term, .int .u32 p.sum, .int .i64 p.tot, .int .i64 p.pos, .slice a n c] 35) := ⟨_, rfl⟩
  have hb1 : Below W.heap.size W W1 := by rw [hW1]; exact below_alloc _ _
  have hrow1 := (h.next hb1).row
  obtain ⟨v2, w2, hrun2, happ⟩ := run_append_any W1 base 26 ty 35 ib _ 6 64 Tryd.underlying26 hib hib0 hib1 hib2 rfl (by decide) v pv.length (pv.flatMap pvV) hrow1 (.slice (some ⟨W.heap.size, 0, none⟩) 1 1) 1 (pcV p (.slice a n c)) (by rw [hW1]; exact yields_six rfl) (by unfold maxLen; omega) (by omega) (by rw [hW1]; simp; omega)
  rw [← hW1, hrun2] at hrun
  cases hrun
  have hz1 : W1.heap.size = W.heap.size + 1 := by rw [hW1]; simp
  intro j hj
  rcases happ.2.2 with h5 | h5
  · exact .inl (by rw [← h5]; exact hj)
  · rw [h5] at hj
    have := Option.some.inj hj
    exact .inr (by omega)

/-- The heap's own blocks, and nothing else. -/
theorem RH.of {z gr : Nat} {most : Int} {pv : List (Pc × Value)} {v : Value} {w : World} (hg : w.heap[gr]? = some (.cells #[.int .i64 most, v] 42)) (hz : z ≤ gr) (hrow : PcRow z pv v w) (h1 : v.ownBlock ≠ some gr) (h2 : ∀ x ∈ pv, x.2.ownBlock ≠ some gr) :
    RH (fun j => j = gr ∨ v.ownBlock = some j ∨ ∃ x ∈ pv, x.2.ownBlock = some j) z gr most (pv.map (·.1)) w :=
  ⟨pv, v, hg, hrow, rfl, ⟨.inl rfl, h1, fun j hj => .inr (.inl hj), fun x hx j hj => ⟨.inr (.inr ⟨x, hx, hj⟩), fun e => h2 x hx (e ▸ hj)⟩⟩, fun j hj => by
    rcases hj with rfl | hj | ⟨x, hx, hj⟩
    · exact ⟨hz, lt_of_heap hg⟩
    · exact hrow.row.lt j hj
    · exact (hrow.own x hx).1.lt j hj⟩

/-- What Take leaves. -/
def RTPost (w : World) (Y : Nat → Prop) (z gr : Nat) (most : Int) (L : List Pc) (p : Pc) (e : Ending) (w' : World) : Prop :=
  e = .returned (.int .i64 (takeE most L p).1) ∧ Only Y w w' ∧ ∃ Y', RH Y' z gr most (takeE most L p).2 w' ∧ ∀ j, Y' j → Y j ∨ w.heap.size ≤ j

/-- .. where nothing is laid. -/
theorem RTPost.same {w w' : World} {Y : Nat → Prop} {z gr : Nat} {most : Int} {L M : List Pc} {p : Pc} {c : Int} (he : takeE most L p = (c, M)) (ho : Only Y w w') {Y' : Nat → Prop} (hr : RH Y' z gr most M w') (hY : ∀ j, Y' j → Y j ∨ w.heap.size ≤ j) : RTPost w Y z gr most L p (.returned (.int .i64 c)) w' := by
  unfold RTPost
  rw [he]
  exact ⟨rfl, ho, Y', hr, hY⟩

/-- The heap lets all go. -/
theorem RH.drop {Y : Nat → Prop} {z gr : Nat} {most : Int} {L : List Pc} {w : World} (h : RH Y z gr most L w) : RH (fun j => j = gr) z gr most [] (w.setCell ⟨gr, 1, none⟩ (.slice none 0 0)) ∧ Only Y w (w.setCell ⟨gr, 1, none⟩ (.slice none 0 0)) := by
  obtain ⟨pv, v, h1, -, -, ⟨h4, -⟩, h8⟩ := h
  refine ⟨RH.new (by simp [World.setCell, Array.getElem?_modify, h1]) (h8 gr h4).1, (Only.refl _ _).set (.inl h4) _⟩
end Go.Proofs.YtdngfbljcmbniaaDoor.M
