/- Package members: a value of numbers (valOf). Package members: a value of numbers (valOf), the call. Package members: a configuration's bytes (Bytes). -/
import Derived.Test.YtdngfbljcmbniaaTM25
import Derived.Test.YtdngfbljcmbniaaTM26
import Derived.Test.YtdngfbljcmbniaaTM16
/- Part: MmBb. -/
namespace Go.Proofs.Ytdngfbljcmbniaa.M
open Go.RowKit

/-- An int as a number. -/
def asNum (x : Int) : Nat := (IntKind.u64.wrap x).toNat

theorem asNum_eq (x : Int) : ((asNum x : Nat) : Int) = IntKind.u64.wrap x := by
  unfold asNum
  rw [IntKind.wrap_u64]
  omega

theorem asNum_lt (x : Int) : asNum x < 18446744073709551616 := by
  have := asNum_eq x
  rw [IntKind.wrap_u64] at this
  omega

def numV (x : Int) : V := .mk (asNum x) [] []

/-- A row of values, the first k of which hold their numbers. -/
def NRow (ids : List Int) (k g : Nat) (w : World) : Prop :=
  ∃ cs, w.heap[g]? = some (.cells cs 45 (0, 0)) ∧ cs.size = ids.length * 3 ∧ ∀ (j : Nat) (hj : j < ids.length),
    cs[j * 3]? = some (.int .u64 (if j < k then (asNum ids[j] : Int) else 0)) ∧ cs[j * 3 + 1]? = some (.slice none 0 0) ∧ cs[j * 3 + 2]? = some (.slice none 0 0)

theorem NRow.put {ids : List Int} {k g : Nat} {w : World} (h : NRow ids k g w) (hk : k < ids.length) : NRow ids (k + 1) g (w.setCell ⟨g, k * 3, none⟩ (.int .u64 (asNum ids[k] : Int))) := by
  obtain ⟨cs, h1, h2, h3⟩ := h
  obtain ⟨cur', e1, e2, e3⟩ := heap_setCells [.int .u64 (asNum ids[k] : Int)] (k * 3) w cs h1 (by simp; omega)
  have e4 : ∀ i : Nat, cur'[i]? = if k * 3 = i then some (.int .u64 (asNum ids[k] : Int)) else cs[i]? := fun i => by
    rw [← Array.getElem?_toList, e3, List.append_assoc]
    have := set_split (l := cs.toList) (o := k * 3) (v := .int .u64 (asNum ids[k] : Int)) (by simp; omega)
    simp only [List.singleton_append, List.length_singleton]
    rw [← this, List.getElem?_set]
    by_cases hi : k * 3 = i
    · rw [if_pos hi, if_pos hi, if_pos (by simp; omega)]
    · rw [if_neg hi, if_neg hi, Array.getElem?_toList]
  refine ⟨cur', e1, by rw [e2, h2], fun j hj => ?_⟩
  obtain ⟨a, b, c⟩ := h3 j hj
  rw [e4, e4, e4, if_neg (by omega : ¬ k * 3 = j * 3 + 1), if_neg (by omega : ¬ k * 3 = j * 3 + 2)]
  refine ⟨?_, b, c⟩
  by_cases hjk : k = j
  · subst hjk
    rw [if_pos rfl, if_pos (by omega)]
  · rw [if_neg (by omega), a]
    by_cases hlt : j < k
    · rw [if_pos hlt, if_pos (by omega)]
    · rw [if_neg hlt, if_neg (by omega)]

theorem make_vals (ids : List Int) (n : Nat) (h : n = ids.length) (hn : n ≤ 1099511627776) (W : World) :
    ∃ W2, (Instr.makeSlice 43 (.int .i64 (n : Int)) (.int .i64 (n : Int))).run Try.prog W = .ok (.slice (some ⟨W.heap.size, 0, none⟩) n n) W2 ∧ Below W.heap.size W W2 ∧ NRow ids 0 W.heap.size W2 := by
  obtain ⟨iv, hiv, hiv0, hiv1, hiv2⟩ := info_parts infoVal
  have hb' : (iv.bytes : Int) * (n : Int) ≤ 281474976710656 := by rw [hiv2]; omega
  have hr := run_make (P := Try.prog) W 43 45 iv _ Try.underlying43 hiv hiv0 .i64 .i64 n n (by omega) (Int.le_refl _) hb' (by omega)
  simp only [Int.toNat_natCast, hiv1] at hr
  refine ⟨_, hr, below_alloc _ _, _, heap_alloc_new _ _, by rw [size_madeCells, h], fun j hj => ?_⟩
  have hc : (Value.agg #[.int .u64 0, .slice none 0 0, .slice none 0 0]).cells = #[.int .u64 0, .slice none 0 0, .slice none 0 0] := rfl
  rw [hc]
  have hg : ∀ i, i < n * 3 → (madeCells #[Value.int .u64 0, .slice none 0 0, .slice none 0 0] (n * 3))[i]? = some (#[Value.int .u64 0, .slice none 0 0, .slice none 0 0][i % 3]!) := fun i hi => by
    unfold madeCells
    simp [hi]
  rw [hg _ (by omega), hg _ (by omega), hg _ (by omega), show j * 3 % 3 = 0 by omega, show (j * 3 + 1) % 3 = 1 by omega, show (j * 3 + 2) % 3 = 2 by omega]
  exact ⟨rfl, rfl, rfl⟩

theorem NRow.rep {ids : List Int} {g n : Nat} {w : World} (h : NRow ids ids.length g w) (hn : n = ids.length) (hl : n ≤ 1099511627776) : RepVl w (fun b => b = g) (ids.map numV) (.slice (some ⟨g, 0, none⟩) n n) := by
  obtain ⟨cs, h1, h2, h3⟩ := h
  subst hn
  refine .inr ⟨g, 0, ids.length, by simp, rfl, by simp, by omega, RepVs.of _ fun i hi => ?_⟩
  have hi2 : i < ids.length := by simpa using hi
  obtain ⟨a, b, c⟩ := h3 i hi2
  rw [if_pos hi2] at a
  refine ⟨_, ⟨_, _, _, rfl, (cell_of_row _ _ _ _ _ _ h1).trans (by rw [Nat.zero_add]; exact a), (cell_of_row _ _ _ _ _ _ h1).trans (by rw [Nat.zero_add]; exact b), (cell_of_row _ _ _ _ _ _ h1).trans (by rw [Nat.zero_add]; exact c)⟩, ?_⟩
  simp only [List.getElem_map]
  exact RepV_mk.2 ⟨_, _, rfl, asNum_lt _, .inl ⟨rfl, Bare.nil⟩, .inl ⟨rfl, Bare.nil⟩⟩
end Go.Proofs.Ytdngfbljcmbniaa.M

/- Part: MmBc. -/
namespace Go.Proofs.Ytdngfbljcmbniaa.M
open Go.RowKit

theorem heap_set3 {w : World} {g : Nat} {x y z x' y' z' : Value} {t : TypeId} (h : w.heap[g]? = some (.cells #[x, y, z] t)) :
    (((w.setCell ⟨g, 0, none⟩ x').setCell ⟨g, 1, none⟩ y').setCell ⟨g, 2, none⟩ z').heap[g]? = some (.cells #[x', y', z'] t) := by
  simp [World.setCell, Array.getElem?_modify, h]

set_option maxRecDepth 20000 in
set_option maxHeartbeats 1600000 in
theorem valOf_any (ids : List Int) (F : Nat → Prop) (v : Value) (w : World) (hv : RepI w F ids v) (hF : ∀ k, F k → k < w.heap.size) (hl : ids.length ≤ 1099511627776) :
    Calls Try.prog 21 #[v] w fun e w' => ∃ u, e = .returned u ∧ Below w.heap.size w w' ∧ RepV w' (fun k => w.heap.size ≤ k ∧ k < w'.heap.size) (.mk 0 [] (ids.map numV)) u := by
  obtain ⟨va, vk, hvv, -⟩ := hv.slice
  obtain ⟨n, hn⟩ : ∃ n, n = ids.length := ⟨_, rfl⟩
  rw [← hn] at hvv hl
  subst hvv
  obtain ⟨gv, hgv⟩ : ∃ gv, gv = w.heap.size := ⟨_, rfl⟩
  obtain ⟨W1, hW1⟩ : ∃ W1, W1 = w.alloc (.cells #[.int .u64 0, .slice none 0 0, .slice none 0 0] 45) := ⟨_, rfl⟩
  have HB1 : Hid (Below w.heap.size w W1) := Lib.hid (by rw [hW1]; exact below_alloc _ _)
  have HX1 : Hid (W1.heap[gv]? = some (.cells #[.int .u64 0, .slice none 0 0, .slice none 0 0] 45)) := Lib.hid (by rw [hW1, hgv]; exact heap_alloc_new _ _)
  obtain ⟨g, hg⟩ : ∃ g, g = W1.heap.size := ⟨_, rfl⟩
  obtain ⟨W2, hmk, hb2, hr2⟩ := make_vals ids n hn hl W1
  rw [← hg] at hmk hr2
  have HB2 : Hid (Below w.heap.size w W2 ∧ w.heap.size ≤ g ∧ gv < g ∧ gv = w.heap.size) := Lib.hid ⟨HB1.out.trans (hb2.mono HB1.out.size), by rw [hg]; exact HB1.out.size, by rw [hg]; exact lt_of_heap HX1.out, hgv⟩
  have HX2 : Hid (W2.heap[gv]? = some (.cells #[.int .u64 0, .slice none 0 0, .slice none 0 0] 45)) := Lib.hid (old_below HX1.out hb2)
  have HR2 := Lib.hid hr2
  have HV := Lib.hid hv
  have HF := Lib.hid hF
  have HN := Lib.hid hn
  have HW1 := Lib.hid hW1
  have HGV := Lib.hid hgv
  clear hv hF hn hW1 hgv hg hb2 hr2
  go_enter Try.func21, Try.ntmps21
  go_wp2_with fail
  rw [← HGV.out, ← HW1.out, hmk]
  go_wp2_with fail
  clear hmk
  go_loopg [11] n (fun gk i wr => ∃ k : Nat, k + gk = n ∧ i = .int .i64 (k : Int) ∧ Hid (Below w.heap.size w wr ∧ NRow ids k g wr ∧ wr.heap[gv]? = some (.cells #[.int .u64 0, .slice none 0 0, .slice none 0 0] 45)))
  case atStart => exact ⟨0, by omega, rfl, Lib.hid ⟨HB2.out.1, HR2.out, HX2.out⟩⟩
  case round =>
    obtain ⟨k, hk, rfl, HR⟩ := hrel
    by_cases hlt : k < n
    · have hkk : (k : Int) < (n : Int) := by omega
      have hl1 : k < ids.length := by rw [← HN.out]; exact hlt
      obtain ⟨ab, ao, hab, hfb, e0, -, -⟩ := HV.out.elem k hl1
      subst hab
      have e1 := (HR.out.1.cell (p := ⟨ab, ao + k, none⟩) (HF.out ab hfb)).trans e0
      have hbz : ab < wr.heap.size := Nat.lt_of_lt_of_le (HF.out ab hfb) HR.out.1.size
      obtain ⟨x, hx⟩ : ∃ x, x = ids[k] := ⟨_, rfl⟩
      have HPUT := Lib.hid (HR.out.2.1.put hl1)
      rw [← hx] at e1 HPUT
      rw [asNum_eq] at HPUT
      obtain ⟨cs, hcs, -, hc3⟩ := HR.out.2.1
      have hfc : wr.cell? ⟨g, k * 3, none⟩ = some (.int .u64 0) := by
        rw [cell_of_row _ _ _ _ _ _ hcs, (hc3 k hl1).1, if_neg (Nat.lt_irrefl k)]
      have hff := frozen_of_row _ g (k * 3) _ _ hcs
      have hgz : g < wr.heap.size := lt_of_heap hcs
      clear e0 hx hfb hcs hc3 hl1
      go_wp2_with fail
      go_roundg (gk - 1)
      case measure => omega
      case rel => exact ⟨k + 1, by omega, by go_num, Lib.hid ⟨HR.out.1.setCell HB2.out.2.1 _, HPUT.out, by rw [Below.heap_setCell _ _ _ _ (by show gv ≠ g; have := HB2.out.2.2.1; omega)]; exact HR.out.2.2⟩⟩
    · obtain rfl : k = n := by omega
      have hkk : ¬ ((k : Nat) : Int) < (k : Int) := by omega
      obtain ⟨c0, c1, c2, f0, f1, f2, cz⟩ := block3 HR.out.2.2
      go_wp2_with fail
      obtain ⟨W9, hW9⟩ : ∃ W9, W9 = (((wr.setCell ⟨gv, 0, none⟩ (.int .u64 0)).setCell ⟨gv, 1, none⟩ (.slice none 0 0)).setCell ⟨gv, 2, none⟩ (.slice (some ⟨g, 0, none⟩) k k)) := ⟨_, rfl⟩
      have hX9 : W9.heap[gv]? = some (.cells #[.int .u64 0, .slice none 0 0, .slice (some ⟨g, 0, none⟩) k k] 45) := by rw [hW9]; exact heap_set3 HR.out.2.2
      have hgvw : w.heap.size ≤ gv := Nat.le_of_eq HGV.out.symm
      have hB9 : Below w.heap.size w W9 := by rw [hW9]; exact ((HR.out.1.setCell hgvw _).setCell hgvw _).setCell hgvw _
      have hng : g ≠ gv := by have := HB2.out.2.2.1; omega
      have hR9 : NRow ids k g W9 := by
        obtain ⟨cs, h1, h2, h3⟩ := HR.out.2.1
        refine ⟨cs, ?_, h2, h3⟩
        rw [hW9, Below.heap_setCell _ _ _ _ hng, Below.heap_setCell _ _ _ _ hng, Below.heap_setCell _ _ _ _ hng]
        exact h1
      have hrep := ((HN.out ▸ hR9 : NRow ids ids.length g W9).rep HN.out hl).same (G := fun b => w.heap.size ≤ b ∧ b < W9.heap.size) (fun b hb => by subst hb; exact ⟨HB2.out.2.1, by obtain ⟨cs, h1, -, -⟩ := hR9; exact lt_of_heap h1⟩) fun _ _ => rfl
      have HREP := Lib.hid hrep
      have HB9 := Lib.hid hB9
      rw [← hW9]
      clear hW9 hB9 hrep hR9 c0 c1 c2 f0 f1 f2 cz HR
      obtain ⟨c0, c1, c2, -, -, -, cz⟩ := block3 hX9
      exact bodyPost_ret (v := .agg #[.int .u64 0, .slice none 0 0, .slice (some ⟨g, 0, none⟩) k k]) (by simp [results, Try.results21, go_sem, c0, c1, c2, cz]) rfl ⟨_, rfl, HB9.out, RepV_mk.2 ⟨_, _, rfl, by omega, .inl ⟨rfl, Bare.nil⟩, HREP.out⟩⟩
end Go.Proofs.Ytdngfbljcmbniaa.M

/- Part: MmBd. -/
namespace Go.Proofs.Ytdngfbljcmbniaa.M
open Go.RowKit

/-- A configuration as a value. -/
def confV (c : Cf) : V := .mk 0 [] [.mk 0 [] (c.v.map numV), .mk 0 [] (c.l.map numV)]

theorem vsizes_nums : ∀ l : List Int, vsizes (l.map numV) = 9 * l.length
  | [] => rfl
  | x :: l => by
    have := vsizes_nums l
    simp only [List.map_cons, vsizes, this, numV, vsize, List.length_nil, List.length_cons]
    omega

theorem vsize_conf (c : Cf) : vsizes [confV c] = 27 + 9 * (c.v.length + c.l.length) := by
  simp only [confV, vsizes, vsize, vsizes_nums, List.length_nil]
  omega

def shC : Sh := .row [.list .num, .list .num]

theorem shape_conf : shape [91, 42, 110, 42, 110, 93] = some shC := by kernel_rfl

theorem isV_nums : ∀ l : List Int, (l.map numV).all (isV .num) = true
  | [] => rfl
  | x :: l => by
    have := isV_nums l
    simp only [List.map_cons, List.all_cons, this, Bool.and_true]
    simp [numV, isV]

theorem isV_conf (c : Cf) : isV shC (confV c) = true := by
  have h1 := isV_nums c.v
  have h2 := isV_nums c.l
  unfold shC confV
  rw [isV]
  simp [V.l, isVs, isV]

/-- A configuration's bytes. -/
def confB (c : Cf) : List UInt8 := putV shC (confV c)

theorem put_conf (c : Cf) : putAll [91, 42, 110, 42, 110, 93] [confV c] = .ok (confB c) := by
  unfold putAll
  rw [shape_conf]
  simp [isV_conf, confB]

set_option maxRecDepth 20000 in
set_option maxHeartbeats 1600000 in
theorem mBytes_any (c : Cf) (F : Nat → Prop) (vv lv : Value) (w : World) (hv : RepI w F c.v vv) (hl : RepI w F c.l lv) (hF : ∀ k, F k → k < w.heap.size) (h1 : c.v.length ≤ 1000000) (h2 : c.l.length ≤ 1000000) :
    Calls Try.prog 9 #[.agg #[vv, lv]] w fun e w' => ∃ u base, e = .returned u ∧ Below w.heap.size w w' ∧ w.heap.size ≤ base ∧ w'.ownsRow base 5 1 u (confB c).length ((confB c).map byteV) := by
  obtain ⟨va, vk, hvv, -⟩ := hv.slice
  obtain ⟨la, lk, hlv, -⟩ := hl.slice
  obtain ⟨n, hn⟩ : ∃ n, n = c.v.length := ⟨_, rfl⟩
  obtain ⟨m, hm⟩ : ∃ m, m = c.l.length := ⟨_, rfl⟩
  rw [← hn] at hvv
  rw [← hm] at hlv
  subst hvv hlv
  obtain ⟨W1, hW1⟩ : ∃ W1, W1 = w.alloc (.cells #[.slice va n vk, .slice la m lk] 25) := ⟨_, rfl⟩
  obtain ⟨g, hg⟩ : ∃ g, g = w.heap.size := ⟨_, rfl⟩
  have HB1 : Hid (Below w.heap.size w W1) := Lib.hid (by rw [hW1]; exact below_alloc _ _)
  have HX1 : Hid (W1.heap[g]? = some (.cells #[.slice va n vk, .slice la m lk] 25)) := Lib.hid (by rw [hW1, hg]; exact heap_alloc_new _ _)
  have HV := Lib.hid hv
  have HL := Lib.hid hl
  have HF := Lib.hid hF
  have HN := Lib.hid hn
  have HM := Lib.hid hm
  have HW1 := Lib.hid hW1
  have HG := Lib.hid hg
  have HLE : Hid (c.v.length ≤ 1000000 ∧ c.l.length ≤ 1000000) := Lib.hid ⟨h1, h2⟩
  clear hv hl hF hn hm hW1 hg h1 h2
  go_enter Try.func9, Try.ntmps9
  go_wp2_with fail
  rw [← HG.out, ← HW1.out]
  refine wp_region_held (S := fun w' => Below W1.heap.size W1 w') (by kernel_rfl) ?_
  have hs0 : Below W1.heap.size W1 W1.drew := below_drew1 W1
  have r0 : ∀ w', Below W1.heap.size W1 w' → w'.cell? ⟨g, 0, none⟩ = some (.slice va n vk) := fun w' hw' => (block2' (old_below HX1.out hw')).1
  have r1 : ∀ w', Below W1.heap.size W1 w' → w'.cell? ⟨g, 1, none⟩ = some (.slice la m lk) := fun w' hw' => (block2' (old_below HX1.out hw')).2.1
  refine H_take (i := 0) (v := ?_) rfl (by as_aux_lemma => kernel_rfl) (by as_aux_lemma => kernel_rfl) (by as_aux_lemma => kernel_rfl) (fun _ _ _ h => h) (by rfl) hs0 ?_ ?_
  rotate_left
  · intro w' hw'; go_simp; with_reducible rfl
  go_simp
  refine H_take (i := 1) (v := ?_) rfl (by as_aux_lemma => kernel_rfl) (by as_aux_lemma => kernel_rfl) (by as_aux_lemma => kernel_rfl) (fun _ _ _ h => h) (by rfl) hs0 ?_ ?_
  rotate_left
  · intro w' hw'; go_simp; with_reducible rfl
  go_simp
  refine H_take (i := 3) (v := ?_) rfl (by as_aux_lemma => kernel_rfl) (by as_aux_lemma => kernel_rfl) (by as_aux_lemma => kernel_rfl) (fun _ _ _ h => h) (by rfl) hs0 ?_ ?_
  rotate_left
  · intro w' hw'; go_simp; with_reducible rfl
  go_simp
  refine H_take (i := 4) (v := ?_) rfl (by as_aux_lemma => kernel_rfl) (by as_aux_lemma => kernel_rfl) (by as_aux_lemma => kernel_rfl) (fun _ _ _ h => h) (by rfl) hs0 ?_ ?_
  rotate_left
  · intro w' hw'; go_simp; with_reducible rfl
  go_simp
  refine H_one (i := 2) (by as_aux_lemma => kernel_rfl) rfl (by rfl) ?_
  go_simp
  refine (valOf_any c.v F _ W1.drew ((HV.out.below HF.out HB1.out).same (fun _ h => h) fun _ _ => rfl) (fun k hk => Nat.lt_of_lt_of_le (HF.out k hk) HB1.out.size) (by have := HLE.out; omega)).mono ?_
  rintro e w2 ⟨u1, rfl, hb2, hr2⟩
  have hs2 : Below W1.heap.size W1 w2 := hs0.trans (hb2.mono hs0.size)
  have HR2 := Lib.hid hr2
  clear hb2 hr2 hs0
  refine ⟨hs2, ?_⟩
  go_simp
  refine H_one (i := 5) (by as_aux_lemma => kernel_rfl) rfl (by rfl) ?_
  go_simp
  refine (valOf_any c.l F _ w2 ((HL.out.below HF.out HB1.out).below (fun k hk => Nat.lt_of_lt_of_le (HF.out k hk) HB1.out.size) hs2) (fun k hk => Nat.lt_of_lt_of_le (Nat.lt_of_lt_of_le (HF.out k hk) HB1.out.size) hs2.size) (by have := HLE.out; omega)).mono ?_
  rintro e w3 ⟨u2, rfl, hb3, hr3⟩
  have hs3 : Below W1.heap.size W1 w3 := hs2.trans (hb3.mono hs2.size)
  have HR3 := Lib.hid hr3
  have HS23 : Hid (Below w2.heap.size w2 w3) := Lib.hid hb3
  clear hb3 hr3
  refine ⟨hs3, ?_⟩
  obtain ⟨vb1, vl1, e1, -, hb1, hv1⟩ := RepV_mk.1 HR2.out
  obtain ⟨vb2, vl2, e2, -, hb2, hv2⟩ := RepV_mk.1 HR3.out
  obtain ⟨xa1, xk1, hxb1, -⟩ := hb1.slice
  obtain ⟨xa2, xk2, hxb2, -⟩ := hb2.slice
  obtain ⟨ya1, yk1, hyb1, -⟩ := hv1.slice
  obtain ⟨ya2, yk2, hyb2, -⟩ := hv2.slice
  rw [List.length_map, ← HN.out] at hyb1
  rw [List.length_map, ← HM.out] at hyb2
  subst hxb1 hxb2 hyb1 hyb2
  subst e1 e2
  clear hb1 hb2 hv1 hv2
  go_simp
  refine H_one (i := 6) (by as_aux_lemma => kernel_rfl) rfl (by rfl) ?_
  go_simp
  obtain ⟨b4, hb4⟩ : ∃ b4, b4 = w3.heap.size := ⟨_, rfl⟩
  obtain ⟨W4, hW4⟩ : ∃ W4, W4 = w3.alloc (.cells #[.int .u64 0, .slice xa1 0 xk1, .slice ya1 n yk1, .int .u64 0, .slice xa2 0 xk2, .slice ya2 m yk2] 45) := ⟨_, rfl⟩
  have hX4 : W4.heap[b4]? = some (.cells #[.int .u64 0, .slice xa1 0 xk1, .slice ya1 n yk1, .int .u64 0, .slice xa2 0 xk2, .slice ya2 m yk2] 45) := by rw [hW4, hb4]; exact heap_alloc_new _ _
  have hb34 : Below w3.heap.size w3 W4 := by rw [hW4]; exact below_alloc _ _
  have hs4 : Below W1.heap.size W1 W4 := hs3.trans (hb34.mono hs3.size)
  rw [← hb4, ← hW4]
  refine ⟨hs4, ?_⟩
  clear hW4 hb4
  refine H_take (i := 7) (v := ?_) rfl (by as_aux_lemma => kernel_rfl) (by as_aux_lemma => kernel_rfl) (by as_aux_lemma => kernel_rfl) (fun _ _ _ h => h) (by rfl) hs4 ?_ ?_
  rotate_left
  · intro w' hw'; go_simp; with_reducible rfl
  go_simp
  refine H_one (i := 8) (by as_aux_lemma => kernel_rfl) rfl (by rfl) ?_
  go_simp
  obtain ⟨b5, hb5⟩ : ∃ b5, b5 = W4.heap.size := ⟨_, rfl⟩
  obtain ⟨W5, hW5⟩ : ∃ W5, W5 = W4.alloc (.cells #[.int .u64 0, .slice none 0 0, .slice (some ⟨b4, 0, none⟩) 2 2] 45) := ⟨_, rfl⟩
  have hX5 : W5.heap[b5]? = some (.cells #[.int .u64 0, .slice none 0 0, .slice (some ⟨b4, 0, none⟩) 2 2] 45) := by rw [hW5, hb5]; exact heap_alloc_new _ _
  have hb45 : Below W4.heap.size W4 W5 := by rw [hW5]; exact below_alloc _ _
  have hs5 : Below W1.heap.size W1 W5 := hs4.trans (hb45.mono hs4.size)
  rw [← hb5, ← hW5]
  refine ⟨hs5, ?_⟩
  clear hW5 hb5
  have h35 : Below w3.heap.size w3 W5 := hb34.trans (hb45.mono hb34.size)
  have q1 : RepV W5 (fun k => k < W5.heap.size) (.mk 0 [] (c.v.map numV)) (.agg #[.int .u64 0, .slice xa1 0 xk1, .slice ya1 n yk1]) :=
    HR2.out.same (fun k hk => Nat.lt_of_lt_of_le (Nat.lt_of_lt_of_le hk.2 HS23.out.size) h35.size) fun k hk => (h35.block k (Nat.lt_of_lt_of_le hk.2 HS23.out.size)).trans (HS23.out.block k hk.2)
  have q2 : RepV W5 (fun k => k < W5.heap.size) (.mk 0 [] (c.l.map numV)) (.agg #[.int .u64 0, .slice xa2 0 xk2, .slice ya2 m yk2]) :=
    HR3.out.same (fun k hk => Nat.lt_of_lt_of_le hk.2 h35.size) fun k hk => h35.block k hk.2
  have hX4' := old_below hX4 hb45
  have hrep : RepVl W5 (fun k => k < W5.heap.size) [confV c] (.slice (some ⟨b5, 0, none⟩) 1 1) := by
    refine .inr ⟨b5, 0, 1, rfl, lt_of_heap hX5, Nat.le_refl _, by omega, RepVs.of _ fun i hi => ?_⟩
    obtain rfl : i = 0 := by simpa using hi
    refine ⟨_, ⟨_, _, _, rfl, cell_of_row _ _ 0 _ _ _ hX5, cell_of_row _ _ 1 _ _ _ hX5, cell_of_row _ _ 2 _ _ _ hX5⟩, ?_⟩
    refine RepV_mk.2 ⟨_, _, rfl, by omega, .inl ⟨rfl, Bare.nil⟩, .inr ⟨b4, 0, 2, rfl, lt_of_heap hX4', Nat.le_refl _, by omega, RepVs.of _ fun j hj => ?_⟩⟩
    have hj2 : j < 2 := by simpa using hj
    rcases (show j = 0 ∨ j = 1 by omega) with rfl | rfl
    · exact ⟨_, ⟨_, _, _, rfl, cell_of_row _ _ 0 _ _ _ hX4', cell_of_row _ _ 1 _ _ _ hX4', cell_of_row _ _ 2 _ _ _ hX4'⟩, q1⟩
    · exact ⟨_, ⟨_, _, _, rfl, cell_of_row _ _ 3 _ _ _ hX4', cell_of_row _ _ 4 _ _ _ hX4', cell_of_row _ _ 5 _ _ _ hX4'⟩, q2⟩
  refine H_one (i := 9) (by as_aux_lemma => kernel_rfl) rfl (by rfl) ?_
  go_simp
  have hput := Put_any ⟨#[91, 42, 110, 42, 110, 93]⟩ [confV c] (fun k => k < W5.heap.size) _ W5 (by decide) hrep (fun k hk => hk) (by rw [vsize_conf]; have := HLE.out; omega)
  rw [show putAll (ByteArray.mk #[91, 42, 110, 42, 110, 93]).data.toList [confV c] = .ok (confB c) from put_conf c] at hput
  refine hput.mono ?_
  rintro e w6 ⟨hb6, u6, rfl, hown⟩
  have hs6 : Below W1.heap.size W1 w6 := hs5.trans (hb6.mono hs5.size)
  have HOWN := Lib.hid hown
  have HBS : Hid (Below w.heap.size w w6 ∧ w.heap.size ≤ W5.heap.size) := Lib.hid ⟨HB1.out.trans (hs6.mono HB1.out.size), Nat.le_trans HB1.out.size hs5.size⟩
  obtain ⟨oa, ok, hou⟩ := owned_slice hown
  obtain ⟨on, hon⟩ : ∃ on, on = (confB c).length := ⟨_, rfl⟩
  rw [← hon] at hou
  subst hou
  refine ⟨hs6, ?_⟩
  clear hb6 hown hput hrep q1 q2 hX4 hX4' hX5 hb34 hb45 h35 hs2 hs3 hs4 hs5 hon
  go_simp
  refine H_take (i := 10) (v := ?_) rfl (by as_aux_lemma => kernel_rfl) (by as_aux_lemma => kernel_rfl) (by as_aux_lemma => kernel_rfl) (fun _ _ _ h => h) (by rfl) hs6 ?_ ?_
  rotate_left
  · intro w' hw'; go_simp; with_reducible rfl
  go_simp
  refine H_take (i := 11) (v := ?_) rfl (by as_aux_lemma => kernel_rfl) (by as_aux_lemma => kernel_rfl) (by as_aux_lemma => kernel_rfl) (fun _ _ _ h => h) (by rfl) hs6 ?_ ?_
  rotate_left
  · intro w' hw'; go_simp; with_reducible rfl
  go_simp
  refine H_take (i := 12) (v := ?_) rfl (by as_aux_lemma => kernel_rfl) (by as_aux_lemma => kernel_rfl) (by as_aux_lemma => kernel_rfl) (fun _ _ _ h => h) (by rfl) hs6 ?_ ?_
  rotate_left
  · intro w' hw'; go_simp; with_reducible rfl
  go_simp
  refine H_take (i := 13) (v := ?_) rfl (by as_aux_lemma => kernel_rfl) (by as_aux_lemma => kernel_rfl) (by as_aux_lemma => kernel_rfl) (fun _ _ _ h => h) (by rfl) hs6 ?_ ?_
  rotate_left
  · intro w' hw'; go_simp; with_reducible rfl
  go_simp
  refine H_take (i := 14) (v := ?_) rfl (by as_aux_lemma => kernel_rfl) (by as_aux_lemma => kernel_rfl) (by as_aux_lemma => kernel_rfl) (fun _ _ _ h => h) (by rfl) hs6 ?_ ?_
  rotate_left
  · intro w' hw'; go_simp; with_reducible rfl
  go_simp
  refine wpAnyH_done (by as_aux_lemma => kernel_rfl) ?_ _
  clear hs6 r0 r1
  go_wp2_with fail
  go_ret
  exact ⟨_, _, rfl, HBS.out.1, HBS.out.2, HOWN.out⟩
end Go.Proofs.Ytdngfbljcmbniaa.M
