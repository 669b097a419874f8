/- Package chunk: Cut. -/
import Derived.Test.YtdngfbljcmbniaaDoorCN13
import Derived.Test.YtdngfbljcmbniaaDoorCN14
import Derived.Test.YtdngfbljcmbniaaDoorCN15
namespace Go.Proofs.YtdngfbljcmbniaaDoor.M
open Go.RowKit Go.Shelf Go.Maps

attribute [local go_sem] Oper.semAt_some

/-- What Cut answers. -/
def CutPost (w : World) (i t : Int) (b : List UInt8) (size : Int) (e : Ending) (w' : World) : Prop :=
  Below w.heap.size w w' ∧ if okMark i t = true ∧ 1 ≤ size then ∃ pv v, e = .returned (.tuple #[v, .int .i64 0]) ∧ PcRow w.heap.size pv v w' ∧ pv.map (·.1) = cutPcs i t b size.toNat
  else e = .returned (.tuple #[.slice none 0 0, .int .i64 2])

theorem RepB.kept7 {W W' : World} {F G : Nat → Prop} {L : List UInt8} {v : Value} {row : Option Nat} (h : RepB W F L v) (hF : ∀ k, F k → G k) (hg : W.grownBy W' row) (hr : ∀ r, row = some r → ∃ o : Obj, W.heap[r]? = some o ∧ o.isCells = false) : RepB W' G L v := by
  rcases h with h | ⟨b, off, c, hv, hb, hl, hm, hc⟩
  · exact .inl h
  · exact .inr ⟨b, off, c, hv, hF b hb, hl, hm, fun i hi => cell_kept (hc i hi) hg hr⟩

theorem own_kept7 {W W' : World} {base e size n : Nat} {v : Value} {xs : List Value} {row : Option Nat} (h : W.ownsRow base e size v n xs) (hg : W.grownBy W' row) (hr : ∀ r, row = some r → ∃ o : Obj, W.heap[r]? = some o ∧ o.isCells = false) : W'.ownsRow base e size v n xs := by
  refine ownsRow_same7 h fun k hk => hg.block k (h.lt k hk).2 fun e => ?_
  obtain ⟨o, ho, hc⟩ := hr k e.symm
  rcases h.2 with ⟨h1, -⟩ | ⟨g, cap, cur, hv, -, hcur, -⟩
  · rw [h1] at hk; cases hk
  · rw [hv] at hk
    cases hk
    rw [hcur] at ho
    cases ho
    cases hc

theorem PcRow.kept {base : Nat} {pv : List (Pc × Value)} {v : Value} {W W' : World} {row : Option Nat} (h : PcRow base pv v W) (hg : W.grownBy W' row) (hr : ∀ r, row = some r → ∃ o : Obj, W.heap[r]? = some o ∧ o.isCells = false) : PcRow base pv v W' :=
  ⟨own_kept7 h.row hg hr, fun x hx => ⟨own_kept7 (h.own x hx).1 hg hr, (h.own x hx).2⟩, h.apart⟩

theorem PcRow.base {base base' : Nat} {pv : List (Pc × Value)} {v : Value} {W : World} (h : PcRow base pv v W) (hb : base' ≤ base) : PcRow base' pv v W :=
  ⟨own_base7 h.row hb, fun x hx => ⟨own_base7 (h.own x hx).1 hb, (h.own x hx).2⟩, h.apart⟩

theorem wpListIn_append_run {Fn : Fence} {nn : Nat} {P : Program} (w : World) {ops : Array Oper} {rest : List Oper} {o : Oper} {a : Act} {Q : Exit → Act → World → Prop} (hgd : o.guard = none) (s y : Operand) (t : TypeId)
    (ho : o.op = .call { callee := .builtin .append, args := #[s, y], argTypes := #[t, t] }) (v x : Value) (hs : a.eval s = v) (hy : a.eval y = x) (v' : Value) (w' : World) (hrun : (Builtin.append_ #[t, t] o.type #[v, x]).run P w = .ok v' w')
    (h : wpListIn Fn nn P ops Q rest (a.put o.dst v') w') : wpListIn Fn nn P ops Q (o :: rest) a w := by
  refine wpListIn_plain hgd fun K' hK' => ?_
  unfold Oper.wpIn
  refine ⟨by simp [Oper.about, ho, resolve, Target.leads, Sem.run_pure], ?_⟩
  rw [Oper.semAt_plain Fn _ _ (by rw [ho]; intro c hc'; cases hc')]
  simp [execOp, ho, resolve, invoke, builtin, hs, hy, hrun, Result.andThen]
  exact hK' _ _ h

/-- What holds when some are cut. -/
def CutAt (W7 : World) (gp gps : Nat) (i t : Int) (b : List UInt8) (sz sm : Nat) (k : Nat) (W : World) : Prop :=
  Only (fun j => j = gp ∨ j = gps) W7 W ∧ ∃ pv v vb, W.heap[gp]? = some (.cells #[.int .i64 i, .int .i64 t, .int .u32 (sm : Int), .int .i64 (b.length : Int), .int .i64 ((min (k * sz) b.length : Nat) : Int), vb] 35) ∧
    W.heap[gps]? = some (.cells #[v] 26) ∧ PcRow W7.heap.size pv v W ∧ pv.map (·.1) = (List.range k).map (cutPc i t b sz)

theorem CutAt.beside {W7 W W' : World} {gp gps : Nat} {i t : Int} {b : List UInt8} {sz sm k : Nat} (h : CutAt W7 gp gps i t b sz sm k W) (hp : gp < W7.heap.size ∧ gps < W7.heap.size) {row : Option Nat} (hg : W.grownBy W' row) (hr : ∀ r, row = some r → W7.heap.size ≤ r ∧ ∃ o : Obj, W.heap[r]? = some o ∧ o.isCells = false) : CutAt W7 gp gps i t b sz sm k W' := by
  obtain ⟨ho, pv, v, vb, h1, h2, h3, h4⟩ := h
  refine ⟨ho.thn (fun j hj => .inr (hr j hj).1) (only_row7 hg), pv, v, vb, ?_, ?_, h3.kept hg (fun r e => (hr r e).2), h4⟩
  · exact (hg.block gp (lt_of_heap h1) fun e => by have := (hr gp e.symm).1; omega).trans h1
  · exact (hg.block gps (lt_of_heap h2) fun e => by have := (hr gps e.symm).1; omega).trans h2

theorem CutAt.drewN {W7 W : World} {gp gps : Nat} {i t : Int} {b : List UInt8} {sz sm k : Nat} (h : CutAt W7 gp gps i t b sz sm k W) (m : Nat) : CutAt W7 gp gps i t b sz sm k (W.drewN m) := by
  obtain ⟨ho, pv, v, vb, h1, h2, h3, h4⟩ := h
  exact ⟨ho.then (Only.drewN _ _ _), pv, v, vb, h1, h2, h3.same (Nat.le_refl _) fun _ _ _ => rfl, h4⟩

/-- What stands once the sum is known. -/
def CutMid (z0 : Nat) (w2 : World) (a : Option Addr) (n cap : Nat) (i t size : Int) (sm : Nat) (a' : Act) (w' : World) : Prop := ∃ gp blk, a' = { tmps := #[.agg #[.int .i64 i, .int .i64 t], .slice a n cap, .int .i64 size, .pointer (some ⟨z0, 0, none⟩), undef, undef, .slice none 0 0, .int .i64 0, .pointer (some ⟨gp, 0, none⟩), undef, undef, .agg #[.int .i64 i, .int .i64 t], .bool true, .bool false, .bool false, .int .i64 size, .bool false, .bool false, .agg #[.int .i64 i, .int .i64 t], .slice a n cap, .slice (some ⟨blk, 0, none⟩) 1 1, .int .u32 (sm : Int), .slice a n cap, .int .i64 (n : Int), .agg #[.int .i64 i, .int .i64 t, .int .u32 (sm : Int), .int .i64 (n : Int), .int .i64 0, .slice none 0 0], undef, undef, undef, undef, undef, undef, undef, undef, undef, undef, undef, undef, undef, undef, undef, undef, undef, undef, undef, undef, undef, undef, undef], defers := [] } ∧ Below w2.heap.size w2 w' ∧ w2.heap.size ≤ gp ∧ w'.heap[gp]? = some (.cells #[.int .i64 i, .int .i64 t, .int .u32 (sm : Int), .int .i64 (n : Int), .int .i64 0, .slice none 0 0] 35)

set_option maxRecDepth 100000 in
set_option maxHeartbeats 8000000 in
theorem Cut_any (i t : Int) (b : List UInt8) (size : Int) (F : Nat → Prop) (v : Value) (w : World) (hb : b.length ≤ 100000) (hs : size ≤ 9223372036854775807) (hv : RepB w F b v) (hF : ∀ k, F k → k < w.heap.size) (hT : Hid (Tab w)) :
    Calls Tryd.prog 6 #[mkAgg i t, v, .int .i64 size] w (CutPost w i t b size) := by
  obtain ⟨a, cap, rfl, -⟩ := hv.slice
  obtain ⟨n, hnn⟩ : ∃ n, n = b.length := ⟨_, rfl⟩
  obtain ⟨W1, hW1⟩ : ∃ W1, W1 = w.alloc (.cells #[.int .i64 i, .int .i64 t] 23) := ⟨_, rfl⟩
  have hb1 : Below w.heap.size w W1 := by rw [hW1]; exact below_alloc _ _
  have hz1 : W1.heap.size = w.heap.size + 1 := by rw [hW1]; simp
  have hx1 : W1.heap[w.heap.size]? = some (.cells #[.int .i64 i, .int .i64 t] 23) := by rw [hW1]; exact heap_new _ _ _ rfl
  have HIM := Lib.hid (IsMark_any i t W1)
  unfold mkAgg at HIM ⊢
  obtain ⟨om, hom⟩ : ∃ om, om = okMark i t := ⟨_, rfl⟩
  rw [← hom] at HIM
  have HOM := Lib.hid hom
  have HN := Lib.hid hnn
  have HW1 := Lib.hid hW1
  have HX1 := Lib.hid hx1
  have HB1 := Lib.hid hb1
  have HZ1 := Lib.hid hz1
  have HV := Lib.hid hv
  have HF := Lib.hid hF
  have HBL := Lib.hid hb
  have HS := Lib.hid hs
  rw [← hnn]
  obtain ⟨d0, d1, dz⟩ : W1.cell? ⟨w.heap.size, 0, none⟩ = some (.int .i64 i) ∧ W1.cell? ⟨w.heap.size, 1, none⟩ = some (.int .i64 t) ∧ w.heap.size < W1.heap.size := ⟨cell_of_row _ _ 0 _ _ _ hx1, cell_of_row _ _ 1 _ _ _ hx1, lt_of_heap hx1⟩
  clear hom hnn hW1 hx1 hb1 hz1 hv hF hb hs
  refine (callsIn_wide (n := 3)).1 ?_
  refine callsIn_of_wp_marks Tryd.func6 rfl trivial ?_ rfl
  simp only [Tryd.ntmps6, List.size_toArray, List.length_cons, List.length_nil, Nat.reduceAdd, Nat.reduceSub, Array.replicate_succ, Array.replicate_zero, List.push_toArray, List.append_toArray, List.nil_append, List.cons_append]
  cases om with
  | false =>
    gi_wp2_with (refine ⟨trivial, ?_⟩; gi_at_call 18; rw [← HW1.out]; refine (callsIn_wide.2 HIM.out).mono ?_; rintro e w2 ⟨rfl, hb2⟩; have HB2 := Lib.hid hb2; clear hb2)
    refine ⟨.tuple #[.slice none 0 0, .int .i64 2], by simp [results, Tryd.f6, go_sem], HB1.out.trans (HB2.out.mono HB1.out.size), ?_⟩
    rw [if_neg (by rw [← HOM.out]; rintro ⟨h, -⟩; cases h)]
  | true =>
    by_cases hs1 : size < 1
    · have q1 : decide (size < 1) = true := decide_eq_true hs1
      gi_wp2_with (refine ⟨trivial, ?_⟩; gi_at_call 18; rw [← HW1.out]; refine (callsIn_wide.2 HIM.out).mono ?_; rintro e w2 ⟨rfl, hb2⟩; have HB2 := Lib.hid hb2; clear hb2)
      refine ⟨.tuple #[.slice none 0 0, .int .i64 2], by simp [results, Tryd.f6, go_sem], HB1.out.trans (HB2.out.mono HB1.out.size), ?_⟩
      rw [if_neg (by rintro ⟨-, h⟩; omega)]
    · have q1 : decide (size < 1) = false := decide_eq_false hs1
      obtain ⟨sz, hsz⟩ : ∃ sz : Nat, (sz : Int) = size := ⟨size.toNat, by omega⟩
      have HSZ := Lib.hid hsz
      clear hsz
      gi_wp2_with (refine ⟨trivial, ?_⟩; gi_at_call 18; rw [← HW1.out]; refine (callsIn_wide.2 HIM.out).mono ?_; rintro e w2 ⟨rfl, hb2⟩; have HB2 := Lib.hid hb2; have d0 := (hb2.cell (p := ⟨w.heap.size, 0, none⟩) dz).trans d0; have d1 := (hb2.cell (p := ⟨w.heap.size, 1, none⟩) dz).trans d1; have dz := Nat.lt_of_lt_of_le dz hb2.size; clear hb2)
      have HOF : Hid (∀ (W : World) (blk : Nat), W.heap[blk]? = some (.cells #[.slice a n cap] 24) → Below w2.heap.size w2 W → Calls Tryd.prog 19 #[.slice (some ⟨blk, 0, none⟩) 1 1] W fun e w' => e = .returned (.int .u32 (C.sumOf b : Int)) ∧ W = w') := Lib.hid fun W blk h1 h2 => by
        have hw2 := HB1.out.trans (HB2.out.mono HB1.out.size)
        have hb2 : Below w.heap.size w W := hw2.trans (h2.mono hw2.size)
        have hv2 : RepB W (fun k => k < w.heap.size) b (.slice a n cap) := by
          have := HV.out.same (G := fun k => k < w.heap.size) HF.out (fun k hk => hb2.block k (HF.out k hk)) (w' := W)
          rw [← HN.out] at this
          exact this
        have h3 := Of_any [b] (fun k => k < w.heap.size ∨ k = blk) (.slice (some ⟨blk, 0, none⟩) 1 1) W (.inr ⟨blk, 0, 1, rfl, .inr rfl, Nat.le_refl _, by omega, fun i hi => by
          obtain rfl : i = 0 := by simpa using hi
          exact ⟨_, cell_of_row _ _ 0 _ _ _ h1, hv2.weak fun k hk => .inl hk⟩⟩) (Lib.hid (hT.out.next hb2))
        simpa using h3
      obtain ⟨sm, hsm⟩ : ∃ sm, sm = C.sumOf b := ⟨_, rfl⟩
      rw [← hsm] at HOF
      refine wpIn_mono (Q := fun e a' w' => match e with | .normal => CutMid w.heap.size w2 a n cap i t size sm a' w' | _ => False) ?_ ?_
      · refine wpIn_wide.2 ?_
        have r0 : ∀ w', Below w2.heap.size w2 w' → w'.cell? ⟨w.heap.size, 0, none⟩ = some (.int .i64 i) := fun w' hb => (hb.cell (p := ⟨w.heap.size, 0, none⟩) dz).trans d0
        have r1 : ∀ w', Below w2.heap.size w2 w' → w'.cell? ⟨w.heap.size, 1, none⟩ = some (.int .i64 t) := fun w' hb => (hb.cell (p := ⟨w.heap.size, 1, none⟩) dz).trans d1
        have hS : Below w2.heap.size w2 w2.drew := (Below.refl _ _).drew
        have HSM := Lib.hid hsm
        clear hsm d0 d1
        refine wp_region_held (S := fun w' => Below w2.heap.size w2 w') (by kernel_rfl) ?_
        refine H_take (i := 0) (v := ?_) rfl (by as_aux_lemma => kernel_rfl) (by as_aux_lemma => kernel_rfl) (by as_aux_lemma => kernel_rfl) (fun _ _ _ h => h) (by rfl) hS ?_ ?_
        rotate_left
        · intro w' hw'; go_simp; with_reducible rfl
        go_simp
        refine H_take (i := 1) (v := ?_) rfl (by as_aux_lemma => kernel_rfl) (by as_aux_lemma => kernel_rfl) (by as_aux_lemma => kernel_rfl) (fun _ _ _ h => h) (by rfl) hS ?_ ?_
        rotate_left
        · intro w' hw'; go_simp; with_reducible rfl
        go_simp
        refine H_take (i := 4) (v := ?_) rfl (by as_aux_lemma => kernel_rfl) (by as_aux_lemma => kernel_rfl) (by as_aux_lemma => kernel_rfl) (fun _ _ _ h => h) (by rfl) hS ?_ ?_
        rotate_left
        · intro w' hw'; go_simp; with_reducible rfl
        go_simp
        refine H_take (i := 5) (v := ?_) rfl (by as_aux_lemma => kernel_rfl) (by as_aux_lemma => kernel_rfl) (by as_aux_lemma => kernel_rfl) (fun _ _ _ h => h) (by rfl) hS ?_ ?_
        rotate_left
        · intro w' hw'; go_simp; with_reducible rfl
        go_simp
        refine H_both (i := 2) (j := 7) (by as_aux_lemma => kernel_rfl) rfl rfl (by rfl) (by rfl) ?_ ?_
        · go_simp
          have hSa : Below w2.heap.size w2 (w2.alloc (.cells #[.slice a n cap] 24)).drew := (below_alloc _ _).drew
          refine ⟨hSa, ?_⟩
          refine H_both (i := 3) (j := 7) (by as_aux_lemma => kernel_rfl) rfl rfl (by rfl) (by rfl) ?_ ?_
          · go_simp
            refine (HOF.out (w2.alloc (.cells #[.slice a n cap] 24)).drew _ (show (w2.alloc (.cells #[.slice a n cap] 24)).heap[w2.heap.size]? = _ from heap_new _ _ _ rfl) hSa).mono ?_
            rintro e w3 ⟨rfl, rfl⟩
            refine ⟨hSa, ?_⟩
            go_simp
            refine H_take (i := 6) (v := ?_) rfl (by as_aux_lemma => kernel_rfl) (by as_aux_lemma => kernel_rfl) (by as_aux_lemma => kernel_rfl) (fun _ _ _ h => h) (by rfl) hSa ?_ ?_
            rotate_left
            · intro w' hw'; go_simp; with_reducible rfl
            go_simp
            refine H_one (i := 7) (by as_aux_lemma => kernel_rfl) rfl (by rfl) ?_
            go_simp
            have hSb : Below w2.heap.size w2 ((w2.alloc (.cells #[.slice a n cap] 24)).alloc (.cells #[.int .i64 0, .int .i64 0, .int .u32 0, .int .i64 0, .int .i64 0, .slice none 0 0] 35)).drew := (((Below.refl _ w2).alloc (Nat.le_refl _) _).alloc (by simp) _).drew
            refine ⟨hSb, ?_⟩
            refine H_one (i := 8) (by as_aux_lemma => kernel_rfl) rfl (by rfl) ?_
            go_simp
            have hSe : Below w2.heap.size w2 ((w2.alloc (.cells #[.slice a n cap] 24)).alloc (.cells #[.int .i64 i, .int .i64 t, .int .u32 (sm : Int), .int .i64 (n : Int), .int .i64 0, .slice none 0 0] 35)).drew := (((Below.refl _ w2).alloc (Nat.le_refl _) _).alloc (by simp) _).drew
            refine ⟨hSe, ?_⟩
            refine wpAnyH_done (by as_aux_lemma => kernel_rfl) ?_ _
            exact ⟨w2.heap.size + 1, w2.heap.size, rfl, hSe, by omega, show ((w2.alloc (.cells #[.slice a n cap] 24)).alloc (.cells #[.int .i64 i, .int .i64 t, .int .u32 (sm : Int), .int .i64 (n : Int), .int .i64 0, .slice none 0 0] 35)).heap[w2.heap.size + 1]? = _ from heap_new _ _ _ (by simp)⟩
          · go_simp
            have hSb : Below w2.heap.size w2 ((w2.alloc (.cells #[.slice a n cap] 24)).alloc (.cells #[.int .i64 0, .int .i64 0, .int .u32 0, .int .i64 0, .int .i64 0, .slice none 0 0] 35)).drew := (((Below.refl _ w2).alloc (Nat.le_refl _) _).alloc (by simp) _).drew
            refine ⟨hSb, ?_⟩
            refine H_one (i := 3) (by as_aux_lemma => kernel_rfl) rfl (by rfl) ?_
            go_simp
            refine (HOF.out ((w2.alloc (.cells #[.slice a n cap] 24)).alloc (.cells #[.int .i64 0, .int .i64 0, .int .u32 0, .int .i64 0, .int .i64 0, .slice none 0 0] 35)).drew _ (show ((w2.alloc (.cells #[.slice a n cap] 24)).alloc (.cells #[.int .i64 0, .int .i64 0, .int .u32 0, .int .i64 0, .int .i64 0, .slice none 0 0] 35)).heap[w2.heap.size]? = _ from old_alloc (heap_new _ _ _ rfl)) hSb).mono ?_
            rintro e w3 ⟨rfl, rfl⟩
            refine ⟨hSb, ?_⟩
            go_simp
            refine H_take (i := 6) (v := ?_) rfl (by as_aux_lemma => kernel_rfl) (by as_aux_lemma => kernel_rfl) (by as_aux_lemma => kernel_rfl) (fun _ _ _ h => h) (by rfl) hSb ?_ ?_
            rotate_left
            · intro w' hw'; go_simp; with_reducible rfl
            go_simp
            refine H_one (i := 8) (by as_aux_lemma => kernel_rfl) rfl (by rfl) ?_
            go_simp
            have hSe : Below w2.heap.size w2 ((w2.alloc (.cells #[.slice a n cap] 24)).alloc (.cells #[.int .i64 i, .int .i64 t, .int .u32 (sm : Int), .int .i64 (n : Int), .int .i64 0, .slice none 0 0] 35)).drew := (((Below.refl _ w2).alloc (Nat.le_refl _) _).alloc (by simp) _).drew
            refine ⟨hSe, ?_⟩
            refine wpAnyH_done (by as_aux_lemma => kernel_rfl) ?_ _
            exact ⟨w2.heap.size + 1, w2.heap.size, rfl, hSe, by omega, show ((w2.alloc (.cells #[.slice a n cap] 24)).alloc (.cells #[.int .i64 i, .int .i64 t, .int .u32 (sm : Int), .int .i64 (n : Int), .int .i64 0, .slice none 0 0] 35)).heap[w2.heap.size + 1]? = _ from heap_new _ _ _ (by simp)⟩
        · go_simp
          have hSb : Below w2.heap.size w2 (w2.alloc (.cells #[.int .i64 0, .int .i64 0, .int .u32 0, .int .i64 0, .int .i64 0, .slice none 0 0] 35)).drew := (below_alloc _ _).drew
          refine ⟨hSb, ?_⟩
          refine H_one (i := 2) (by as_aux_lemma => kernel_rfl) rfl (by rfl) ?_
          go_simp
          have hSc : Below w2.heap.size w2 ((w2.alloc (.cells #[.int .i64 0, .int .i64 0, .int .u32 0, .int .i64 0, .int .i64 0, .slice none 0 0] 35)).alloc (.cells #[.slice a n cap] 24)).drew := (((Below.refl _ w2).alloc (Nat.le_refl _) _).alloc (by simp) _).drew
          refine ⟨hSc, ?_⟩
          refine H_one (i := 3) (by as_aux_lemma => kernel_rfl) rfl (by rfl) ?_
          go_simp
          refine (HOF.out ((w2.alloc (.cells #[.int .i64 0, .int .i64 0, .int .u32 0, .int .i64 0, .int .i64 0, .slice none 0 0] 35)).alloc (.cells #[.slice a n cap] 24)).drew _ (show ((w2.alloc (.cells #[.int .i64 0, .int .i64 0, .int .u32 0, .int .i64 0, .int .i64 0, .slice none 0 0] 35)).alloc (.cells #[.slice a n cap] 24)).heap[w2.heap.size + 1]? = _ from heap_new _ _ _ (by simp)) hSc).mono ?_
          rintro e w3 ⟨rfl, rfl⟩
          refine ⟨hSc, ?_⟩
          go_simp
          refine H_take (i := 6) (v := ?_) rfl (by as_aux_lemma => kernel_rfl) (by as_aux_lemma => kernel_rfl) (by as_aux_lemma => kernel_rfl) (fun _ _ _ h => h) (by rfl) hSc ?_ ?_
          rotate_left
          · intro w' hw'; go_simp; with_reducible rfl
          go_simp
          refine H_one (i := 8) (by as_aux_lemma => kernel_rfl) rfl (by rfl) ?_
          go_simp
          have hSe : Below w2.heap.size w2 ((w2.alloc (.cells #[.int .i64 i, .int .i64 t, .int .u32 (sm : Int), .int .i64 (n : Int), .int .i64 0, .slice none 0 0] 35)).alloc (.cells #[.slice a n cap] 24)).drew := (((Below.refl _ w2).alloc (Nat.le_refl _) _).alloc (by simp) _).drew
          refine ⟨hSe, ?_⟩
          refine wpAnyH_done (by as_aux_lemma => kernel_rfl) ?_ _
          exact ⟨w2.heap.size, w2.heap.size + 1, rfl, hSe, Nat.le_refl _, show ((w2.alloc (.cells #[.int .i64 i, .int .i64 t, .int .u32 (sm : Int), .int .i64 (n : Int), .int .i64 0, .slice none 0 0] 35)).alloc (.cells #[.slice a n cap] 24)).heap[w2.heap.size]? = _ from old_alloc (heap_new _ _ _ rfl)⟩
      · rintro e a' w4 hp
        cases e <;> first | exact hp.elim | skip
        obtain ⟨gp, blk, rfl, hb4, hgp, hx4⟩ := hp
        have HB4 : Hid (Below w.heap.size w w4) := Lib.hid ((HB1.out.trans (HB2.out.mono HB1.out.size)).trans (hb4.mono (HB1.out.trans (HB2.out.mono HB1.out.size)).size))
        have HGP : Hid (w.heap.size ≤ gp) := Lib.hid (Nat.le_trans (HB1.out.trans (HB2.out.mono HB1.out.size)).size hgp)
        have HX4 := Lib.hid hx4
        have HSM := Lib.hid hsm
        obtain ⟨e0, e1, e2, e3, e4, e5, ez⟩ := six_cells hx4
        clear hb4 hgp hx4 hsm d0 d1 dz
        dsimp only
        by_cases hn0 : n = 0
        · subst hn0
          gi_wp2
          have HXB : Hid (b = []) := Lib.hid (List.eq_nil_of_length_eq_zero HN.out.symm)
          refine ⟨.tuple #[.slice (some ⟨w4.heap.size, 0, none⟩) 1 1, .int .i64 0], by simp [results, Tryd.f6, go_sem], HB4.out.trans ((below_alloc _ _).mono HB4.out.size), ?_⟩
          rw [if_pos ⟨HOM.out.symm, by omega⟩]
          refine ⟨[(⟨i, t, sm, 0, 0, []⟩, .slice none 0 0)], _, rfl, ⟨?_, fun x hx => ?_, List.pairwise_singleton _ _⟩, ?_⟩
          · exact World.ownsRow_lit w4 #[.int .i64 i, .int .i64 t, .int .u32 (sm : Int), .int .i64 0, .int .i64 0, .slice none 0 0] 1 HB4.out.size (by unfold maxLen; omega) rfl
          · rw [List.mem_singleton.1 hx]; exact ⟨World.ownsRow_nil _ _ _ _, fun j hj => by cases hj⟩
          · rw [HXB.out, HSM.out, HXB.out]
            simp [cutPcs, cutN, cutPc, List.range_succ]
        · have q0 : ((n : Int) == 0) = false := by simp; omega
          gi_wp2_with (refine ⟨trivial, ?_⟩; gi_at_call 20; rw [← HSZ.out]; refine (callsIn_wide.2 (chunk_any a n cap sz (by have := HSZ.out; omega) _)).mono ?_; rintro e w5 ⟨rfl, rfl⟩)
          obtain ⟨W7, hW7⟩ : ∃ W7, W7 = ((w4.alloc (.cells #[.slice none 0 0] 26)).alloc (.cells #[.slice a n cap] 24)).alloc (.cells #[.int .i64 (sz : Int)] 3) := ⟨_, rfl⟩
          rw [← hW7]
          obtain ⟨gps, hgps⟩ : ∃ gps, gps = w4.heap.size := ⟨_, rfl⟩
          have hz7 : W7.heap.size = gps + 3 := by rw [hW7, hgps]; simp
          have hb7 : Below w4.heap.size w4 W7 := by rw [hW7]; exact (((Below.refl _ w4).alloc (Nat.le_refl _) _).alloc (by simp) _).alloc (by simp; omega) _
          have hy0 : W7.heap[gps]? = some (.cells #[.slice none 0 0] 26) := by rw [hW7, hgps]; exact old_alloc (old_alloc (heap_new _ _ _ rfl))
          have hy1 : W7.heap[gps + 1]? = some (.cells #[.slice a n cap] 24) := by rw [hW7, hgps]; exact old_alloc (heap_new _ _ _ (by simp))
          have hy2 : W7.heap[gps + 1 + 1]? = some (.cells #[.int .i64 (sz : Int)] 3) := by rw [hW7, hgps]; exact heap_new _ _ _ (by simp)
          have hyp := old_below HX4.out hb7
          have hgpl : gp < gps := by rw [hgps]; exact lt_of_heap HX4.out
          have HWG : Hid (w.heap.size ≤ gps) := Lib.hid (by rw [hgps]; exact HB4.out.size)
          have HB7 : Hid (Below w.heap.size w W7) := Lib.hid (HB4.out.trans (hb7.mono HB4.out.size))
          have hn1 : 0 < n := by omega
          have hnl : n ≤ 100000 := by rw [HN.out]; exact HBL.out
          have hsz0 : 0 < sz := by have := HSZ.out; omega
          obtain ⟨g, off, rfl, hcap⟩ : ∃ g off, a = some ⟨g, off, none⟩ ∧ n ≤ cap ∧ cap ≤ 9223372036854775807 := by
            rcases HV.out with ⟨h, -⟩ | ⟨g, off, c', he, -, h1, h2, -⟩
            · have := HN.out; rw [h] at this; simp at this; omega
            · cases he; exact ⟨g, off, rfl, by rw [HN.out]; exact h1, h2⟩
          have hI0 : CutAt W7 gp gps i t b sz sm 0 W7 := ⟨Only.refl _ _, [], _, .slice none 0 0, by rw [Nat.zero_mul, Nat.zero_min, ← HN.out]; exact hyp, hy0, PcRow.nil _ _, rfl⟩
          have HY1 := Lib.hid hy1
          have HY2 := Lib.hid hy2
          have HZ7 := Lib.hid hz7
          have HGPL := Lib.hid hgpl
          have HW7 := Lib.hid hW7
          rw [← hgps]
          clear hW7 hgps hz7 hb7 hy0 hy1 hy2 hyp e0 e1 e2 e3 e4 e5 ez
          have HIN : Hid (∀ (l : Nat) (J Jx : Nat → World → Prop) (W : World), (∀ k W, k ≤ cutN n sz → J k W → ChunksAt (gps + 1) (some ⟨g, off, none⟩) n cap sz W) → (∀ k W m, J k W → J k (W.drewN m)) →
              (∀ k W1, k < cutN n sz → J k W1 → YieldAt Fence.wide (3 - 1 - 1) Tryd.prog l (chEnc g off n sz k) W1 fun e W' => (e = .returned (.bool true) ∧ J (k + 1) W') ∨ (e = .returned (.bool false) ∧ Jx k W')) → J 0 W →
              CallsIn Fence.wide (3 - 1) Tryd.prog 28 (#[.func (.yield l) #[] #[]] ++ #[.pointer (some ⟨gps + 1, 0, none⟩), .pointer (some ⟨gps + 1 + 1, 0, none⟩)]) W fun e W' => (∃ v, e = .returned v) ∧ (J (cutN n sz) W' ∨ ∃ k, Jx k W')) :=
            Lib.hid fun l J Jx W hJ hD hY h0 => chunks_in l (gps + 1) g off n cap sz hn1 hnl hcap hsz0 (by have := HSZ.out; have := HS.out; omega) J Jx hJ hY (fun k W m _ h => hD k W m h) W h0
          have HNS : Hid (gp < W7.heap.size ∧ gps < W7.heap.size) := Lib.hid (by have := HZ7.out; omega)
          refine wpIn_rangeFunc_byD (F := Fence.wide) (n := 3) rfl (by omega) (gf := 28) (lb := #[.pointer (some ⟨gps + 1, 0, none⟩), .pointer (some ⟨gps + 1 + 1, 0, none⟩)]) rfl trivial (enters_of Tryd.func28 (by kernel_rfl) rfl)
            (cutN n sz) (chEnc g off n sz) (fun _ => rfl) (fun _ W => ChunksAt (gps + 1) (some ⟨g, off, none⟩) n cap sz W) HIN.out
            (CutAt W7 gp gps i t b sz sm) (fun _ _ _ => False)
            (fun s W W' row hs hg hr => hs.beside HNS.out hg hr) (fun c s W W' row hs hg hr => hs)
            (fun k W _ hs => ⟨cell_of_row _ _ 0 _ _ _ ((hs.1.block _ (lt_of_heap HY1.out) (by have := HGPL.out; omega)).trans HY1.out), cell_of_row _ _ 0 _ _ _ ((hs.1.block _ (lt_of_heap HY2.out) (by have := HGPL.out; omega)).trans HY2.out)⟩)
            hI0 (fun k W m hs => hs.drewN m)
            (fun k a' _ => a' = { tmps := #[.agg #[.int .i64 i, .int .i64 t], .slice (some ⟨g, off, none⟩) n cap, .int .i64 (sz : Int), .pointer (some ⟨w.heap.size, 0, none⟩), undef, undef, .slice none 0 0, .int .i64 0, .pointer (some ⟨gp, 0, none⟩), .pointer (some ⟨gps, 0, none⟩), chV g off n sz k, .agg #[.int .i64 i, .int .i64 t], .bool true, .bool false, .bool false, .int .i64 (sz : Int), .bool false, .bool false, .agg #[.int .i64 i, .int .i64 t], .slice (some ⟨g, off, none⟩) n cap, .slice (some ⟨blk, 0, none⟩) 1 1, .int .u32 (sm : Int), .slice (some ⟨g, off, none⟩) n cap, .int .i64 (n : Int), .agg #[.int .i64 i, .int .i64 t, .int .u32 (sm : Int), .int .i64 (n : Int), .int .i64 0, .slice none 0 0], .slice (some ⟨g, off, none⟩) n cap, .int .i64 (n : Int), .bool false, undef, undef, .slice (some ⟨g, off, none⟩) n cap, .int .i64 (sz : Int), .func (.func 28) #[] #[.pointer (some ⟨gps + 1, 0, none⟩), .pointer (some ⟨gps + 1 + 1, 0, none⟩)], chV g off n sz k, undef, undef, undef, undef, undef, undef, undef, undef, undef, undef, undef, undef, undef, undef], defers := [] })
            (fun _ _ _ _ _ hs _ _ => hs) ?assign ?body ?done (fun _ _ _ _ _ h => h.elim)
          case assign =>
            intro l k W K hI hk hK
            unfold chEnc
            gi_wp2
            exact hK _ _ (KeepsFrom.refl _ _) hI rfl
          case body =>
            rintro l k a' W ⟨ho, pv, v, vb, h1, h2, h3, h4⟩ rfl hk
            have hkn : k * sz < n := (cutN_lt hsz0 (by omega)).1 hk
            obtain ⟨d, hd⟩ : ∃ d, d = k * sz := ⟨_, rfl⟩
            obtain ⟨part, hpt⟩ : ∃ part, part = (b.drop d).take sz := ⟨_, rfl⟩
            have hpl : part.length = min sz (n - d) := by rw [hpt]; have := HN.out; simp; omega
            have hdn : d < n := by omega
            obtain ⟨pl, hple⟩ : ∃ pl, pl = part.length := ⟨_, rfl⟩
            have hv7 : RepB W (fun k => k < w.heap.size) part (.slice (some ⟨g, off + d, none⟩) pl pl) := by
              rcases HV.out with ⟨h, -⟩ | ⟨g', off', c', he, hF2, l1, l2, hc⟩
              · have := HN.out; rw [h] at this; simp at this; omega
              · cases he
                refine .inr ⟨g, off + d, pl, by rw [hple], HF.out g hF2, by omega, by omega, fun j hj => ?_⟩
                have hbw : W.heap[g]? = w.heap[g]? := (ho.block g (Nat.lt_of_lt_of_le (HF.out g hF2) HB7.out.size) (by have := HF.out g hF2; have := HGP.out; have := HGPL.out; omega)).trans (HB7.out.block g (HF.out g hF2))
                rw [World.cell?_of_block (a := ⟨g, off + d + j, none⟩) hbw]
                have h5 := hc (d + j) (by have := HN.out; omega)
                rw [← Nat.add_assoc] at h5
                have h6 : part[j]? = b[d + j]? := by rw [hpt, List.getElem?_take_of_lt (by omega), List.getElem?_drop]
                rw [List.getElem?_eq_getElem hj, List.getElem?_eq_getElem (by have := HN.out; omega)] at h6
                rw [h5, Option.some.inj h6]
            have hchv : chV g off n sz k = .slice (some ⟨g, off + d, none⟩) pl pl := by unfold chV; rw [← hd, hple, hpl]
            have hmin : min (k * sz) b.length = d := by rw [← hd, ← HN.out]; omega
            rw [hmin] at h1
            have hgpW := lt_of_heap h1
            have hgsW := lt_of_heap h2
            have hzW := ho.size
            have HCL := Lib.hid (Clone_any (some ⟨g, off + d, none⟩) part pl pl hple W _ hv7 (fun k hk => Nat.lt_of_lt_of_le (Nat.lt_of_lt_of_le hk HB7.out.size) hzW) (fun h => by cases h) (by omega))
            obtain ⟨psa, psc, rfl⟩ := h3.slice
            obtain ⟨kl, hkl⟩ : ∃ kl, kl = pv.length := ⟨_, rfl⟩
            have hkl2 : kl = k := by rw [hkl]; have := congrArg List.length h4; simpa using this
            have HAFT : Hid (∀ vv w1, Own W part vv w1 → ∃ ua uc v' w3 a' c', vv = .slice ua pl uc ∧ (Builtin.append_ #[26, 26] 26 #[.slice psa kl psc, .slice (some ⟨w1.heap.size, 0, none⟩) 1 1]).run Tryd.prog ((w1.setCell ⟨gp, 5, none⟩ vv).alloc (.cells #[.int .i64 i, .int .i64 t, .int .u32 (sm : Int), .int .i64 (n : Int), .int .i64 (d : Int), vv] 35)) = .ok v' w3 ∧ v' = .slice a' (kl + 1) c' ∧
                (w1.heap[gp]? = some (.cells #[.int .i64 i, .int .i64 t, .int .u32 (sm : Int), .int .i64 (n : Int), .int .i64 (d : Int), vb] 35) ∧ w1.heap[gps]? = some (.cells #[.slice psa kl psc] 26)) ∧
                (w3.heap[gp]? = some (.cells #[.int .i64 i, .int .i64 t, .int .u32 (sm : Int), .int .i64 (n : Int), .int .i64 (d : Int), vv] 35) ∧ w3.heap[gps]? = some (.cells #[.slice psa kl psc] 26)) ∧
                KeepsFrom W7.heap.size W ((w3.setCell ⟨gps, 0, none⟩ v').setCell ⟨gp, 4, none⟩ (.int .i64 ((d : Int) + (pl : Int)))) ∧ CutAt W7 gp gps i t b sz sm (k + 1) ((w3.setCell ⟨gps, 0, none⟩ v').setCell ⟨gp, 4, none⟩ (.int .i64 ((d : Int) + (pl : Int))))) := Lib.hid fun vv w1 hown => by
              obtain ⟨ua, uc, rfl⟩ := hown.slice
              have hb1 := hown.1
              have h1' : W.heap[gp]? = some (.cells #[.int .i64 i, .int .i64 t, .int .u32 (sm : Int), .int .i64 (n : Int), .int .i64 (d : Int), vb] 35) := by rw [HN.out]; exact h1
              have m1 := old_below h1' hb1
              have m2 := old_below h2 hb1
              obtain ⟨W2, hW2⟩ : ∃ W2, W2 = w1.setCell ⟨gp, 5, none⟩ (.slice ua part.length uc) := ⟨_, rfl⟩
              have hgg : gp ≠ gps := by have := HGPL.out; omega
              have n1 : W2.heap[gp]? = some (.cells #[.int .i64 i, .int .i64 t, .int .u32 (sm : Int), .int .i64 (n : Int), .int .i64 (d : Int), .slice ua part.length uc] 35) := by rw [hW2]; simp [World.setCell, Array.getElem?_modify, m1]
              have n2 : W2.heap[gps]? = some (.cells #[.slice psa pv.length psc] 26) := by rw [hW2]; exact old_set m2 (fun e => hgg e.symm)
              have hz2 : W2.heap.size = w1.heap.size := by rw [hW2]; simp
              have hz1 := hb1.size
              have hns := HNS.out
              have hs2 : ∀ j, W7.heap.size ≤ j → j < w1.heap.size → W2.heap[j]? = w1.heap[j]? := fun j hj _ => by rw [hW2]; exact Below.heap_setCell _ _ _ _ (by show j ≠ gp; omega)
              have h3' : PcRow W7.heap.size pv (.slice psa pv.length psc) W2 := h3.same (by omega) fun j hj hl => (hs2 j hj (by omega)).trans (hb1.block j hl)
              have hu : W2.ownsRow W7.heap.size 5 1 (.slice ua part.length uc) part.length (part.map byteV) := own_base7 (own_same7 hown.2 fun j h1 h2 _ => hs2 j (by omega) h2) hzW
              have hune : ∀ j, (Value.slice ua part.length uc).ownBlock = some j → (Value.slice psa pv.length psc).ownBlock ≠ some j ∧ ∀ x ∈ pv, x.2.ownBlock ≠ some j := fun j hj => by
                have h5 := (hown.2.lt j hj).1
                exact ⟨fun e => by have := (h3.row.lt j e).2; omega, fun x hx e => by have := ((h3.own x hx).1.lt j e).2; omega⟩
              obtain ⟨v', w3, hrun, hrow', ho3, hk3, a', c', rfl⟩ := h3'.push (p := ⟨i, t, (sm : Int), (n : Int), (d : Int), part⟩) hu hune (by omega) (by have := cutN_le (n := n) hsz0; omega) 26
              rw [hz2] at hrun
              have hop : ∀ q, q < W7.heap.size → (Value.slice psa pv.length psc).ownBlock ≠ some q := fun q hq e => by have := (h3.row.lt q e).1; omega
              have q1 := (ho3.block gp (lt_of_heap n1) (hop gp hns.1)).trans n1
              have q2 := (ho3.block gps (lt_of_heap n2) (hop gps hns.2)).trans n2
              have hple2 : part.length = pl := hple.symm
              refine ⟨ua, uc, .slice a' (pv.length + 1) c', w3, a', c', by rw [hple2], ?_, by rw [hkl], ⟨m1, by rw [hkl]; exact m2⟩, ⟨q1, by rw [hkl]; exact q2⟩, ?_, ?_⟩
              · rw [hkl, ← hW2]; exact hrun
              · exact (((((keeps_below7 hb1).trans ((KeepsOthers.setCell w1 _ _).from _)).trans (by rw [← hW2]; exact hk3.from _)).trans ((KeepsOthers.setCell w3 _ _).from _)).trans ((KeepsOthers.setCell _ _ _).from _))
              · have hz3 := ho3.size
                have hat : (d : Int) + (pl : Int) = ((min ((k + 1) * sz) b.length : Nat) : Int) := by rw [Nat.add_mul, Nat.one_mul, ← hd, ← HN.out, hple, hpl]; omega
                rw [hat]
                refine ⟨(((((ho.next hb1).set (.inl (.inl rfl)) _).thn (X := fun j => j = gp ∨ j = gps) (fun j hj => .inr ((h3.row.lt j hj).1)) (by rw [← hW2]; exact ho3)).set (.inl (.inr rfl)) _).set (.inl (.inl rfl)) _), pv ++ [(⟨i, t, (sm : Int), (n : Int), (d : Int), part⟩, .slice ua part.length uc)], .slice a' (pv.length + 1) c', .slice ua part.length uc, ?_, ?_, ?_, ?_⟩
                · rw [← HN.out]
                  simp [World.setCell, Array.getElem?_modify, q1, hgg, hgg.symm]
                · simp [World.setCell, Array.getElem?_modify, q2, hgg, hgg.symm]
                · exact hrow'.same (by simp) fun j hj _ => (Below.heap_setCell _ _ _ _ (by show j ≠ gp; omega)).trans (Below.heap_setCell _ _ _ _ (by show j ≠ gps; omega))
                · rw [List.map_append, h4, List.range_succ, List.map_append]
                  simp only [List.map_cons, List.map_nil]
                  rw [HSM.out, HN.out, hpt, hd]
                  rfl
            have HKL := Lib.hid hkl2
            have HH1 := Lib.hid h1
            have HH2 := Lib.hid h2
            rw [hchv]
            clear hkn hd hpt hv7 hchv hmin h1 h2 h3 h4 ho hkl hk hkl2
            have hpl9 : pl ≤ 100000 := by omega
            clear hple hpl
            gi_wp2_with (first | (gi_at_builtin; refine wpListIn_append_run _ rfl (.tmp 37) (.tmp 39) 26 rfl _ _ rfl rfl _ _ hrun ?_) | (refine ⟨trivial, ?_⟩; gi_at_call 21; refine (CallsIn.inRound l (callsIn_wide.2 HCL.out)).mono ?_; rintro e w1 ⟨vv, rfl, hown⟩; obtain ⟨ua, uc, v', w3, a', c', rfl, hrun, rfl, ⟨m1, m2⟩, ⟨m3, m4⟩, m5, m6⟩ := HAFT.out _ _ hown; have HM5 := Lib.hid m5; have HM6 := Lib.hid m6; obtain ⟨x0, x1, x2, x3, x4, x5, xz⟩ := six_cells m1; obtain ⟨y0, yf, yz⟩ := block1 m2; obtain ⟨x0', x1', x2', x3', x4', x5', xz'⟩ := six_cells m3; obtain ⟨y0', yf', yz'⟩ := block1 m4; have xf5 := frozen_of_row _ _ 5 _ _ m1; have xf4 := frozen_of_row _ _ 4 _ _ m3; clear hown m1 m2 m3 m4 m5 m6))
            exact ⟨HM5.out, HM6.out⟩
          case done =>
            rintro D W hD ⟨ho, pv, v, vb, h1, h2, h3, h4⟩ hK
            obtain ⟨psa, psc, rfl⟩ := h3.slice
            obtain ⟨y0, yf, yz⟩ := block1 h2
            have HO := Lib.hid ho
            have H3 := Lib.hid h3
            have H4 := Lib.hid h4
            have HK := Lib.hid hK
            clear ho h1 h2 h3 h4 hK
            gi_wp2
            refine ⟨by simp, .inl ⟨_, _, rfl, run_takeDeferred HK.out, ?_⟩⟩
            have hr3 := H3.out.kept (grownBy_putObj' W D (.deferred none)) fun r e => by cases e; exact ⟨_, HK.out, rfl⟩
            have hns := HNS.out
            refine ⟨.tuple #[.slice psa pv.length psc, .int .i64 0], by simp [results, Tryd.f6, go_sem], ?_, ?_⟩
            · have hoo : Only (fun j => (j = gp ∨ j = gps) ∨ j = D) W7 (W.putObj D (.deferred none)) := (HO.out.mono fun j hj => .inl hj).thn (fun j hj => .inl (.inr (Option.some.inj hj).symm)) (only_row7 (grownBy_putObj' W D (.deferred none)))
              refine below_only HB7.out hoo fun j hj => ?_
              have := HGP.out
              have := HWG.out
              have := HB7.out.size
              rcases hj with (h | h) | h <;> omega
            · rw [if_pos ⟨HOM.out.symm, by have := HSZ.out; omega⟩]
              refine ⟨pv, _, rfl, hr3.base HB7.out.size, ?_⟩
              rw [H4.out]
              unfold cutPcs
              rw [HN.out, show size.toNat = sz by have := HSZ.out; omega]
end Go.Proofs.YtdngfbljcmbniaaDoor.M
