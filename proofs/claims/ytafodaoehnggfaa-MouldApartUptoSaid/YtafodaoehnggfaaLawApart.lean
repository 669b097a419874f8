/- The walk of the law MouldApart. -/
import Derived.Test.YtafodaoehnggfaaApartPure
import Derived.Test.YtafodaoehnggfaaLawWide
import Derived.Test.YtafodaoehnggfaaLawNumbers
import Derived.Deep.Cut
import Derived.OrdersHeld
import Derived.Deep.RegionHeld
namespace Go.Proofs.Ytafodaoehnggfaa.M
open Go.RowKit

theorem rep_cap {w : World} {F : Nat → Prop} {L : List UInt8} {a : Option Addr} {n c : Nat} (h : RepB w F L (.slice a n c)) : L.length ≤ c := by
  rcases h with ⟨rfl, _⟩ | ⟨b, off, c, h, _, h1, _⟩
  · simp
  · cases h; exact h1

/-- Two values in a new block, as a slice of two. -/
theorem RepVl.two {w w1 : World} {F G : Nat → Prop} {d d' : V} {x y z x' y' z' : Value} {g : Nat} {t : TypeId} (h : RepV w F d (.agg #[x, y, z])) (h' : RepV w F d' (.agg #[x', y', z']))
    (hb : w1.heap[g]? = some (.cells #[x, y, z, x', y', z'] t)) (hw : ∀ b, F b → w1.heap[b]? = w.heap[b]?) (hF : ∀ b, F b → G b) (hg : G g) : RepVl w1 G [d, d'] (.slice (some ⟨g, 0, none⟩) 2 2) := by
  have hc := fun j => cell_of_row _ g j _ t _ hb
  refine .inr ⟨g, 0, 2, rfl, hg, by simp, by omega, ?_⟩
  unfold RepVs RepVs RepVs
  exact ⟨⟨_, ⟨x, y, z, rfl, hc 0, hc 1, hc 2⟩, h.same hF hw⟩, ⟨_, ⟨x', y', z', rfl, hc 3, hc 4, hc 5⟩, h'.same hF hw⟩, trivial⟩

theorem putAll_one {s : List UInt8} {sh : Sh} (h : shape s = some sh) (a : V) : putAll s [a] = if isV sh a = true then .ok (putV sh a) else .error 2 := by
  unfold putAll
  rw [h]
  simp

theorem same_some {s : List UInt8} {sh : Sh} (h : shape s = some sh) (a b : V) : same s a b = (isV sh a && (isV sh b && (putV sh a == putV sh b))) := by
  unfold same
  rw [putAll_one h, putAll_one h]
  cases isV sh a <;> cases isV sh b <;> simp

/-- What Put of one value answers. -/
def PutOne (sh : Sh) (d : V) (w : World) (e : Ending) (w' : World) : Prop :=
  ∃ a n c k, e = .returned (.tuple #[.slice a n c, .int .i64 k]) ∧ Below w.heap.size w w' ∧
    ((isV sh d = true ∧ k = 0 ∧ n = (putV sh d).length ∧ RepB w' (fun b => b < w'.heap.size) (putV sh d) (.slice a n c)) ∨ (isV sh d = false ∧ k = 2))

theorem put_val {s : ByteArray} {sh : Sh} (hq : shape s.data.toList = some sh) (hs : s.size ≤ 9223372036854775807) {d : V} {x y z : Value} {F : Nat → Prop} {w0 : World} (h : RepV w0 F d (.agg #[x, y, z])) (hl : vsize d ≤ 549755813888) (w : World)
    (hold : ∀ b, F b → b < w.heap.size ∧ w.heap[b]? = w0.heap[b]?) :
    Calls Try.prog 12 #[.string s, .slice (some ⟨w.heap.size, 0, none⟩) 1 1] (w.alloc (.cells #[x, y, z] 31)) (PutOne sh d w) := by
  have hv : RepVl (w.alloc (.cells #[x, y, z] 31)) (fun b => F b ∨ b = w.heap.size) [d] (.slice (some ⟨w.heap.size, 0, none⟩) 1 1) :=
    RepVl.one h (heap_new _ _ _ rfl) (fun b hb => by rw [Below.heap_alloc _ _ _ (hold b hb).1]; exact (hold b hb).2) (fun _ h => .inl h) (.inr rfl)
  refine (Put_any s [d] _ _ _ hs hv (fun b hb => by
    rcases hb with hb | hb
    · have := (hold b hb).1; simp; omega
    · rw [hb]; simp) (by simp [vsizes]; omega)).mono ?_
  rintro e w1 ⟨hb1, hp⟩
  have hB : Below w.heap.size w w1 := (below_alloc _ _).trans (hb1.mono (by simp))
  rw [putAll_one hq] at hp
  cases hi : isV sh d with
  | true =>
    rw [hi, if_pos rfl] at hp
    obtain ⟨v, rfl, hown⟩ := hp
    have hr := (RepB.of_own hown).same (fun b hb => hb.2) fun _ _ => rfl
    obtain ⟨a, c, rfl, _⟩ := hr.slice
    exact ⟨_, _, _, _, rfl, hB, .inl ⟨hi, rfl, rfl, hr⟩⟩
  | false =>
    rw [hi, if_neg (by decide)] at hp
    exact ⟨_, _, _, _, hp, hB, .inr ⟨hi, rfl⟩⟩

set_option maxRecDepth 100000 in
set_option maxHeartbeats 1600000 in
theorem MouldApart_any (s : ByteArray) (a b : V) (F : Nat → Prop) (va vb : Value) (w : World) (hs : Hid (s.size ≤ 9223372036854775807)) (ha : RepV w F a va) (hb : RepV w F b vb) (hF : ∀ b, F b → b < w.heap.size)
    (hla : Hid (vsize a ≤ 549755813888)) (hlb : Hid (vsize b ≤ 549755813888)) :
    Calls Try.prog 5 #[.string s, va, vb] w fun e w' => e = .returned (.bool true) ∧ Below w.heap.size w w' := by
  obtain ⟨n1, ab1, nb1, cb1, al1, nl1, cl1, rfl⟩ := ha.form
  obtain ⟨n2, ab2, nb2, cb2, al2, nl2, cl2, rfl⟩ := hb.form
  have HA := Lib.hid ha
  have HB := Lib.hid hb
  have HF := Lib.hid hF
  have HRR := Lib.hid (fun w => RefRight_any s w hs.out)
  clear ha hb hF
  go_enter Try.func5, Try.ntmps5
  go_wp2_with fail
  generalize hW0 : (w.alloc (.cells #[.int .u64 n1, .slice ab1 nb1 cb1, .slice al1 nl1 cl1] 31)).alloc (.cells #[.int .u64 n2, .slice ab2 nb2 cb2, .slice al2 nl2 cl2] 31) = w0
  have HB0 : Hid (Below w.heap.size w w0) := Lib.hid (by rw [← hW0]; exact (below_alloc _ _).alloc (by simp) _)
  have HX0 : Hid (w0.heap[w.heap.size]? = some (.cells #[.int .u64 n1, .slice ab1 nb1 cb1, .slice al1 nl1 cl1] 31)) := Lib.hid (by rw [← hW0]; exact old_alloc (heap_new _ _ _ rfl))
  have HX1 : Hid (w0.heap[w.heap.size + 1]? = some (.cells #[.int .u64 n2, .slice ab2 nb2 cb2, .slice al2 nl2 cl2] 31)) := Lib.hid (by rw [← hW0]; exact heap_new _ _ _ (by simp))
  clear hW0
  refine (awake_any _).mono ?_
  rintro e w1 ⟨rfl, hB1⟩
  have hx0 := old_below HX0.out hB1
  have hx1 := old_below HX1.out hB1
  have HB1 : Hid (Below w.heap.size w w1) := Lib.hid (HB0.out.trans (hB1.mono HB0.out.size))
  have HX0 := Lib.hid hx0
  have HX1 := Lib.hid hx1
  clear hB1 hx0 hx1
  go_wp2_with fail
  refine (HRR.out _).mono ?_
  rintro e w1 ⟨rfl, rfl⟩
  cases hq : shape s.data.toList with
  | none =>
    have Hq := Lib.hid hq
    clear hq
    simp only [Option.isSome_none]
    go_wp2_with fail
    refine (awake_any _).mono ?_
    rintro e w2 ⟨rfl, hB2⟩
    have HB2 : Hid (Below w.heap.size w w2) := Lib.hid (HB1.out.trans (hB2.mono HB1.out.size))
    clear hB2
    go_wp2_with fail
    go_ret
    exact ⟨rfl, HB2.out⟩
  | some sh =>
    have Hq := Lib.hid hq
    clear hq
    simp only [Option.isSome_some]
    obtain ⟨a0, a1, a2, -, -, -, hz0⟩ := block3 HX0.out
    obtain ⟨b0, b1, b2, -, -, -, hz1⟩ := block3 HX1.out
    go_wp2_with fail
    have hold : ∀ b, F b → (w1.alloc (.cells #[.int .u64 n1, .slice ab1 nb1 cb1, .slice al1 nl1 cl1, .int .u64 n2, .slice ab2 nb2 cb2, .slice al2 nl2 cl2] 31)).heap[b]? = w.heap[b]? := fun b hb => by
      have := HF.out b hb
      have := HB1.out.size
      rw [Below.heap_alloc _ _ _ (by omega), HB1.out.block b (HF.out b hb)]
    refine (Few_any (fun b => F b ∨ b = w1.heap.size) [a, b] _ _ 1000 (RepVl.two HA.out HB.out (heap_new _ _ _ rfl) hold (fun _ h => .inl h) (.inr rfl)) (fun b hb => by
      have := HB1.out.size
      rcases hb with hb | hb
      · have := HF.out b hb; simp; omega
      · rw [hb]; simp) (by omega) (by omega)).mono ?_
    rintro e w2 ⟨hB2, rfl⟩
    have HB12 : Hid (Below w1.heap.size w1 w2) := Lib.hid ((below_alloc _ _).trans (hB2.mono (by simp)))
    have HB2 : Hid (Below w.heap.size w w2) := Lib.hid (HB1.out.trans (HB12.out.mono HB1.out.size))
    have hx0 := old_below HX0.out HB12.out
    have hx1 := old_below HX1.out HB12.out
    clear hB2 HX0 HX1 a0 a1 a2 b0 b1 b2 hz0 hz1 hold HB12
    have HX0 := Lib.hid hx0
    have HX1 := Lib.hid hx1
    clear hx0 hx1
    cases hfew : decide ((vpartss [a, b] : Int) ≤ 1000) with
    | false =>
      clear hfew
      go_wp2_with fail
      refine (awake_any _).mono ?_
      rintro e w3 ⟨rfl, hB3⟩
      have HB3 : Hid (Below w.heap.size w w3) := Lib.hid (HB2.out.trans (hB3.mono HB2.out.size))
      clear hB3
      go_wp2_with fail
      go_ret
      exact ⟨rfl, HB3.out⟩
    | true =>
      have HFEW : Hid (vpartss [a, b] ≤ 1000) := Lib.hid (by have := of_decide_eq_true hfew; omega)
      clear hfew
      obtain ⟨a0, a1, a2, -, -, -, hz0⟩ := block3 HX0.out
      obtain ⟨b0, b1, b2, -, -, -, hz1⟩ := block3 HX1.out
      go_wp2_with fail
      refine (put_val Hq.out hs.out HA.out hla.out w2 (fun b hb => ⟨Nat.lt_of_lt_of_le (HF.out b hb) HB2.out.size, HB2.out.block b (HF.out b hb)⟩)).mono ?_
      rintro e w3 ⟨xa, xn, xc, xk, rfl, hB3, hx⟩
      have HX := Lib.hid hx
      have hx0 := old_below HX0.out hB3
      have hx1 := old_below HX1.out hB3
      have HB3 : Hid (Below w.heap.size w w3) := Lib.hid (HB2.out.trans (hB3.mono HB2.out.size))
      clear hB3 HX0 HX1 a0 a1 a2 b0 b1 b2 hz0 hz1 hx
      have HX0 := Lib.hid hx0
      have HX1 := Lib.hid hx1
      clear hx0 hx1
      obtain ⟨a0, a1, a2, -, -, -, hz0⟩ := block3 HX0.out
      obtain ⟨b0, b1, b2, -, -, -, hz1⟩ := block3 HX1.out
      go_wp2_with fail
      refine (put_val Hq.out hs.out HB.out hlb.out w3 (fun b hb => ⟨Nat.lt_of_lt_of_le (HF.out b hb) HB3.out.size, HB3.out.block b (HF.out b hb)⟩)).mono ?_
      rintro e w4 ⟨ya, yn, yc, yk, rfl, hB4, hy⟩
      have HY := Lib.hid hy
      have HB34 := Lib.hid hB4
      have hx0 := old_below HX0.out hB4
      have hx1 := old_below HX1.out hB4
      have HB4 : Hid (Below w.heap.size w w4) := Lib.hid (HB3.out.trans (hB4.mono HB3.out.size))
      clear hB4 HX0 HX1 a0 a1 a2 b0 b1 b2 hz0 hz1 hy
      have HX0 := Lib.hid hx0
      have HX1 := Lib.hid hx1
      clear hx0 hx1
      obtain ⟨a0, a1, a2, -, -, -, hz0⟩ := block3 HX0.out
      obtain ⟨b0, b1, b2, -, -, -, hz1⟩ := block3 HX1.out
      have HSAME := Lib.hid (Same_any s a b F _ _ w4 hs.out (HA.out.same (fun _ h => h) fun b hb => HB4.out.block b (HF.out b hb)) (HB.out.same (fun _ h => h) fun b hb => HB4.out.block b (HF.out b hb))
        (fun b hb => Nat.lt_of_lt_of_le (HF.out b hb) HB4.out.size) (by have := hla.out; omega) (by have := hlb.out; omega))
      rw [same_some Hq.out] at HSAME
      rcases HX.out with ⟨hia, rfl, rfl, hxr⟩ | ⟨hia, rfl⟩
      · rcases HY.out with ⟨hib, rfl, rfl, hyr⟩ | ⟨hib, rfl⟩
        · rw [hia, hib] at HSAME
          have ham := HA.out.meek (by have := HFEW.out; simp only [vpartss] at this; omega) (by have := hla.out; omega)
          have hbm := HB.out.meek (by have := HFEW.out; simp only [vpartss] at this; omega) (by have := hlb.out; omega)
          have HP1 := Lib.hid (fun t (h : putV sh b = putV sh a ++ t) => put_apart hia hib ham hbm h)
          have HP2 := Lib.hid (fun t (h : putV sh a = putV sh b ++ t) => put_apart hib hia hbm ham h)
          have HTK : Hid (takeAt s.data.toList (putV sh a ++ [0]) = .error 12) := Lib.hid (by
            unfold takeAt
            rw [Hq.out]
            simp only [take_put sh a [0] hia ham]
            rfl)
          have HXR : Hid (RepB w4 (fun b => b < w3.heap.size) (putV sh a) (.slice xa (putV sh a).length xc)) := Lib.hid (hxr.same (fun _ h => h) fun b hb => HB34.out.block b hb)
          have HYR := Lib.hid hyr
          have HL1 : Hid ((putV sh a).length ≤ 549755813888) := Lib.hid (Nat.le_trans (putV_le _ _) hla.out)
          have HL2 : Hid ((putV sh b).length ≤ 549755813888) := Lib.hid (Nat.le_trans (putV_le _ _) hlb.out)
          simp only [Bool.true_and] at HSAME
          clear hia hib ham hbm hxr hyr HX HY
          generalize putV sh a = L1 at *
          generalize putV sh b = L2 at *
          have hs1 := string_at HXR.out
          have hs2 := string_at HYR.out
          by_cases hxy : L1 = L2
          · subst hxy
            go_wp2_with fail
            refine HSAME.out.mono ?_
            rintro e w5 ⟨rfl, hB5⟩
            have HB5 : Hid (Below w.heap.size w w5) := Lib.hid (HB4.out.trans (hB5.mono HB4.out.size))
            clear hB5
            go_wp2_with fail
            go_ret
            exact ⟨rfl, HB5.out⟩
          · have hsf : (L1 == L2) = false := beq_eq_false_iff_ne.2 hxy
            rw [hsf] at HSAME
            have HXY := Lib.hid hxy
            have hst : ((strOf L1).toList == (strOf L2).toList) = false := beq_eq_false_iff_ne.2 fun h => hxy (by simpa [toList_data, strOf] using h)
            clear hxy hsf
            go_wp2_with fail
            refine HSAME.out.mono ?_
            rintro e w5 ⟨rfl, hB5⟩
            have HB45 := Lib.hid hB5
            have HB5 : Hid (Below w.heap.size w w5) := Lib.hid (HB4.out.trans (hB5.mono HB4.out.size))
            clear hB5
            go_wp2_with fail
            have HXR5 : Hid (RepB w5 (fun b => b < w5.heap.size) L1 (.slice xa L1.length xc)) := Lib.hid (HXR.out.same (fun b hb => by have := HB34.out.size; have := HB45.out.size; omega) fun b hb => HB45.out.block b (by have := HB34.out.size; omega))
            have HYR5 : Hid (RepB w5 (fun b => b < w5.heap.size) L2 (.slice ya L2.length yc)) := Lib.hid (HYR.out.same (fun b hb => by have := HB45.out.size; omega) fun b hb => HB45.out.block b hb)
            clear hs1 hs2 hst a0 a1 a2 b0 b1 b2 hz0 hz1
            go_cut [102] from 71 (fun s w' => s = .bool false ∧ Below w5.heap.size w5 w')
            case first =>
              refine wp_region_held (S := fun w' => Below w5.heap.size w5 w') (by kernel_rfl) ?_
              have hS : Below w5.heap.size w5 w5.drew := (Below.refl _ _).drew
              have hcx : ∀ w', Below w5.heap.size w5 w' → (convert 29 9 (.slice xa L1.length xc)).run Try.prog w' = .ok (.string (strOf L1)) w' :=
                fun w' hw' => string_at (HXR5.out.same (fun _ h => h) fun b hb => hw'.block b hb)
              have hcy : ∀ w', Below w5.heap.size w5 w' → (convert 29 9 (.slice ya L2.length yc)).run Try.prog w' = .ok (.string (strOf L2)) w' :=
                fun w' hw' => string_at (HYR5.out.same (fun _ h => h) fun b hb => hw'.block b hb)
              have hxcap : (L1.length : Int) ≤ (xc : Int) := by have := rep_cap HXR5.out; omega
              have hycap : (L2.length : Int) ≤ (yc : Int) := by have := rep_cap HYR5.out; omega
              rcases Nat.lt_trichotomy L1.length L2.length with hlt | heq | hgt
              · have h1 : (L1.length : Int) ≤ (L2.length : Int) := by omega
                have h2 : ¬ (L2.length : Int) ≤ (L1.length : Int) := by omega
                have h3 : (L1.length : Int) ≤ (yc : Int) := by omega
                have hcy2 : ∀ w', Below w5.heap.size w5 w' → (convert 29 9 (.slice ya L1.length yc)).run Try.prog w' = .ok (.string (strOf (L2.take L1.length))) w' :=
                  fun w' hw' => string_at ((HYR5.out.take1 (by omega)).same (fun _ h => h) fun b hb => hw'.block b hb)
                have hst : ((strOf (L2.take L1.length)).toList == (strOf L1).toList) = false := beq_eq_false_iff_ne.2 fun h => by
                  have h9 : L2.take L1.length = L1 := by simpa [toList_data, strOf] using h
                  have := HP1.out (L2.drop L1.length) (by rw [← h9, List.length_take, Nat.min_eq_left (by omega), List.take_append_drop])
                  have := congrArg List.length this
                  simp at this
                  omega
                refine H_take (i := 0) (v := ?_) rfl (by as_aux_lemma => kernel_rfl) (by as_aux_lemma => kernel_rfl) (by as_aux_lemma => kernel_rfl) (fun _ _ _ h => h) (by rfl) hS ?_ ?_
                rotate_left
                · intro w' hw'; go_simp; with_reducible rfl
                go_simp
                refine H_take (i := 1) (v := ?_) rfl (by as_aux_lemma => kernel_rfl) (by as_aux_lemma => kernel_rfl) (by as_aux_lemma => kernel_rfl) (fun _ _ _ h => h) (by rfl) hS ?_ ?_
                rotate_left
                · intro w' hw'; go_simp; with_reducible rfl
                go_simp
                refine H_take (i := 2) (v := ?_) rfl (by as_aux_lemma => kernel_rfl) (by as_aux_lemma => kernel_rfl) (by as_aux_lemma => kernel_rfl) (fun _ _ _ h => h) (by rfl) hS ?_ ?_
                rotate_left
                · intro w' hw'; go_simp; with_reducible rfl
                go_simp
                refine H_take (i := 3) (v := ?_) rfl (by as_aux_lemma => kernel_rfl) (by as_aux_lemma => kernel_rfl) (by as_aux_lemma => kernel_rfl) (fun _ _ _ h => h) (by rfl) hS ?_ ?_
                rotate_left
                · intro w' hw'; go_simp; with_reducible rfl
                go_simp
                refine H_take (i := 4) (v := ?_) rfl (by as_aux_lemma => kernel_rfl) (by as_aux_lemma => kernel_rfl) (by as_aux_lemma => kernel_rfl) (fun _ _ _ h => h) (by rfl) hS ?_ ?_
                rotate_left
                · intro w' hw'; go_simp; with_reducible rfl
                go_simp
                refine H_take (i := 5) (v := ?_) rfl (by as_aux_lemma => kernel_rfl) (by as_aux_lemma => kernel_rfl) (by as_aux_lemma => kernel_rfl) (fun _ _ _ h => h) (by rfl) hS ?_ ?_
                rotate_left
                · intro w' hw'; go_simp; with_reducible rfl
                go_simp
                refine H_take (i := 6) (v := ?_) rfl (by as_aux_lemma => kernel_rfl) (by as_aux_lemma => kernel_rfl) (by as_aux_lemma => kernel_rfl) (fun _ _ _ h => h) (by rfl) hS ?_ ?_
                rotate_left
                · intro w' hw'; go_simp; with_reducible rfl
                go_simp
                refine H_take (i := 7) (v := ?_) rfl (by as_aux_lemma => kernel_rfl) (by as_aux_lemma => kernel_rfl) (by as_aux_lemma => kernel_rfl) (fun _ _ _ h => h) (by rfl) hS ?_ ?_
                rotate_left
                · intro w' hw'; go_simp; with_reducible rfl
                go_simp
                refine H_take (i := 8) (v := ?_) rfl (by as_aux_lemma => kernel_rfl) (by as_aux_lemma => kernel_rfl) (by as_aux_lemma => kernel_rfl) (fun _ _ _ h => h) (by rfl) hS ?_ ?_
                rotate_left
                · intro w' hw'; go_simp; with_reducible rfl
                go_simp
                refine H_take (i := 9) (v := ?_) rfl (by as_aux_lemma => kernel_rfl) (by as_aux_lemma => kernel_rfl) (by as_aux_lemma => kernel_rfl) (fun _ _ _ h => h) (by rfl) hS ?_ ?_
                rotate_left
                · intro w' hw'; go_simp; with_reducible rfl
                go_simp
                refine H_take (i := 10) (v := ?_) rfl (by as_aux_lemma => kernel_rfl) (by as_aux_lemma => kernel_rfl) (by as_aux_lemma => kernel_rfl) (fun _ _ _ h => h) (by rfl) hS ?_ ?_
                rotate_left
                · intro w' hw'; go_simp; with_reducible rfl
                go_simp
                refine H_take (i := 11) (v := ?_) rfl (by as_aux_lemma => kernel_rfl) (by as_aux_lemma => kernel_rfl) (by as_aux_lemma => kernel_rfl) (fun _ _ _ h => h) (by rfl) hS ?_ ?_
                rotate_left
                · intro w' hw'; go_simp; with_reducible rfl
                go_simp
                refine H_take (i := 12) (v := ?_) rfl (by as_aux_lemma => kernel_rfl) (by as_aux_lemma => kernel_rfl) (by as_aux_lemma => kernel_rfl) (fun _ _ _ h => h) (by rfl) hS ?_ ?_
                rotate_left
                · intro w' hw'; go_simp; with_reducible rfl
                go_simp
                refine H_take (i := 13) (v := ?_) rfl (by as_aux_lemma => kernel_rfl) (by as_aux_lemma => kernel_rfl) (by as_aux_lemma => kernel_rfl) (fun _ _ _ h => h) (by rfl) hS ?_ ?_
                rotate_left
                · intro w' hw'; go_simp; with_reducible rfl
                go_simp
                refine H_take (i := 14) (v := ?_) rfl (by as_aux_lemma => kernel_rfl) (by as_aux_lemma => kernel_rfl) (by as_aux_lemma => kernel_rfl) (fun _ _ _ h => h) (by rfl) hS ?_ ?_
                rotate_left
                · intro w' hw'; go_simp; with_reducible rfl
                go_simp
                refine H_take (i := 15) (v := ?_) rfl (by as_aux_lemma => kernel_rfl) (by as_aux_lemma => kernel_rfl) (by as_aux_lemma => kernel_rfl) (fun _ _ _ h => h) (by rfl) hS ?_ ?_
                rotate_left
                · intro w' hw'; go_simp; with_reducible rfl
                go_simp
                refine H_take (i := 16) (v := ?_) rfl (by as_aux_lemma => kernel_rfl) (by as_aux_lemma => kernel_rfl) (by as_aux_lemma => kernel_rfl) (fun _ _ _ h => h) (by rfl) hS ?_ ?_
                rotate_left
                · intro w' hw'; go_simp; with_reducible rfl
                go_simp
                refine H_take (i := 17) (v := ?_) rfl (by as_aux_lemma => kernel_rfl) (by as_aux_lemma => kernel_rfl) (by as_aux_lemma => kernel_rfl) (fun _ _ _ h => h) (by rfl) hS ?_ ?_
                rotate_left
                · intro w' hw'; go_simp; with_reducible rfl
                go_simp
                refine H_take (i := 18) (v := ?_) rfl (by as_aux_lemma => kernel_rfl) (by as_aux_lemma => kernel_rfl) (by as_aux_lemma => kernel_rfl) (fun _ _ _ h => h) (by rfl) hS ?_ ?_
                rotate_left
                · intro w' hw'; go_simp; with_reducible rfl
                go_simp
                refine H_take (i := 19) (v := ?_) rfl (by as_aux_lemma => kernel_rfl) (by as_aux_lemma => kernel_rfl) (by as_aux_lemma => kernel_rfl) (fun _ _ _ h => h) (by rfl) hS ?_ ?_
                rotate_left
                · intro w' hw'; go_simp; with_reducible rfl
                go_simp
                refine H_take (i := 20) (v := ?_) rfl (by as_aux_lemma => kernel_rfl) (by as_aux_lemma => kernel_rfl) (by as_aux_lemma => kernel_rfl) (fun _ _ _ h => h) (by rfl) hS ?_ ?_
                rotate_left
                · intro w' hw'; go_simp; with_reducible rfl
                go_simp
                refine H_take (i := 21) (v := ?_) rfl (by as_aux_lemma => kernel_rfl) (by as_aux_lemma => kernel_rfl) (by as_aux_lemma => kernel_rfl) (fun _ _ _ h => h) (by rfl) hS ?_ ?_
                rotate_left
                · intro w' hw'; go_simp; with_reducible rfl
                go_simp
                refine H_skip (i := 22) rfl (by as_aux_lemma => kernel_rfl) (by as_aux_lemma => kernel_rfl) (by as_aux_lemma => kernel_rfl) (fun _ _ _ h => h) (by rfl) hS ?_
                go_simp
                refine H_skip (i := 23) rfl (by as_aux_lemma => kernel_rfl) (by as_aux_lemma => kernel_rfl) (by as_aux_lemma => kernel_rfl) (fun _ _ _ h => h) (by rfl) hS ?_
                go_simp
                refine H_skip (i := 24) rfl (by as_aux_lemma => kernel_rfl) (by as_aux_lemma => kernel_rfl) (by as_aux_lemma => kernel_rfl) (fun _ _ _ h => h) (by rfl) hS ?_
                go_simp
                refine H_skip (i := 25) rfl (by as_aux_lemma => kernel_rfl) (by as_aux_lemma => kernel_rfl) (by as_aux_lemma => kernel_rfl) (fun _ _ _ h => h) (by rfl) hS ?_
                go_simp
                refine H_skip (i := 26) rfl (by as_aux_lemma => kernel_rfl) (by as_aux_lemma => kernel_rfl) (by as_aux_lemma => kernel_rfl) (fun _ _ _ h => h) (by rfl) hS ?_
                go_simp
                refine H_skip (i := 27) rfl (by as_aux_lemma => kernel_rfl) (by as_aux_lemma => kernel_rfl) (by as_aux_lemma => kernel_rfl) (fun _ _ _ h => h) (by rfl) hS ?_
                go_simp
                refine H_skip (i := 28) rfl (by as_aux_lemma => kernel_rfl) (by as_aux_lemma => kernel_rfl) (by as_aux_lemma => kernel_rfl) (fun _ _ _ h => h) (by rfl) hS ?_
                go_simp
                refine H_skip (i := 29) rfl (by as_aux_lemma => kernel_rfl) (by as_aux_lemma => kernel_rfl) (by as_aux_lemma => kernel_rfl) (fun _ _ _ h => h) (by rfl) hS ?_
                go_simp
                refine H_take (i := 30) (v := ?_) rfl (by as_aux_lemma => kernel_rfl) (by as_aux_lemma => kernel_rfl) (by as_aux_lemma => kernel_rfl) (fun _ _ _ h => h) (by rfl) hS ?_ ?_
                rotate_left
                · intro w' hw'; go_simp; with_reducible rfl
                go_simp
                refine H_take (i := 31) (v := ?_) rfl (by as_aux_lemma => kernel_rfl) (by as_aux_lemma => kernel_rfl) (by as_aux_lemma => kernel_rfl) (fun _ _ _ h => h) (by rfl) hS ?_ ?_
                rotate_left
                · intro w' hw'; go_simp; with_reducible rfl
                go_simp
                refine wpAnyH_done (by as_aux_lemma => kernel_rfl) ?_ _
                go_wp2_with fail
                go_meet
                case rel => exact ⟨rfl, hS⟩
              · have h1 : (L1.length : Int) ≤ (L2.length : Int) := by omega
                have h2 : (L2.length : Int) ≤ (L1.length : Int) := by omega
                have h3 : (L1.length : Int) ≤ (yc : Int) := by omega
                have h4 : (L2.length : Int) ≤ (xc : Int) := by omega
                have hcy2 : ∀ w', Below w5.heap.size w5 w' → (convert 29 9 (.slice ya L1.length yc)).run Try.prog w' = .ok (.string (strOf (L2.take L1.length))) w' :=
                  fun w' hw' => string_at ((HYR5.out.take1 (by omega)).same (fun _ h => h) fun b hb => hw'.block b hb)
                have hst : ((strOf (L2.take L1.length)).toList == (strOf L1).toList) = false := beq_eq_false_iff_ne.2 fun h => HXY.out (by
                  have h9 : L2.take L1.length = L1 := by simpa [toList_data, strOf] using h
                  rw [List.take_of_length_le (by omega)] at h9
                  exact h9.symm)
                have hcx2 : ∀ w', Below w5.heap.size w5 w' → (convert 29 9 (.slice xa L2.length xc)).run Try.prog w' = .ok (.string (strOf (L1.take L2.length))) w' :=
                  fun w' hw' => string_at ((HXR5.out.take1 (by omega)).same (fun _ h => h) fun b hb => hw'.block b hb)
                have hst2 : ((strOf (L1.take L2.length)).toList == (strOf L2).toList) = false := beq_eq_false_iff_ne.2 fun h => HXY.out (by
                  have h9 : L1.take L2.length = L2 := by simpa [toList_data, strOf] using h
                  rw [List.take_of_length_le (by omega)] at h9
                  exact h9)
                have HEQ := Lib.hid heq
                clear heq
                refine H_take (i := 0) (v := ?_) rfl (by as_aux_lemma => kernel_rfl) (by as_aux_lemma => kernel_rfl) (by as_aux_lemma => kernel_rfl) (fun _ _ _ h => h) (by rfl) hS ?_ ?_
                rotate_left
                · intro w' hw'; go_simp; with_reducible rfl
                go_simp
                refine H_take (i := 1) (v := ?_) rfl (by as_aux_lemma => kernel_rfl) (by as_aux_lemma => kernel_rfl) (by as_aux_lemma => kernel_rfl) (fun _ _ _ h => h) (by rfl) hS ?_ ?_
                rotate_left
                · intro w' hw'; go_simp; with_reducible rfl
                go_simp
                refine H_take (i := 2) (v := ?_) rfl (by as_aux_lemma => kernel_rfl) (by as_aux_lemma => kernel_rfl) (by as_aux_lemma => kernel_rfl) (fun _ _ _ h => h) (by rfl) hS ?_ ?_
                rotate_left
                · intro w' hw'; go_simp; with_reducible rfl
                go_simp
                refine H_take (i := 3) (v := ?_) rfl (by as_aux_lemma => kernel_rfl) (by as_aux_lemma => kernel_rfl) (by as_aux_lemma => kernel_rfl) (fun _ _ _ h => h) (by rfl) hS ?_ ?_
                rotate_left
                · intro w' hw'; go_simp; with_reducible rfl
                go_simp
                refine H_take (i := 4) (v := ?_) rfl (by as_aux_lemma => kernel_rfl) (by as_aux_lemma => kernel_rfl) (by as_aux_lemma => kernel_rfl) (fun _ _ _ h => h) (by rfl) hS ?_ ?_
                rotate_left
                · intro w' hw'; go_simp; with_reducible rfl
                go_simp
                refine H_take (i := 5) (v := ?_) rfl (by as_aux_lemma => kernel_rfl) (by as_aux_lemma => kernel_rfl) (by as_aux_lemma => kernel_rfl) (fun _ _ _ h => h) (by rfl) hS ?_ ?_
                rotate_left
                · intro w' hw'; go_simp; with_reducible rfl
                go_simp
                refine H_take (i := 6) (v := ?_) rfl (by as_aux_lemma => kernel_rfl) (by as_aux_lemma => kernel_rfl) (by as_aux_lemma => kernel_rfl) (fun _ _ _ h => h) (by rfl) hS ?_ ?_
                rotate_left
                · intro w' hw'; go_simp; with_reducible rfl
                go_simp
                refine H_take (i := 7) (v := ?_) rfl (by as_aux_lemma => kernel_rfl) (by as_aux_lemma => kernel_rfl) (by as_aux_lemma => kernel_rfl) (fun _ _ _ h => h) (by rfl) hS ?_ ?_
                rotate_left
                · intro w' hw'; go_simp; with_reducible rfl
                go_simp
                refine H_take (i := 8) (v := ?_) rfl (by as_aux_lemma => kernel_rfl) (by as_aux_lemma => kernel_rfl) (by as_aux_lemma => kernel_rfl) (fun _ _ _ h => h) (by rfl) hS ?_ ?_
                rotate_left
                · intro w' hw'; go_simp; with_reducible rfl
                go_simp
                refine H_take (i := 9) (v := ?_) rfl (by as_aux_lemma => kernel_rfl) (by as_aux_lemma => kernel_rfl) (by as_aux_lemma => kernel_rfl) (fun _ _ _ h => h) (by rfl) hS ?_ ?_
                rotate_left
                · intro w' hw'; go_simp; with_reducible rfl
                go_simp
                refine H_take (i := 10) (v := ?_) rfl (by as_aux_lemma => kernel_rfl) (by as_aux_lemma => kernel_rfl) (by as_aux_lemma => kernel_rfl) (fun _ _ _ h => h) (by rfl) hS ?_ ?_
                rotate_left
                · intro w' hw'; go_simp; with_reducible rfl
                go_simp
                refine H_take (i := 11) (v := ?_) rfl (by as_aux_lemma => kernel_rfl) (by as_aux_lemma => kernel_rfl) (by as_aux_lemma => kernel_rfl) (fun _ _ _ h => h) (by rfl) hS ?_ ?_
                rotate_left
                · intro w' hw'; go_simp; with_reducible rfl
                go_simp
                refine H_take (i := 12) (v := ?_) rfl (by as_aux_lemma => kernel_rfl) (by as_aux_lemma => kernel_rfl) (by as_aux_lemma => kernel_rfl) (fun _ _ _ h => h) (by rfl) hS ?_ ?_
                rotate_left
                · intro w' hw'; go_simp; with_reducible rfl
                go_simp
                refine H_take (i := 13) (v := ?_) rfl (by as_aux_lemma => kernel_rfl) (by as_aux_lemma => kernel_rfl) (by as_aux_lemma => kernel_rfl) (fun _ _ _ h => h) (by rfl) hS ?_ ?_
                rotate_left
                · intro w' hw'; go_simp; with_reducible rfl
                go_simp
                refine H_take (i := 14) (v := ?_) rfl (by as_aux_lemma => kernel_rfl) (by as_aux_lemma => kernel_rfl) (by as_aux_lemma => kernel_rfl) (fun _ _ _ h => h) (by rfl) hS ?_ ?_
                rotate_left
                · intro w' hw'; go_simp; with_reducible rfl
                go_simp
                refine H_take (i := 15) (v := ?_) rfl (by as_aux_lemma => kernel_rfl) (by as_aux_lemma => kernel_rfl) (by as_aux_lemma => kernel_rfl) (fun _ _ _ h => h) (by rfl) hS ?_ ?_
                rotate_left
                · intro w' hw'; go_simp; with_reducible rfl
                go_simp
                refine H_take (i := 16) (v := ?_) rfl (by as_aux_lemma => kernel_rfl) (by as_aux_lemma => kernel_rfl) (by as_aux_lemma => kernel_rfl) (fun _ _ _ h => h) (by rfl) hS ?_ ?_
                rotate_left
                · intro w' hw'; go_simp; with_reducible rfl
                go_simp
                refine H_take (i := 17) (v := ?_) rfl (by as_aux_lemma => kernel_rfl) (by as_aux_lemma => kernel_rfl) (by as_aux_lemma => kernel_rfl) (fun _ _ _ h => h) (by rfl) hS ?_ ?_
                rotate_left
                · intro w' hw'; go_simp; with_reducible rfl
                go_simp
                refine H_take (i := 18) (v := ?_) rfl (by as_aux_lemma => kernel_rfl) (by as_aux_lemma => kernel_rfl) (by as_aux_lemma => kernel_rfl) (fun _ _ _ h => h) (by rfl) hS ?_ ?_
                rotate_left
                · intro w' hw'; go_simp; with_reducible rfl
                go_simp
                refine H_take (i := 19) (v := ?_) rfl (by as_aux_lemma => kernel_rfl) (by as_aux_lemma => kernel_rfl) (by as_aux_lemma => kernel_rfl) (fun _ _ _ h => h) (by rfl) hS ?_ ?_
                rotate_left
                · intro w' hw'; go_simp; with_reducible rfl
                go_simp
                refine H_take (i := 20) (v := ?_) rfl (by as_aux_lemma => kernel_rfl) (by as_aux_lemma => kernel_rfl) (by as_aux_lemma => kernel_rfl) (fun _ _ _ h => h) (by rfl) hS ?_ ?_
                rotate_left
                · intro w' hw'; go_simp; with_reducible rfl
                go_simp
                refine H_take (i := 21) (v := ?_) rfl (by as_aux_lemma => kernel_rfl) (by as_aux_lemma => kernel_rfl) (by as_aux_lemma => kernel_rfl) (fun _ _ _ h => h) (by rfl) hS ?_ ?_
                rotate_left
                · intro w' hw'; go_simp; with_reducible rfl
                go_simp
                refine H_take (i := 22) (v := ?_) rfl (by as_aux_lemma => kernel_rfl) (by as_aux_lemma => kernel_rfl) (by as_aux_lemma => kernel_rfl) (fun _ _ _ h => h) (by rfl) hS ?_ ?_
                rotate_left
                · intro w' hw'; go_simp; with_reducible rfl
                go_simp
                refine H_take (i := 23) (v := ?_) rfl (by as_aux_lemma => kernel_rfl) (by as_aux_lemma => kernel_rfl) (by as_aux_lemma => kernel_rfl) (fun _ _ _ h => h) (by rfl) hS ?_ ?_
                rotate_left
                · intro w' hw'; go_simp; with_reducible rfl
                go_simp
                refine H_take (i := 24) (v := ?_) rfl (by as_aux_lemma => kernel_rfl) (by as_aux_lemma => kernel_rfl) (by as_aux_lemma => kernel_rfl) (fun _ _ _ h => h) (by rfl) hS ?_ ?_
                rotate_left
                · intro w' hw'; go_simp; with_reducible rfl
                go_simp
                refine H_take (i := 25) (v := ?_) rfl (by as_aux_lemma => kernel_rfl) (by as_aux_lemma => kernel_rfl) (by as_aux_lemma => kernel_rfl) (fun _ _ _ h => h) (by rfl) hS ?_ ?_
                rotate_left
                · intro w' hw'; go_simp; with_reducible rfl
                go_simp
                refine H_take (i := 26) (v := ?_) rfl (by as_aux_lemma => kernel_rfl) (by as_aux_lemma => kernel_rfl) (by as_aux_lemma => kernel_rfl) (fun _ _ _ h => h) (by rfl) hS ?_ ?_
                rotate_left
                · intro w' hw'; go_simp; with_reducible rfl
                go_simp
                refine H_take (i := 27) (v := ?_) rfl (by as_aux_lemma => kernel_rfl) (by as_aux_lemma => kernel_rfl) (by as_aux_lemma => kernel_rfl) (fun _ _ _ h => h) (by rfl) hS ?_ ?_
                rotate_left
                · intro w' hw'; go_simp; with_reducible rfl
                go_simp
                refine H_take (i := 28) (v := ?_) rfl (by as_aux_lemma => kernel_rfl) (by as_aux_lemma => kernel_rfl) (by as_aux_lemma => kernel_rfl) (fun _ _ _ h => h) (by rfl) hS ?_ ?_
                rotate_left
                · intro w' hw'; go_simp; with_reducible rfl
                go_simp
                refine H_take (i := 29) (v := ?_) rfl (by as_aux_lemma => kernel_rfl) (by as_aux_lemma => kernel_rfl) (by as_aux_lemma => kernel_rfl) (fun _ _ _ h => h) (by rfl) hS ?_ ?_
                rotate_left
                · intro w' hw'; go_simp; with_reducible rfl
                go_simp
                refine H_take (i := 30) (v := ?_) rfl (by as_aux_lemma => kernel_rfl) (by as_aux_lemma => kernel_rfl) (by as_aux_lemma => kernel_rfl) (fun _ _ _ h => h) (by rfl) hS ?_ ?_
                rotate_left
                · intro w' hw'; go_simp; with_reducible rfl
                go_simp
                refine H_take (i := 31) (v := ?_) rfl (by as_aux_lemma => kernel_rfl) (by as_aux_lemma => kernel_rfl) (by as_aux_lemma => kernel_rfl) (fun _ _ _ h => h) (by rfl) hS ?_ ?_
                rotate_left
                · intro w' hw'; go_simp; with_reducible rfl
                go_simp
                refine wpAnyH_done (by as_aux_lemma => kernel_rfl) ?_ _
                go_wp2_with fail
                go_meet
                case rel => exact ⟨rfl, hS⟩
              · have h1 : ¬ (L1.length : Int) ≤ (L2.length : Int) := by omega
                have h2 : (L2.length : Int) ≤ (L1.length : Int) := by omega
                have h4 : (L2.length : Int) ≤ (xc : Int) := by omega
                have hcx2 : ∀ w', Below w5.heap.size w5 w' → (convert 29 9 (.slice xa L2.length xc)).run Try.prog w' = .ok (.string (strOf (L1.take L2.length))) w' :=
                  fun w' hw' => string_at ((HXR5.out.take1 (by omega)).same (fun _ h => h) fun b hb => hw'.block b hb)
                have hst2 : ((strOf (L1.take L2.length)).toList == (strOf L2).toList) = false := beq_eq_false_iff_ne.2 fun h => by
                  have h9 : L1.take L2.length = L2 := by simpa [toList_data, strOf] using h
                  have := HP2.out (L1.drop L2.length) (by rw [← h9, List.length_take, Nat.min_eq_left (by omega), List.take_append_drop])
                  have := congrArg List.length this
                  simp at this
                  omega
                refine H_take (i := 0) (v := ?_) rfl (by as_aux_lemma => kernel_rfl) (by as_aux_lemma => kernel_rfl) (by as_aux_lemma => kernel_rfl) (fun _ _ _ h => h) (by rfl) hS ?_ ?_
                rotate_left
                · intro w' hw'; go_simp; with_reducible rfl
                go_simp
                refine H_take (i := 1) (v := ?_) rfl (by as_aux_lemma => kernel_rfl) (by as_aux_lemma => kernel_rfl) (by as_aux_lemma => kernel_rfl) (fun _ _ _ h => h) (by rfl) hS ?_ ?_
                rotate_left
                · intro w' hw'; go_simp; with_reducible rfl
                go_simp
                refine H_take (i := 2) (v := ?_) rfl (by as_aux_lemma => kernel_rfl) (by as_aux_lemma => kernel_rfl) (by as_aux_lemma => kernel_rfl) (fun _ _ _ h => h) (by rfl) hS ?_ ?_
                rotate_left
                · intro w' hw'; go_simp; with_reducible rfl
                go_simp
                refine H_take (i := 3) (v := ?_) rfl (by as_aux_lemma => kernel_rfl) (by as_aux_lemma => kernel_rfl) (by as_aux_lemma => kernel_rfl) (fun _ _ _ h => h) (by rfl) hS ?_ ?_
                rotate_left
                · intro w' hw'; go_simp; with_reducible rfl
                go_simp
                refine H_take (i := 4) (v := ?_) rfl (by as_aux_lemma => kernel_rfl) (by as_aux_lemma => kernel_rfl) (by as_aux_lemma => kernel_rfl) (fun _ _ _ h => h) (by rfl) hS ?_ ?_
                rotate_left
                · intro w' hw'; go_simp; with_reducible rfl
                go_simp
                refine H_take (i := 5) (v := ?_) rfl (by as_aux_lemma => kernel_rfl) (by as_aux_lemma => kernel_rfl) (by as_aux_lemma => kernel_rfl) (fun _ _ _ h => h) (by rfl) hS ?_ ?_
                rotate_left
                · intro w' hw'; go_simp; with_reducible rfl
                go_simp
                refine H_skip (i := 6) rfl (by as_aux_lemma => kernel_rfl) (by as_aux_lemma => kernel_rfl) (by as_aux_lemma => kernel_rfl) (fun _ _ _ h => h) (by rfl) hS ?_
                go_simp
                refine H_skip (i := 7) rfl (by as_aux_lemma => kernel_rfl) (by as_aux_lemma => kernel_rfl) (by as_aux_lemma => kernel_rfl) (fun _ _ _ h => h) (by rfl) hS ?_
                go_simp
                refine H_skip (i := 8) rfl (by as_aux_lemma => kernel_rfl) (by as_aux_lemma => kernel_rfl) (by as_aux_lemma => kernel_rfl) (fun _ _ _ h => h) (by rfl) hS ?_
                go_simp
                refine H_skip (i := 9) rfl (by as_aux_lemma => kernel_rfl) (by as_aux_lemma => kernel_rfl) (by as_aux_lemma => kernel_rfl) (fun _ _ _ h => h) (by rfl) hS ?_
                go_simp
                refine H_skip (i := 10) rfl (by as_aux_lemma => kernel_rfl) (by as_aux_lemma => kernel_rfl) (by as_aux_lemma => kernel_rfl) (fun _ _ _ h => h) (by rfl) hS ?_
                go_simp
                refine H_skip (i := 11) rfl (by as_aux_lemma => kernel_rfl) (by as_aux_lemma => kernel_rfl) (by as_aux_lemma => kernel_rfl) (fun _ _ _ h => h) (by rfl) hS ?_
                go_simp
                refine H_skip (i := 12) rfl (by as_aux_lemma => kernel_rfl) (by as_aux_lemma => kernel_rfl) (by as_aux_lemma => kernel_rfl) (fun _ _ _ h => h) (by rfl) hS ?_
                go_simp
                refine H_skip (i := 13) rfl (by as_aux_lemma => kernel_rfl) (by as_aux_lemma => kernel_rfl) (by as_aux_lemma => kernel_rfl) (fun _ _ _ h => h) (by rfl) hS ?_
                go_simp
                refine H_take (i := 14) (v := ?_) rfl (by as_aux_lemma => kernel_rfl) (by as_aux_lemma => kernel_rfl) (by as_aux_lemma => kernel_rfl) (fun _ _ _ h => h) (by rfl) hS ?_ ?_
                rotate_left
                · intro w' hw'; go_simp; with_reducible rfl
                go_simp
                refine H_take (i := 15) (v := ?_) rfl (by as_aux_lemma => kernel_rfl) (by as_aux_lemma => kernel_rfl) (by as_aux_lemma => kernel_rfl) (fun _ _ _ h => h) (by rfl) hS ?_ ?_
                rotate_left
                · intro w' hw'; go_simp; with_reducible rfl
                go_simp
                refine H_take (i := 16) (v := ?_) rfl (by as_aux_lemma => kernel_rfl) (by as_aux_lemma => kernel_rfl) (by as_aux_lemma => kernel_rfl) (fun _ _ _ h => h) (by rfl) hS ?_ ?_
                rotate_left
                · intro w' hw'; go_simp; with_reducible rfl
                go_simp
                refine H_take (i := 17) (v := ?_) rfl (by as_aux_lemma => kernel_rfl) (by as_aux_lemma => kernel_rfl) (by as_aux_lemma => kernel_rfl) (fun _ _ _ h => h) (by rfl) hS ?_ ?_
                rotate_left
                · intro w' hw'; go_simp; with_reducible rfl
                go_simp
                refine H_take (i := 18) (v := ?_) rfl (by as_aux_lemma => kernel_rfl) (by as_aux_lemma => kernel_rfl) (by as_aux_lemma => kernel_rfl) (fun _ _ _ h => h) (by rfl) hS ?_ ?_
                rotate_left
                · intro w' hw'; go_simp; with_reducible rfl
                go_simp
                refine H_take (i := 19) (v := ?_) rfl (by as_aux_lemma => kernel_rfl) (by as_aux_lemma => kernel_rfl) (by as_aux_lemma => kernel_rfl) (fun _ _ _ h => h) (by rfl) hS ?_ ?_
                rotate_left
                · intro w' hw'; go_simp; with_reducible rfl
                go_simp
                refine H_take (i := 20) (v := ?_) rfl (by as_aux_lemma => kernel_rfl) (by as_aux_lemma => kernel_rfl) (by as_aux_lemma => kernel_rfl) (fun _ _ _ h => h) (by rfl) hS ?_ ?_
                rotate_left
                · intro w' hw'; go_simp; with_reducible rfl
                go_simp
                refine H_take (i := 21) (v := ?_) rfl (by as_aux_lemma => kernel_rfl) (by as_aux_lemma => kernel_rfl) (by as_aux_lemma => kernel_rfl) (fun _ _ _ h => h) (by rfl) hS ?_ ?_
                rotate_left
                · intro w' hw'; go_simp; with_reducible rfl
                go_simp
                refine H_take (i := 22) (v := ?_) rfl (by as_aux_lemma => kernel_rfl) (by as_aux_lemma => kernel_rfl) (by as_aux_lemma => kernel_rfl) (fun _ _ _ h => h) (by rfl) hS ?_ ?_
                rotate_left
                · intro w' hw'; go_simp; with_reducible rfl
                go_simp
                refine H_take (i := 23) (v := ?_) rfl (by as_aux_lemma => kernel_rfl) (by as_aux_lemma => kernel_rfl) (by as_aux_lemma => kernel_rfl) (fun _ _ _ h => h) (by rfl) hS ?_ ?_
                rotate_left
                · intro w' hw'; go_simp; with_reducible rfl
                go_simp
                refine H_take (i := 24) (v := ?_) rfl (by as_aux_lemma => kernel_rfl) (by as_aux_lemma => kernel_rfl) (by as_aux_lemma => kernel_rfl) (fun _ _ _ h => h) (by rfl) hS ?_ ?_
                rotate_left
                · intro w' hw'; go_simp; with_reducible rfl
                go_simp
                refine H_take (i := 25) (v := ?_) rfl (by as_aux_lemma => kernel_rfl) (by as_aux_lemma => kernel_rfl) (by as_aux_lemma => kernel_rfl) (fun _ _ _ h => h) (by rfl) hS ?_ ?_
                rotate_left
                · intro w' hw'; go_simp; with_reducible rfl
                go_simp
                refine H_take (i := 26) (v := ?_) rfl (by as_aux_lemma => kernel_rfl) (by as_aux_lemma => kernel_rfl) (by as_aux_lemma => kernel_rfl) (fun _ _ _ h => h) (by rfl) hS ?_ ?_
                rotate_left
                · intro w' hw'; go_simp; with_reducible rfl
                go_simp
                refine H_take (i := 27) (v := ?_) rfl (by as_aux_lemma => kernel_rfl) (by as_aux_lemma => kernel_rfl) (by as_aux_lemma => kernel_rfl) (fun _ _ _ h => h) (by rfl) hS ?_ ?_
                rotate_left
                · intro w' hw'; go_simp; with_reducible rfl
                go_simp
                refine H_take (i := 28) (v := ?_) rfl (by as_aux_lemma => kernel_rfl) (by as_aux_lemma => kernel_rfl) (by as_aux_lemma => kernel_rfl) (fun _ _ _ h => h) (by rfl) hS ?_ ?_
                rotate_left
                · intro w' hw'; go_simp; with_reducible rfl
                go_simp
                refine H_take (i := 29) (v := ?_) rfl (by as_aux_lemma => kernel_rfl) (by as_aux_lemma => kernel_rfl) (by as_aux_lemma => kernel_rfl) (fun _ _ _ h => h) (by rfl) hS ?_ ?_
                rotate_left
                · intro w' hw'; go_simp; with_reducible rfl
                go_simp
                refine H_take (i := 30) (v := ?_) rfl (by as_aux_lemma => kernel_rfl) (by as_aux_lemma => kernel_rfl) (by as_aux_lemma => kernel_rfl) (fun _ _ _ h => h) (by rfl) hS ?_ ?_
                rotate_left
                · intro w' hw'; go_simp; with_reducible rfl
                go_simp
                refine H_take (i := 31) (v := ?_) rfl (by as_aux_lemma => kernel_rfl) (by as_aux_lemma => kernel_rfl) (by as_aux_lemma => kernel_rfl) (fun _ _ _ h => h) (by rfl) hS ?_ ?_
                rotate_left
                · intro w' hw'; go_simp; with_reducible rfl
                go_simp
                refine wpAnyH_done (by as_aux_lemma => kernel_rfl) ?_ _
                go_wp2_with fail
                go_meet
                case rel => exact ⟨rfl, hS⟩
            case rest =>
              obtain ⟨rfl, hB6⟩ := hcut
              have HB6 := Lib.hid hB6
              clear hB6
              have HSZ : Hid (w5.heap.size ≤ wc.heap.size) := Lib.hid HB6.out.size
              obtain ⟨ib, hib, hib0, hib1, hib2⟩ := info_parts infoByte
              have hown0 := World.ownsRow_lit wc #[] 0 (base := wc.heap.size) (e := 5) (size := 1) (Nat.le_refl _) (by unfold maxLen; omega) rfl
              have hy0 : Yields (wc.alloc (.cells #[] 5)) (.slice xa L1.length xc) L1.length 1 (L1.map byteV) :=
                (HXR5.out.same (w' := wc.alloc (.cells #[] 5)) (G := fun _ => True) (fun _ _ => trivial) fun b hb => by rw [Below.heap_alloc _ _ _ (by have := HSZ.out; omega), HB6.out.block b hb]).yields
              have HO0 := Lib.hid hown0
              have HY0 := Lib.hid hy0
              clear hown0 hy0
              go_wp2_with (at_builtin; refine wpList_append_any _ rfl _ _ 29 rfl wc.heap.size 5 ib (.int .u8 0) 1 1 Try.underlying29 hib hib0 hib1 hib2 rfl (by decide) _ 0 [] rfl HO0.out (.slice xa L1.length xc) rfl L1.length (L1.map byteV) HY0.out ?c1 ?c2 ?c3 ?_)
              case c1 => have := HL1.out; unfold maxLen; omega
              case c2 => have := HL1.out; omega
              intro v6 w6 happ
              obtain ⟨a6, c6, rfl⟩ := owned_slice happ.1
              simp only [Nat.zero_add, List.nil_append] at happ ⊢
              have HB7 : Hid (Below w.heap.size w w6) := Lib.hid (by
                have h1 := happ.2.1
                have hz := HSZ.out
                have hz5 := HB5.out.size
                have h2 : Below w.heap.size w wc := HB5.out.trans (HB6.out.mono hz5)
                exact (h2.alloc h2.size _).grown h1 (by simp; omega) (fun j hj => by simp [Value.ownBlock] at hj; omega))
              have ho1 := happ.1
              simp only [Nat.zero_add, List.nil_append] at ho1
              have HO1 := Lib.hid ho1
              have ho1z : wc.heap.size ≤ w6.heap.size := Nat.le_trans (by simp) happ.2.1.size
              clear happ ho1
              have hy1 : Yields (w6.alloc (.cells #[.int .u8 0] 5)) (.slice (some ⟨w6.heap.size, 0, none⟩) 1 1) 1 1 [.int .u8 0] := by
                refine ⟨rfl, fun u hu => ?_, .inr ⟨_, 1, rfl, fun j u hj => ?_⟩⟩
                · simp at hu; rw [hu]; rfl
                · cases j with
                  | zero => simp at hj; subst hj; exact cell_of_row _ w6.heap.size 0 _ _ _ (heap_new _ _ _ rfl)
                  | succ j => simp at hj
              have HY1 := Lib.hid hy1
              have HS6 : Hid (wc.heap.size ≤ w6.heap.size + 1) := Lib.hid (by have := ho1z; omega)
              clear hy1
              go_wp2_with (at_builtin; go_loud (refine wpList_append_any _ rfl _ _ 29 rfl wc.heap.size 5 ib (.int .u8 0) 1 1 Try.underlying29 hib hib0 hib1 hib2 rfl (by decide) _ L1.length (L1.map byteV) rfl (HO1.out.alloc _) (.slice (some ⟨w6.heap.size, 0, none⟩) 1 1) rfl 1 [.int .u8 0] HY1.out ?d1 ?d2 ?d3 ?_))
              case d1 => have := HL1.out; unfold maxLen; omega
              case d2 => have := HL1.out; omega
              case d3 => simpa using HS6.out
              rintro v7 w7 ⟨hown7, hg7, _⟩
              have HB8 : Hid (Below w.heap.size w w7) := Lib.hid ((HB7.out.alloc HB7.out.size _).grown hg7 (by have := HB7.out.size; simp; omega) (fun j hj => by have := ((HO1.out.alloc (.cells #[.int .u8 0] 5)).lt j hj).1; have := HSZ.out; have := HB5.out.size; omega))
              have hr7 : RepB w7 (fun b => wc.heap.size ≤ b ∧ b < w7.heap.size) (L1 ++ [0]) v7 := RepB.of_own (by
                rw [List.length_append, List.map_append]; exact hown7)
              have HR7 := Lib.hid hr7
              clear hr7 hown7 hg7
              obtain ⟨a7, c7, rfl, _⟩ := HR7.out.slice
              have hr8 := HR7.out
              rw [show (L1 ++ [(0 : UInt8)]).length = L1.length + 1 from by simp] at hr8
              have HR8 := Lib.hid hr8
              clear hr8
              rw [show (L1 ++ [(0 : UInt8)]).length = L1.length + 1 from by simp]
              go_wp2_with fail
              refine (Take_any s (L1 ++ [0]) _ _ _ hs.out HR8.out (fun b hb => hb.2) (by have := HL1.out; simp; omega)).mono ?_
              rintro e w8 ⟨hB9, hp⟩
              rw [HTK.out] at hp
              subst hp
              have HB9 : Hid (Below w.heap.size w w8) := Lib.hid (HB8.out.trans (hB9.mono HB8.out.size))
              have HWD := Lib.hid (fun w => wide_any s w (exact_shape Hq.out).2)
              clear hB9
              go_wp2_with fail
              refine (HWD.out _).mono ?_
              rintro e w9 ⟨wb, rfl, hB10⟩
              have HB10 : Hid (Below w.heap.size w w9) := Lib.hid ((HB9.out.alloc HB9.out.size _).trans (hB10.mono (by have := HB9.out.size; simp; omega)))
              clear hB10
              cases wb
              all_goals
                go_wp2_with fail
                go_ret
                exact ⟨rfl, HB10.out⟩
        · rw [hia, hib] at HSAME
          simp only [Bool.and_false, Bool.false_and] at HSAME
          clear hia hib
          go_wp2_with fail
          refine HSAME.out.mono ?_
          rintro e w5 ⟨rfl, hB5⟩
          have HB5 : Hid (Below w.heap.size w w5) := Lib.hid (HB4.out.trans (hB5.mono HB4.out.size))
          clear hB5
          go_wp2_with fail
          go_ret
          exact ⟨rfl, HB5.out⟩
      · rw [hia] at HSAME
        simp only [Bool.false_and] at HSAME
        clear hia
        go_wp2_with fail
        refine HSAME.out.mono ?_
        rintro e w5 ⟨rfl, hB5⟩
        have HB5 : Hid (Below w.heap.size w w5) := Lib.hid (HB4.out.trans (hB5.mono HB4.out.size))
        clear hB5
        go_wp2_with fail
        all_goals go_ret
        all_goals exact ⟨rfl, HB5.out⟩
end Go.Proofs.Ytafodaoehnggfaa.M
