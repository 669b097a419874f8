/- Package timer: Apart. -/
import Derived.Test.YtckankoaiapcoaaTM14
import Derived.Test.YtckankoaiapcoaaTM15
import Derived.Test.YtckankoaiapcoaaTM16
import Derived.Test.YtckankoaiapcoaaTM12
import Derived.Test.YtckankoaiapcoaaTM17
import Derived.Deep.LoopGhost
import Derived.Laws.MakeOwn
namespace Go.Proofs.Ytckankoaiapcoaa.M
open Go.RowKit Go.Sort

theorem fSort : Try.laysSort_ren.f 189 = 33 := by kernel_rfl
theorem fCompact : Try.laysCompact_ren.f 20 = 34 := by kernel_rfl

theorem Sort_any (base : Nat) (l : List Int) (v : Value) (w : World) (h : IR base l v w) (hl : l.length ≤ 1000000) :
    Calls Try.prog 33 #[v] w fun e w' => e = .returned (.tuple #[]) ∧ Turned base (sortN l) v v w w' := by
  rw [← fSort]
  rcases h.split with ⟨rfl, rfl⟩ | ⟨g, cap, cur, rfl, hb, hlt, hcur, h1, h2, h3, h4⟩
  · refine (Any.slices_Sort_int_none Try.laysSort none 0 w).mono ?_
    rintro e w' ⟨rfl, rfl⟩
    exact ⟨rfl, by simpa [sortN] using IR.bare base w', gb_refl _ _, .inl rfl⟩
  · refine (Any.slices_Sort_int Try.laysSort g 0 cap l w h.holds hlt (by omega)).mono ?_
    rintro e w' ⟨rfl, n, os, rfl⟩
    refine ⟨rfl, ⟨?_, fun x hx => h.rng x (sortN_mem.1 hx)⟩, grownBy_sortedI _, .inl rfl⟩
    have := ownsRow_sortedI (n := n) (os := os) (base := base) (ts := sortN l) (ss := l) (sortN_len l) hb hcur h1 (by unfold maxLen; omega) (by omega)
    rw [sortN_len]
    exact this

theorem Compact_any (base : Nat) (l : List Int) (v : Value) (w : World) (h : IR base l v w) (hl : l.length ≤ 1000000) :
    Calls Try.prog 34 #[v] w fun e w' => ∃ a c, e = .returned (.slice a (Lib.compact l).length c) ∧ w.grownBy w' v.ownBlock := by
  rw [← fCompact]
  rcases h.split with ⟨rfl, rfl⟩ | ⟨g, cap, cur, rfl, hb, hlt, hcur, h1, h2, h3, h4⟩
  · refine (Any.slices_Compact_int_empty Try.laysCompact none 0 w).mono ?_
    rintro e w' ⟨rfl, rfl⟩
    exact ⟨none, 0, rfl, gb_refl _ _⟩
  · refine (Any.slices_Compact_int Try.laysCompact g 0 cap l w h.holds (by omega) h1).mono ?_
    rintro e w' ⟨rfl, q, rfl⟩
    exact ⟨_, _, rfl, grown_putRow _⟩

/-- Of a row in order as many are left as there are unlike ones. -/
theorem compact_len {S : List Int} (hs : S.Pairwise (· ≤ ·)) : (Lib.compact S).length = S.length ↔ S.Nodup := by
  have e : (Lib.compact S).length = ((List.range S.length).filter (Lib.keeps S.toArray)).length := by
    unfold Lib.compact Lib.compactUpTo
    rw [List.length_map]
  have hat : ∀ j (hj : j < S.length), S.toArray[j]! = S[j] := fun j hj => by simp [hj]
  rw [e]
  have h1 : ((List.range S.length).filter (Lib.keeps S.toArray)).length = S.length ↔ ∀ j, j < S.length → Lib.keeps S.toArray j = true := by
    constructor
    · intro h j hj
      have h2 : ((List.range S.length).filter (Lib.keeps S.toArray)).length = (List.range S.length).length := by rw [h, List.length_range]
      exact (List.length_filter_eq_length_iff.1 h2) j (List.mem_range.2 hj)
    · intro h
      rw [List.filter_eq_self.2 fun j hj => h j (List.mem_range.1 hj), List.length_range]
  rw [h1]
  have hle : ∀ i j (hi : i < S.length) (hj : j < S.length), i < j → S[i] ≤ S[j] := fun i j hi hj hij => List.pairwise_iff_getElem.1 hs i j hi hj hij
  constructor
  · intro h
    refine List.pairwise_iff_getElem.2 fun i j hi hj hij => ?_
    have hk := h j hj
    unfold Lib.keeps at hk
    rw [decide_eq_true_eq] at hk
    rcases hk with hk | hk
    · omega
    · rw [hat j hj, hat (j - 1) (by omega)] at hk
      have h2 := hle (j - 1) j (by omega) hj (by omega)
      intro e2
      by_cases e3 : i = j - 1
      · subst e3; exact hk e2.symm
      · have h3 := hle i (j - 1) hi (by omega) (by omega)
        omega
  · intro h j hj
    unfold Lib.keeps
    rw [decide_eq_true_eq]
    by_cases h0 : j = 0
    · exact .inl h0
    · right
      rw [hat j hj, hat (j - 1) (by omega)]
      have := List.pairwise_iff_getElem.1 h (j - 1) j (by omega) hj (by omega)
      exact fun e => this e.symm

/-- The spans of all draws. -/
def spansI (least : Int) (ds : List Int) : List Int := ds.map (spanI least)

set_option maxRecDepth 20000 in
set_option maxHeartbeats 1600000 in
theorem Apart_any (least : Int) (ds : List Int) (v : Value) (F : Nat → Prop) (hl : ds.length ≤ 1000000) (w : World) (h : RepQ w F ds v) (hF : ∀ k, F k → k < w.heap.size) :
    Calls Try.prog 11 #[.int .i64 least, v] w fun e w' => e = .returned (.bool (decide ((spansI least ds).Nodup))) ∧ Below w.heap.size w w' := by
  obtain ⟨va, vc, rfl, hvl⟩ := h.slice
  obtain ⟨n, hn⟩ : ∃ n, n = ds.length := ⟨_, rfl⟩
  have HN := Lib.hid hn
  have HR := Lib.hid h
  have HFF := Lib.hid hF
  rw [← hn] at hvl hl ⊢
  obtain ⟨ib, hib, hib0, hib1, hib2⟩ := info_parts infoInt
  obtain ⟨w1, hmk, hrow, hg1⟩ := run_make_own (P := Try.prog) w w.heap.size 28 3 ib (.int .i64 0) 1 Try.underlying28 hib hib0 hib1 .i64 .i64 n (by rw [hib2]; omega) (by unfold maxLen; omega) (Nat.le_refl _)
  have hown : OwnI w [] (.slice (some ⟨w.heap.size, 0, none⟩) 0 n) w1 := ⟨below_of_none hg1, ⟨hrow, fun z hz => by simp at hz⟩⟩
  have HO1 := Lib.hid hown
  obtain ⟨g, hgg⟩ : ∃ g, g = w.heap.size := ⟨_, rfl⟩
  rw [← hgg] at HO1 hmk
  clear h hn hF hib hib0 hib1 hib2 hrow hg1 hown hgg
  go_enter Try.func11, Try.ntmps11
  go_wp2_with fail
  go_loopw [5, 7, 13] (fun sv _ i wr => ∃ k : Nat, k ≤ n ∧ i = .int .i64 (k : Int) ∧ Hid (OwnI w (spansI least (ds.take k)) sv wr)) (fun _ _ i _ => n - (intOf i).toNat)
  case atStart => exact ⟨0, Nat.zero_le _, rfl, HO1⟩
  case round =>
    obtain ⟨k, hk, rfl, HO⟩ := hrel
    obtain ⟨oa, oc, hov⟩ := HO.out.2.slice
    have hol : (spansI least (ds.take k)).length = k := by unfold spansI; rw [List.length_map, List.length_take, ← HN.out]; omega
    rw [hol] at hov
    subst hov
    by_cases hlt : k < n
    · have hkk : (k : Int) < (n : Int) := by omega
      have hk2 : k < ds.length := by rw [← HN.out]; exact hlt
      obtain ⟨b, off, rfl, -, e0, e1, e2⟩ := (HR.out.same (fun _ h => h) fun q hq => HO.out.1.block q (HFF.out q hq)).elem' (m := n) HN.out k hlt
      obtain ⟨d, hd⟩ : ∃ d, d = ds[k] := ⟨_, rfl⟩
      rw [← hd] at e0 e1 e2
      have HSP := Lib.hid (Span_any least d ⟨e1, e2⟩ wr)
      obtain ⟨s, hs⟩ : ∃ s, s = spanI least d := ⟨_, rfl⟩
      have hsb := span_in least d e1
      rw [← hs] at HSP hsb
      have HNX : Hid (spansI least (ds.take (k + 1)) = spansI least (ds.take k) ++ [s]) := Lib.hid (by unfold spansI; rw [List.take_succ_eq_append_getElem hk2, List.map_append, hs, hd]; rfl)
      have HOL := Lib.hid hol
      clear hd hs hol hk2
      go_wp2_with fail
      refine HSP.out.mono ?_
      rintro e w3 ⟨rfl, rfl⟩
      go_wp2_with (at_builtin; refine wpList_ir_append rfl (.tmp 17) (.tmp 21) rfl rfl rfl (HO.out.2.next (below_alloc _ _)) (by have := HO.out.1.size; simp; omega) rfl (one_int rfl (by omega)) (by rw [HOL.out]; simp; omega) ?_)
      intro v4 w4 ht4
      rw [← HNX.out] at ht4
      have HO4 := Lib.hid ((HO.out.next (below_alloc _ _)).turned ht4)
      clear ht4
      go_wp2_with fail
      go_roundw
      case rel => exact ⟨k + 1, by omega, by go_num, HO4⟩
      case measure => simp only [intOf]; omega
    · obtain rfl : k = n := by omega
      have hkk : ¬ ((k : Nat) : Int) < (k : Int) := by omega
      have ho := HO.out
      rw [HN.out, List.take_length, ← HN.out] at ho
      rw [HN.out, List.take_length, ← HN.out] at hol
      have HS := Lib.hid (Sort_any w.heap.size _ _ wr ho.2 (by rw [hol]; exact hl))
      have HOO := Lib.hid ho
      have HOL := Lib.hid hol
      clear HO ho hol
      go_wp2_with fail
      refine HS.out.mono ?_
      rintro e w3 ⟨rfl, ht3⟩
      have HC := Lib.hid (Compact_any w.heap.size _ _ w3 ht3.1 (by rw [sortN_len, HOL.out]; exact hl))
      have HB3 := Lib.hid (HOO.out.turned ht3).1
      have HT3 := Lib.hid ht3.1
      clear HS ht3
      go_wp2_with fail
      refine HC.out.mono ?_
      rintro e w4 ⟨a4, c4, rfl, hg4⟩
      have HB4 : Hid (Below w.heap.size w w4) := Lib.hid (by
        refine below_only HB3.out (only_of_grown (X := fun j => (Value.slice oa k oc).ownBlock = some j) hg4 fun j hj => hj) fun q hq => (HT3.out.block_lt hq).1)
      obtain ⟨m, hm⟩ : ∃ m, m = (Lib.compact (sortN (spansI least ds))).length := ⟨_, rfl⟩
      have HM : Hid (decide ((spansI least ds).Nodup) = ((m : Int) == (k : Int))) := Lib.hid (by
        rw [Bool.eq_iff_iff, decide_eq_true_iff, beq_iff_eq, hm]
        have h1 := compact_len (sortN_le (spansI least ds))
        rw [sortN_len, HOL.out, (sortN_perm (spansI least ds)).nodup_iff] at h1
        rw [← h1]
        omega)
      rw [← hm]
      clear hm hg4
      go_wp2_with fail
      go_ret
      exact ⟨by rw [HM.out]; rfl, HB4.out⟩
end Go.Proofs.Ytckankoaiapcoaa.M
